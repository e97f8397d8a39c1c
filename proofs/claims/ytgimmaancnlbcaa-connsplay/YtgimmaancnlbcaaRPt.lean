/- Proved here: what the document's Put answers, and leaves. Conditions: as each theorem states them. -/
import Derived.Test.YtgimmaancnlbcaaAp
namespace Go.Proofs.Ytgimmaancnlbcaa
set_option linter.unusedSimpArgs false
set_option linter.unusedVariables false
open Go.RowKit Go.Shelf

theorem below_g0 {X Y : World} (hg : X.grownBy Y (Value.slice none 0 0).ownBlock) : Below X.heap.size X Y :=
  (Below.refl _ X).grown hg (Nat.le_refl _) (fun j e => by simp [Value.ownBlock] at e)
theorem rput_ret {L : List En} {room : Nat} {k : Ky} (hok : Ok L room) (hr : rightK k = true) (hf : (fnd L k).2 = false) (hl : ¬ room ≤ L.length) : putE L room k = 0 := by
  unfold putE
  rw [if_neg (by rw [hr]; decide), if_neg (by rw [hf]; decide), if_neg (by omega)]

set_option maxHeartbeats 8000000 in
set_option maxRecDepth 20000 in
theorem rput_calls {w : World} {q room : Nat} {L : List En} (h : RT w q L room) (hok : Ok L room) (k : Ky) (n : Int) :
    Calls Try.prog 13 #[.pointer (some ⟨q, 0, none⟩), keyV k, .int .i64 n] w fun e w' => e = .returned (.int .i64 (putE L room k)) ∧ RT w' q (putL L room (k, n)) room ∧ But q w.heap.size w w' := by
  have K0 := bk_new w #[.int .i64 k.1, .int .i64 k.2.1, .int .i64 k.2.2] 24
  have B0 := below_box w (.cells #[.int .i64 k.1, .int .i64 k.2.1, .int .i64 k.2.2] 24)
  have R0 := h.below B0 (Nat.le_refl _)
  have hqw := h.lt
  have hlen : L.length ≤ 64 := Nat.le_trans hok.len hok.room
  clear h
  go_enter Try.func13, Try.ntmps13
  go_wp2_with fail
  refine (rright_calls k _).mono ?_
  rintro e w1 ⟨rfl, b1⟩
  have R1 := R0.below b1 (Nat.le_refl _)
  have K1 := K0.below b1 K0.lt
  have B1 := B0.trans (b1.mono B0.size)
  clear R0 K0 B0 b1
  cases hr : rightK k with
  | false =>
    have e1 : putE L room k = 1 := by unfold putE; rw [if_pos hr]
    have HE : Hid (putE L room k = 1) := e1
    have HT : Hid (putL L room (k, n) = L) := by show _ = _; unfold putL; rw [if_neg (by rw [e1]; decide)]
    clear hr e1
    go_wp2
    go_ret
    exact ⟨cret_int HE.out.symm, by rw [HT.out]; exact R1, But.of B1⟩
  | true =>
    have k0 := K1.cell 0 _ rfl
    have k1 := K1.cell 1 _ rfl
    have k2 := K1.cell 2 _ rfl
    go_wp2_with fail
    refine (rat_calls R1 hok k).mono ?_
    rintro e w2 ⟨rfl, b2⟩
    have R2 := R1.below b2 (Nat.le_refl _)
    have K2 := K1.below b2 K1.lt
    have B2 := B1.trans (b2.mono B1.size)
    clear R1 K1 B1 b2 k0 k1 k2
    cases hf : (fnd L k).2 with
    | true =>
      have e1 : putE L room k = 7 := by unfold putE; rw [if_neg (by rw [hr]; decide), if_pos hf]
      have HE : Hid (putE L room k = 7) := e1
      have HT : Hid (putL L room (k, n) = L) := by show _ = _; unfold putL; rw [if_neg (by rw [e1]; decide)]
      rw [atN_pos hf]
      generalize (fnd L k).1 = i
      have dn : decide ((0 : Int) ≤ (i : Int)) = true := by simp
      clear hr hf e1
      go_wp2
      go_ret
      exact ⟨cret_int HE.out.symm, by rw [HT.out]; exact R2, But.of B2⟩
    | false =>
      rw [atN_neg hf]
      have dn : decide ((0 : Int) ≤ -1) = false := by decide
      obtain ⟨a, c, h1, h2⟩ := R2.ex
      have q0 := h1.cell 0 _ rfl
      have q1 := h1.cell 1 _ rfl
      by_cases hfull : room ≤ L.length
      · have e1 : putE L room k = 9 := by unfold putE; rw [if_neg (by rw [hr]; decide), if_neg (by rw [hf]; decide), if_pos (by have := hok.len; omega)]
        have HE : Hid (putE L room k = 9) := e1
        have HT : Hid (putL L room (k, n) = L) := by show _ = _; unfold putL; rw [if_neg (by rw [e1]; decide)]
        have dl : decide ((room : Int) ≤ (L.length : Int)) = true := by simp; omega
        have R3 := R2.below (Below.refl w2.heap.size w2).drew (Nat.le_refl _)
        clear hr hf e1 h1 h2 R2
        go_wp2
        go_region
        go_wp2
        go_ret
        exact ⟨cret_int HE.out.symm, by rw [HT.out]; exact R3, But.of B2.drew⟩
      · have e1 := rput_ret hok hr hf hfull
        have HE : Hid (putE L room k = 0) := e1
        have HT : Hid (putL L room (k, n) = ins L (k, n)) := by show _ = _; unfold putL; rw [if_pos e1]
        have HI : Hid (ins L (k, n) = L.take (fnd L k).1 ++ (k, n) :: L.drop (fnd L k).1) := ins_at (e := (k, n)) hf
        have HF : Hid ((fnd L k).2 = false) := hf
        have HO : Hid (Ok L room) := hok
        have dl : decide ((room : Int) ≤ (L.length : Int)) = false := by simp; omega
        have E2 := isE_row h2 rfl
        have hlc : L.length ≤ c := by
          rcases h2.2 with ⟨e, e0⟩ | ⟨g, cap, cur, e, _, _, hc, _⟩
          · omega
          · simp only [Value.slice.injEq] at e; omega
        have hcn : a = none → c = 0 := by
          intro ha
          rcases h2.2 with ⟨e, e0⟩ | ⟨g, cap, cur, e, _⟩
          · simp only [Value.slice.injEq] at e; omega
          · rw [ha] at e; cases e
        clear hr hf e1 R2 h2
        go_wp2
        go_region
        have hB2d : Below w2.heap.size w2 w2.drew := (Below.refl _ _).drew
        replace h1 := h1.below hB2d h1.lt
        replace K2 := K2.below hB2d K2.lt
        replace E2 := E2.up hB2d (Nat.le_refl _)
        replace B2 := B2.drew
        rw [show w2.heap.size = w2.drew.heap.size from rfl] at E2
        clear hB2d q0 q1
        generalize w2.drew = w3 at *
        go_wp2
        go_loopw [7] (fun iv wr => ∃ (i : Nat), i ≤ L.length ∧ iv = .int .i64 i ∧ Sofar L k i ∧ Below w3.heap.size w3 wr) (fun iv _ => L.length - (intOf iv).toNat)
        case atStart => exact ⟨0, Nat.zero_le _, rfl, sofar_zero L k, Below.refl _ _⟩
        case round =>
          obtain ⟨i, hi, rfl, hs, b4⟩ := hrel
          have HS : Hid (Sofar L k i) := hs
          have h4 := h1.below b4 h1.lt
          have K4 := K2.below b4 K2.lt
          have E4 := E2.up b4 b4.size
          have B4 := B2.trans (b4.mono B2.size)
          have q0 := h4.cell 0 _ rfl
          have k0 := K4.cell 0 _ rfl
          have k1 := K4.cell 1 _ rfl
          have k2 := K4.cell 2 _ rfl
          clear hs
          by_cases hlt : i < L.length
          · obtain ⟨x, hx⟩ : ∃ x, L[i]? = some x := ⟨L[i], by rw [List.getElem?_eq_getElem]⟩
            obtain ⟨g, off, ha, hg, hc⟩ := E4.one hlt hx
            obtain ⟨y0, y1, y2, y3⟩ := hc _ (Below.refl _ _)
            have HX : Hid (L[i]? = some x) := hx
            have hne : x.1 ≠ k := fun e => by have := fnd_found HO.out.srt hx; rw [e] at this; have h9 := HF.out; rw [this] at h9; cases h9
            have HN : Hid (x.1 ≠ k) := hne
            have dlt : decide ((i : Int) < (L.length : Int)) = true := by simp; omega
            clear hx hne
            by_cases hb : bef x.1 k
            · have HB : Hid (bef x.1 k) := hb
              have hdb : decide (bef x.1 k) = true := decide_eq_true hb
              clear hb
              subst ha
              go_wp2
              refine wp_region_held_drew (S := (fun w' => w'.cell? ⟨q, 0, none⟩ = some (.slice (some ⟨g, off, none⟩) L.length c) ∧ (w'.cell? ⟨g, off + i * 4, none⟩ = some (.int .i64 x.1.1) ∧ w'.cell? ⟨g, off + i * 4 + 1, none⟩ = some (.int .i64 x.1.2.1) ∧ w'.cell? ⟨g, off + i * 4 + 1 + 1, none⟩ = some (.int .i64 x.1.2.2)) ∧ w'.cell? ⟨w.heap.size, 0, none⟩ = some (.int .i64 k.1) ∧ w'.cell? ⟨w.heap.size, 1, none⟩ = some (.int .i64 k.2.1) ∧ w'.cell? ⟨w.heap.size, 1 + 1, none⟩ = some (.int .i64 k.2.2))) (by kernel_rfl) ⟨q0, ⟨y0, y1, y2⟩, k0, k1, k2⟩ (fun hHeld => ?_)
              refine wpAnyH_take (i := 0) (oi := ({ dst := some 26, op := Op.move (Operand.tmp 7), type := 3, pos := _, after := #[], guard := none } : Oper)) (v := ?_) rfl (by kernel_rfl) (by kernel_rfl) (by kernel_rfl) (fun _ _ _ h => h) (Or.inl ⟨by rfl, ?_⟩) hHeld ?_
              rotate_left
              · (intro w hS; go_simp; try with_reducible rfl)
              try simp only [Act.put, List.setIfInBounds_toArray, List.set_cons_zero, List.set_cons_succ]
              refine wpAnyH_take (i := 1) (oi := ({ dst := some 27, op := Op.move (Operand.tmp 0), type := 28, pos := _, after := #[], guard := none } : Oper)) (v := ?_) rfl (by kernel_rfl) (by kernel_rfl) (by kernel_rfl) (fun _ _ _ h => h) (Or.inl ⟨by rfl, ?_⟩) hHeld ?_
              rotate_left
              · (intro w hS; go_simp; try with_reducible rfl)
              try simp only [Act.put, List.setIfInBounds_toArray, List.set_cons_zero, List.set_cons_succ]
              refine wpAnyH_take (i := 2) (oi := ({ dst := some 28, op := Op.nilCheck (Operand.tmp 27), type := 0, pos := _, after := #[{ on := 1, ground := Ground.data }], guard := none } : Oper)) (v := ?_) rfl (by kernel_rfl) (by kernel_rfl) (by kernel_rfl) (fun _ _ _ h => h) (Or.inl ⟨by rfl, ?_⟩) hHeld ?_
              rotate_left
              · (intro w hS; go_simp; try with_reducible rfl)
              try simp only [Act.put, List.setIfInBounds_toArray, List.set_cons_zero, List.set_cons_succ]
              refine wpAnyH_take (i := 3) (oi := ({ dst := some 29, op := Op.fieldAddr 40 (Operand.tmp 28) 0, type := 0, pos := _, after := #[{ on := 2, ground := Ground.data }], guard := none } : Oper)) (v := ?_) rfl (by kernel_rfl) (by kernel_rfl) (by kernel_rfl) (fun _ _ _ h => h) (Or.inl ⟨by rfl, ?_⟩) hHeld ?_
              rotate_left
              · (intro w hS; go_simp; try with_reducible rfl)
              try simp only [Act.put, List.setIfInBounds_toArray, List.set_cons_zero, List.set_cons_succ]
              refine wpAnyH_take (i := 4) (oi := ({ dst := some 30, op := Op.load 38 (Operand.tmp 29), type := 38, pos := _, after := #[{ on := 3, ground := Ground.data }], guard := none } : Oper)) (v := ?_) rfl (by kernel_rfl) (by kernel_rfl) (by kernel_rfl) (fun _ _ _ h => h) (Or.inl ⟨by rfl, ?_⟩) hHeld ?_
              rotate_left
              · (intro w hS; go_simp; try with_reducible rfl)
              try simp only [Act.put, List.setIfInBounds_toArray, List.set_cons_zero, List.set_cons_succ]
              refine wpAnyH_take (i := 5) (oi := ({ dst := some 31, op := Op.call { callee := Callee.builtin Builtin.len, args := #[Operand.tmp 30], argTypes := #[38] }, type := 3, pos := _, after := #[{ on := 4, ground := Ground.data }], guard := none } : Oper)) (v := ?_) rfl (by kernel_rfl) (by kernel_rfl) (by kernel_rfl) (fun _ _ _ h => h) (Or.inl ⟨by rfl, ?_⟩) hHeld ?_
              rotate_left
              · (intro w hS; go_simp; try with_reducible rfl)
              try simp only [Act.put, List.setIfInBounds_toArray, List.set_cons_zero, List.set_cons_succ]
              refine wpAnyH_take (i := 6) (oi := ({ dst := some 32, op := Op.binOp BinOp.lss 3 (Operand.tmp 26) (Operand.tmp 31) 3, type := 4, pos := _, after := #[{ on := 0, ground := Ground.data }, { on := 5, ground := Ground.data }], guard := none } : Oper)) (v := ?_) rfl (by kernel_rfl) (by kernel_rfl) (by kernel_rfl) (fun _ _ _ h => h) (Or.inl ⟨by rfl, ?_⟩) hHeld ?_
              rotate_left
              · (intro w hS; go_simp; try with_reducible rfl)
              try simp only [Act.put, List.setIfInBounds_toArray, List.set_cons_zero, List.set_cons_succ]
              refine wpAnyH_take (i := 7) (oi := ({ dst := some 33, op := Op.move (Operand.tmp 32), type := 4, pos := _, after := #[{ on := 6, ground := Ground.data }], guard := none } : Oper)) (v := ?_) rfl (by kernel_rfl) (by kernel_rfl) (by kernel_rfl) (fun _ _ _ h => h) (Or.inl ⟨by rfl, ?_⟩) hHeld ?_
              rotate_left
              · (intro w hS; go_simp; try with_reducible rfl)
              try simp only [Act.put, List.setIfInBounds_toArray, List.set_cons_zero, List.set_cons_succ]
              refine wpAnyH_take (i := 8) (oi := ({ dst := some 34, op := Op.move (Operand.tmp 0), type := 28, pos := _, after := #[{ on := 7, ground := Ground.guard }], guard := some (7, true) } : Oper)) (v := ?_) rfl (by kernel_rfl) (by kernel_rfl) (by kernel_rfl) (fun _ _ _ h => h) (Or.inl ⟨by rfl, ?_⟩) hHeld ?_
              rotate_left
              · (intro w hS; go_simp; try with_reducible rfl)
              try simp only [Act.put, List.setIfInBounds_toArray, List.set_cons_zero, List.set_cons_succ]
              refine wpAnyH_take (i := 9) (oi := ({ dst := some 35, op := Op.nilCheck (Operand.tmp 34), type := 0, pos := _, after := #[{ on := 8, ground := Ground.data }, { on := 7, ground := Ground.guard }], guard := some (7, true) } : Oper)) (v := ?_) rfl (by kernel_rfl) (by kernel_rfl) (by kernel_rfl) (fun _ _ _ h => h) (Or.inl ⟨by rfl, ?_⟩) hHeld ?_
              rotate_left
              · (intro w hS; go_simp; try with_reducible rfl)
              try simp only [Act.put, List.setIfInBounds_toArray, List.set_cons_zero, List.set_cons_succ]
              refine wpAnyH_take (i := 10) (oi := ({ dst := some 36, op := Op.fieldAddr 40 (Operand.tmp 35) 0, type := 0, pos := _, after := #[{ on := 9, ground := Ground.data }, { on := 7, ground := Ground.guard }], guard := some (7, true) } : Oper)) (v := ?_) rfl (by kernel_rfl) (by kernel_rfl) (by kernel_rfl) (fun _ _ _ h => h) (Or.inl ⟨by rfl, ?_⟩) hHeld ?_
              rotate_left
              · (intro w hS; go_simp; try with_reducible rfl)
              try simp only [Act.put, List.setIfInBounds_toArray, List.set_cons_zero, List.set_cons_succ]
              refine wpAnyH_take (i := 11) (oi := ({ dst := some 37, op := Op.load 38 (Operand.tmp 36), type := 38, pos := _, after := #[{ on := 10, ground := Ground.data }, { on := 7, ground := Ground.guard }], guard := some (7, true) } : Oper)) (v := ?_) rfl (by kernel_rfl) (by kernel_rfl) (by kernel_rfl) (fun _ _ _ h => h) (Or.inl ⟨by rfl, ?_⟩) hHeld ?_
              rotate_left
              · (intro w hS; go_simp; try with_reducible rfl)
              try simp only [Act.put, List.setIfInBounds_toArray, List.set_cons_zero, List.set_cons_succ]
              refine wpAnyH_take (i := 12) (oi := ({ dst := some 38, op := Op.move (Operand.tmp 7), type := 3, pos := _, after := #[{ on := 7, ground := Ground.guard }], guard := some (7, true) } : Oper)) (v := ?_) rfl (by kernel_rfl) (by kernel_rfl) (by kernel_rfl) (fun _ _ _ h => h) (Or.inl ⟨by rfl, ?_⟩) hHeld ?_
              rotate_left
              · (intro w hS; go_simp; try with_reducible rfl)
              try simp only [Act.put, List.setIfInBounds_toArray, List.set_cons_zero, List.set_cons_succ]
              refine wpAnyH_take (i := 13) (oi := ({ dst := some 39, op := Op.indexAddr 38 (Operand.tmp 37) (Operand.tmp 38), type := 0, pos := _, after := #[{ on := 11, ground := Ground.data }, { on := 12, ground := Ground.data }, { on := 7, ground := Ground.guard }], guard := some (7, true) } : Oper)) (v := ?_) rfl (by kernel_rfl) (by kernel_rfl) (by kernel_rfl) (fun _ _ _ h => h) (Or.inl ⟨by rfl, ?_⟩) hHeld ?_
              rotate_left
              · (intro w hS; go_simp; try with_reducible rfl)
              try simp only [Act.put, List.setIfInBounds_toArray, List.set_cons_zero, List.set_cons_succ]
              refine wpAnyH_take (i := 14) (oi := ({ dst := some 40, op := Op.fieldAddr 65 (Operand.tmp 39) 0, type := 0, pos := _, after := #[{ on := 13, ground := Ground.data }, { on := 7, ground := Ground.guard }], guard := some (7, true) } : Oper)) (v := ?_) rfl (by kernel_rfl) (by kernel_rfl) (by kernel_rfl) (fun _ _ _ h => h) (Or.inl ⟨by rfl, ?_⟩) hHeld ?_
              rotate_left
              · (intro w hS; go_simp; try with_reducible rfl)
              try simp only [Act.put, List.setIfInBounds_toArray, List.set_cons_zero, List.set_cons_succ]
              refine wpAnyH_take (i := 15) (oi := ({ dst := some 41, op := Op.load 24 (Operand.tmp 40), type := 24, pos := _, after := #[{ on := 14, ground := Ground.data }, { on := 7, ground := Ground.guard }], guard := some (7, true) } : Oper)) (v := ?_) rfl (by kernel_rfl) (by kernel_rfl) (by kernel_rfl) (fun _ _ _ h => h) (Or.inl ⟨by rfl, ?_⟩) hHeld ?_
              rotate_left
              · (intro w hS; go_simp; try with_reducible rfl)
              try simp only [Act.put, List.setIfInBounds_toArray, List.set_cons_zero, List.set_cons_succ]
              refine wpAnyH_take (i := 16) (oi := ({ dst := some 42, op := Op.load 24 (Operand.tmp 4), type := 24, pos := _, after := #[{ on := 7, ground := Ground.guard }], guard := some (7, true) } : Oper)) (v := ?_) rfl (by kernel_rfl) (by kernel_rfl) (by kernel_rfl) (fun _ _ _ h => h) (Or.inl ⟨by rfl, ?_⟩) hHeld ?_
              rotate_left
              · (intro w hS; go_simp; try with_reducible rfl)
              try simp only [Act.put, List.setIfInBounds_toArray, List.set_cons_zero, List.set_cons_succ]
              refine wpAnyH_ready (rs := [17]) (by kernel_rfl) (by simp) ?_
              refine AllReadyH.cons (o := ({ dst := some 43, op := Op.call { callee := Callee.value (Operand.func 29), args := #[Operand.tmp 41, Operand.tmp 42], argTypes := #[24, 24] }, type := 4, pos := _, after := #[{ on := 15, ground := Ground.data }, { on := 16, ground := Ground.data }, { on := 7, ground := Ground.chain }, { on := 7, ground := Ground.guard }], guard := some (7, true) } : Oper)) rfl (fun K hK => ?_) AllReadyH.nil
              refine step_call (rbefore_calls x.1 k _) (enters_of Try.func29 (by kernel_rfl) rfl) _ _ rfl rfl rfl ?_
              rintro e y17 ⟨rfl, c17⟩
              rw [hdb]
              have z17 : Below wr.heap.size wr y17 := (Below.refl wr.heap.size wr).drew.trans c17
              refine ⟨_, rfl, hK.out _ _ ⟨(h4.below z17 h4.lt).cell 0 _ rfl, ⟨(hc _ z17).1, (hc _ z17).2.1, (hc _ z17).2.2.1⟩, (K4.below z17 K4.lt).cell 0 _ rfl, (K4.below z17 K4.lt).cell 1 _ rfl, (K4.below z17 K4.lt).cell 2 _ rfl⟩ (fun hHeld => ?_)⟩
              clear hK K
              try simp only [Act.put, List.setIfInBounds_toArray, List.set_cons_zero, List.set_cons_succ]
              refine wpAnyH_take (i := 18) (oi := ({ dst := some 44, op := Op.pick (Operand.tmp 33) (Operand.tmp 43) (Operand.const (Value.bool false)), type := 4, pos := _, after := #[{ on := 7, ground := Ground.data }, { on := 17, ground := Ground.data }], guard := none } : Oper)) (v := ?_) rfl (by kernel_rfl) (by kernel_rfl) (by kernel_rfl) (fun _ _ _ h => h) (Or.inl ⟨by rfl, ?_⟩) hHeld ?_
              rotate_left
              · (intro w hS; go_simp; try with_reducible rfl)
              try simp only [Act.put, List.setIfInBounds_toArray, List.set_cons_zero, List.set_cons_succ]
              refine wpAnyH_done (by kernel_rfl) ?_ _
              skip
              clear h4 K4 E4 B4 q0 k0 k1 k2 y0 y1 y2 y3
              go_wp2
              go_roundw
              case rel => exact ⟨i + 1, by omega, by go_num, sofar_step HS.out HX.out HN.out (bef_asymm HB.out), b4.trans (z17.mono b4.size)⟩
              case measure => simp [intOf]; omega
            · have HFI : Hid (fnd L k = (i, false)) := by
                rcases bef_tri x.1 k with h9 | h9 | h9
                · exact absurd h9 HN.out
                · exact absurd h9 hb
                · exact sofar_past HS.out HX.out HN.out h9
              have hdb : decide (bef x.1 k) = false := decide_eq_false hb
              clear hb
              subst ha
              go_wp2
              refine wp_region_held_drew (S := (fun w' => w'.cell? ⟨q, 0, none⟩ = some (.slice (some ⟨g, off, none⟩) L.length c) ∧ (w'.cell? ⟨g, off + i * 4, none⟩ = some (.int .i64 x.1.1) ∧ w'.cell? ⟨g, off + i * 4 + 1, none⟩ = some (.int .i64 x.1.2.1) ∧ w'.cell? ⟨g, off + i * 4 + 1 + 1, none⟩ = some (.int .i64 x.1.2.2)) ∧ w'.cell? ⟨w.heap.size, 0, none⟩ = some (.int .i64 k.1) ∧ w'.cell? ⟨w.heap.size, 1, none⟩ = some (.int .i64 k.2.1) ∧ w'.cell? ⟨w.heap.size, 1 + 1, none⟩ = some (.int .i64 k.2.2))) (by kernel_rfl) ⟨q0, ⟨y0, y1, y2⟩, k0, k1, k2⟩ (fun hHeld => ?_)
              refine wpAnyH_take (i := 0) (oi := ({ dst := some 26, op := Op.move (Operand.tmp 7), type := 3, pos := _, after := #[], guard := none } : Oper)) (v := ?_) rfl (by kernel_rfl) (by kernel_rfl) (by kernel_rfl) (fun _ _ _ h => h) (Or.inl ⟨by rfl, ?_⟩) hHeld ?_
              rotate_left
              · (intro w hS; go_simp; try with_reducible rfl)
              try simp only [Act.put, List.setIfInBounds_toArray, List.set_cons_zero, List.set_cons_succ]
              refine wpAnyH_take (i := 1) (oi := ({ dst := some 27, op := Op.move (Operand.tmp 0), type := 28, pos := _, after := #[], guard := none } : Oper)) (v := ?_) rfl (by kernel_rfl) (by kernel_rfl) (by kernel_rfl) (fun _ _ _ h => h) (Or.inl ⟨by rfl, ?_⟩) hHeld ?_
              rotate_left
              · (intro w hS; go_simp; try with_reducible rfl)
              try simp only [Act.put, List.setIfInBounds_toArray, List.set_cons_zero, List.set_cons_succ]
              refine wpAnyH_take (i := 2) (oi := ({ dst := some 28, op := Op.nilCheck (Operand.tmp 27), type := 0, pos := _, after := #[{ on := 1, ground := Ground.data }], guard := none } : Oper)) (v := ?_) rfl (by kernel_rfl) (by kernel_rfl) (by kernel_rfl) (fun _ _ _ h => h) (Or.inl ⟨by rfl, ?_⟩) hHeld ?_
              rotate_left
              · (intro w hS; go_simp; try with_reducible rfl)
              try simp only [Act.put, List.setIfInBounds_toArray, List.set_cons_zero, List.set_cons_succ]
              refine wpAnyH_take (i := 3) (oi := ({ dst := some 29, op := Op.fieldAddr 40 (Operand.tmp 28) 0, type := 0, pos := _, after := #[{ on := 2, ground := Ground.data }], guard := none } : Oper)) (v := ?_) rfl (by kernel_rfl) (by kernel_rfl) (by kernel_rfl) (fun _ _ _ h => h) (Or.inl ⟨by rfl, ?_⟩) hHeld ?_
              rotate_left
              · (intro w hS; go_simp; try with_reducible rfl)
              try simp only [Act.put, List.setIfInBounds_toArray, List.set_cons_zero, List.set_cons_succ]
              refine wpAnyH_take (i := 4) (oi := ({ dst := some 30, op := Op.load 38 (Operand.tmp 29), type := 38, pos := _, after := #[{ on := 3, ground := Ground.data }], guard := none } : Oper)) (v := ?_) rfl (by kernel_rfl) (by kernel_rfl) (by kernel_rfl) (fun _ _ _ h => h) (Or.inl ⟨by rfl, ?_⟩) hHeld ?_
              rotate_left
              · (intro w hS; go_simp; try with_reducible rfl)
              try simp only [Act.put, List.setIfInBounds_toArray, List.set_cons_zero, List.set_cons_succ]
              refine wpAnyH_take (i := 5) (oi := ({ dst := some 31, op := Op.call { callee := Callee.builtin Builtin.len, args := #[Operand.tmp 30], argTypes := #[38] }, type := 3, pos := _, after := #[{ on := 4, ground := Ground.data }], guard := none } : Oper)) (v := ?_) rfl (by kernel_rfl) (by kernel_rfl) (by kernel_rfl) (fun _ _ _ h => h) (Or.inl ⟨by rfl, ?_⟩) hHeld ?_
              rotate_left
              · (intro w hS; go_simp; try with_reducible rfl)
              try simp only [Act.put, List.setIfInBounds_toArray, List.set_cons_zero, List.set_cons_succ]
              refine wpAnyH_take (i := 6) (oi := ({ dst := some 32, op := Op.binOp BinOp.lss 3 (Operand.tmp 26) (Operand.tmp 31) 3, type := 4, pos := _, after := #[{ on := 0, ground := Ground.data }, { on := 5, ground := Ground.data }], guard := none } : Oper)) (v := ?_) rfl (by kernel_rfl) (by kernel_rfl) (by kernel_rfl) (fun _ _ _ h => h) (Or.inl ⟨by rfl, ?_⟩) hHeld ?_
              rotate_left
              · (intro w hS; go_simp; try with_reducible rfl)
              try simp only [Act.put, List.setIfInBounds_toArray, List.set_cons_zero, List.set_cons_succ]
              refine wpAnyH_take (i := 7) (oi := ({ dst := some 33, op := Op.move (Operand.tmp 32), type := 4, pos := _, after := #[{ on := 6, ground := Ground.data }], guard := none } : Oper)) (v := ?_) rfl (by kernel_rfl) (by kernel_rfl) (by kernel_rfl) (fun _ _ _ h => h) (Or.inl ⟨by rfl, ?_⟩) hHeld ?_
              rotate_left
              · (intro w hS; go_simp; try with_reducible rfl)
              try simp only [Act.put, List.setIfInBounds_toArray, List.set_cons_zero, List.set_cons_succ]
              refine wpAnyH_take (i := 8) (oi := ({ dst := some 34, op := Op.move (Operand.tmp 0), type := 28, pos := _, after := #[{ on := 7, ground := Ground.guard }], guard := some (7, true) } : Oper)) (v := ?_) rfl (by kernel_rfl) (by kernel_rfl) (by kernel_rfl) (fun _ _ _ h => h) (Or.inl ⟨by rfl, ?_⟩) hHeld ?_
              rotate_left
              · (intro w hS; go_simp; try with_reducible rfl)
              try simp only [Act.put, List.setIfInBounds_toArray, List.set_cons_zero, List.set_cons_succ]
              refine wpAnyH_take (i := 9) (oi := ({ dst := some 35, op := Op.nilCheck (Operand.tmp 34), type := 0, pos := _, after := #[{ on := 8, ground := Ground.data }, { on := 7, ground := Ground.guard }], guard := some (7, true) } : Oper)) (v := ?_) rfl (by kernel_rfl) (by kernel_rfl) (by kernel_rfl) (fun _ _ _ h => h) (Or.inl ⟨by rfl, ?_⟩) hHeld ?_
              rotate_left
              · (intro w hS; go_simp; try with_reducible rfl)
              try simp only [Act.put, List.setIfInBounds_toArray, List.set_cons_zero, List.set_cons_succ]
              refine wpAnyH_take (i := 10) (oi := ({ dst := some 36, op := Op.fieldAddr 40 (Operand.tmp 35) 0, type := 0, pos := _, after := #[{ on := 9, ground := Ground.data }, { on := 7, ground := Ground.guard }], guard := some (7, true) } : Oper)) (v := ?_) rfl (by kernel_rfl) (by kernel_rfl) (by kernel_rfl) (fun _ _ _ h => h) (Or.inl ⟨by rfl, ?_⟩) hHeld ?_
              rotate_left
              · (intro w hS; go_simp; try with_reducible rfl)
              try simp only [Act.put, List.setIfInBounds_toArray, List.set_cons_zero, List.set_cons_succ]
              refine wpAnyH_take (i := 11) (oi := ({ dst := some 37, op := Op.load 38 (Operand.tmp 36), type := 38, pos := _, after := #[{ on := 10, ground := Ground.data }, { on := 7, ground := Ground.guard }], guard := some (7, true) } : Oper)) (v := ?_) rfl (by kernel_rfl) (by kernel_rfl) (by kernel_rfl) (fun _ _ _ h => h) (Or.inl ⟨by rfl, ?_⟩) hHeld ?_
              rotate_left
              · (intro w hS; go_simp; try with_reducible rfl)
              try simp only [Act.put, List.setIfInBounds_toArray, List.set_cons_zero, List.set_cons_succ]
              refine wpAnyH_take (i := 12) (oi := ({ dst := some 38, op := Op.move (Operand.tmp 7), type := 3, pos := _, after := #[{ on := 7, ground := Ground.guard }], guard := some (7, true) } : Oper)) (v := ?_) rfl (by kernel_rfl) (by kernel_rfl) (by kernel_rfl) (fun _ _ _ h => h) (Or.inl ⟨by rfl, ?_⟩) hHeld ?_
              rotate_left
              · (intro w hS; go_simp; try with_reducible rfl)
              try simp only [Act.put, List.setIfInBounds_toArray, List.set_cons_zero, List.set_cons_succ]
              refine wpAnyH_take (i := 13) (oi := ({ dst := some 39, op := Op.indexAddr 38 (Operand.tmp 37) (Operand.tmp 38), type := 0, pos := _, after := #[{ on := 11, ground := Ground.data }, { on := 12, ground := Ground.data }, { on := 7, ground := Ground.guard }], guard := some (7, true) } : Oper)) (v := ?_) rfl (by kernel_rfl) (by kernel_rfl) (by kernel_rfl) (fun _ _ _ h => h) (Or.inl ⟨by rfl, ?_⟩) hHeld ?_
              rotate_left
              · (intro w hS; go_simp; try with_reducible rfl)
              try simp only [Act.put, List.setIfInBounds_toArray, List.set_cons_zero, List.set_cons_succ]
              refine wpAnyH_take (i := 14) (oi := ({ dst := some 40, op := Op.fieldAddr 65 (Operand.tmp 39) 0, type := 0, pos := _, after := #[{ on := 13, ground := Ground.data }, { on := 7, ground := Ground.guard }], guard := some (7, true) } : Oper)) (v := ?_) rfl (by kernel_rfl) (by kernel_rfl) (by kernel_rfl) (fun _ _ _ h => h) (Or.inl ⟨by rfl, ?_⟩) hHeld ?_
              rotate_left
              · (intro w hS; go_simp; try with_reducible rfl)
              try simp only [Act.put, List.setIfInBounds_toArray, List.set_cons_zero, List.set_cons_succ]
              refine wpAnyH_take (i := 15) (oi := ({ dst := some 41, op := Op.load 24 (Operand.tmp 40), type := 24, pos := _, after := #[{ on := 14, ground := Ground.data }, { on := 7, ground := Ground.guard }], guard := some (7, true) } : Oper)) (v := ?_) rfl (by kernel_rfl) (by kernel_rfl) (by kernel_rfl) (fun _ _ _ h => h) (Or.inl ⟨by rfl, ?_⟩) hHeld ?_
              rotate_left
              · (intro w hS; go_simp; try with_reducible rfl)
              try simp only [Act.put, List.setIfInBounds_toArray, List.set_cons_zero, List.set_cons_succ]
              refine wpAnyH_take (i := 16) (oi := ({ dst := some 42, op := Op.load 24 (Operand.tmp 4), type := 24, pos := _, after := #[{ on := 7, ground := Ground.guard }], guard := some (7, true) } : Oper)) (v := ?_) rfl (by kernel_rfl) (by kernel_rfl) (by kernel_rfl) (fun _ _ _ h => h) (Or.inl ⟨by rfl, ?_⟩) hHeld ?_
              rotate_left
              · (intro w hS; go_simp; try with_reducible rfl)
              try simp only [Act.put, List.setIfInBounds_toArray, List.set_cons_zero, List.set_cons_succ]
              refine wpAnyH_ready (rs := [17]) (by kernel_rfl) (by simp) ?_
              refine AllReadyH.cons (o := ({ dst := some 43, op := Op.call { callee := Callee.value (Operand.func 29), args := #[Operand.tmp 41, Operand.tmp 42], argTypes := #[24, 24] }, type := 4, pos := _, after := #[{ on := 15, ground := Ground.data }, { on := 16, ground := Ground.data }, { on := 7, ground := Ground.chain }, { on := 7, ground := Ground.guard }], guard := some (7, true) } : Oper)) rfl (fun K hK => ?_) AllReadyH.nil
              refine step_call (rbefore_calls x.1 k _) (enters_of Try.func29 (by kernel_rfl) rfl) _ _ rfl rfl rfl ?_
              rintro e y17 ⟨rfl, c17⟩
              rw [hdb]
              have z17 : Below wr.heap.size wr y17 := (Below.refl wr.heap.size wr).drew.trans c17
              refine ⟨_, rfl, hK.out _ _ ⟨(h4.below z17 h4.lt).cell 0 _ rfl, ⟨(hc _ z17).1, (hc _ z17).2.1, (hc _ z17).2.2.1⟩, (K4.below z17 K4.lt).cell 0 _ rfl, (K4.below z17 K4.lt).cell 1 _ rfl, (K4.below z17 K4.lt).cell 2 _ rfl⟩ (fun hHeld => ?_)⟩
              clear hK K
              try simp only [Act.put, List.setIfInBounds_toArray, List.set_cons_zero, List.set_cons_succ]
              refine wpAnyH_take (i := 18) (oi := ({ dst := some 44, op := Op.pick (Operand.tmp 33) (Operand.tmp 43) (Operand.const (Value.bool false)), type := 4, pos := _, after := #[{ on := 7, ground := Ground.data }, { on := 17, ground := Ground.data }], guard := none } : Oper)) (v := ?_) rfl (by kernel_rfl) (by kernel_rfl) (by kernel_rfl) (fun _ _ _ h => h) (Or.inl ⟨by rfl, ?_⟩) hHeld ?_
              rotate_left
              · (intro w hS; go_simp; try with_reducible rfl)
              try simp only [Act.put, List.setIfInBounds_toArray, List.set_cons_zero, List.set_cons_succ]
              refine wpAnyH_done (by kernel_rfl) ?_ _
              skip
              have B5 : Below w.heap.size w y17 := B4.trans (z17.mono B4.size)
              have h5 := h4.below z17 h4.lt
              have K5 := K4.below z17 K4.lt
              have E5 := E4.up z17 z17.size
              clear h4 K4 E4 B4 q0 k0 k1 k2 y0 y1 y2 y3 b4 c17 z17
              generalize (some ⟨g, off, none⟩ : Option Addr) = a at *
              generalize y17 = W5 at *
              have hI2 : L.take (fnd L k).1 ++ (k, n) :: L.drop (fnd L k).1 = L.take i ++ (k, n) :: L.drop i := by rw [HFI.out]
              have HI2 : Hid (ins L (k, n) = L.take i ++ (k, n) :: L.drop i) := HI.out.trans hI2
              clear hI2
              have Z0 : Below W5.heap.size W5 W5.drew := (Below.refl _ _).drew
              have ZA := below_al Z0 (Nat.le_refl _) (.cells #[.int .i64 k.1, .int .i64 k.2.1, .int .i64 k.2.2, .int .i64 n] 65)
              have hS : ∀ W', Below W5.heap.size W5 W' → W'.cell? ⟨q, 0, none⟩ = some (.slice a L.length c) ∧ W'.cell? ⟨w.heap.size, 0, none⟩ = some (.int .i64 k.1) ∧ W'.cell? ⟨w.heap.size, 1, none⟩ = some (.int .i64 k.2.1) ∧ W'.cell? ⟨w.heap.size, 1 + 1, none⟩ = some (.int .i64 k.2.2) := fun W' hW => by
                have h6 := h5.below hW h5.lt
                have K6 := K5.below hW K5.lt
                exact ⟨h6.cell 0 _ rfl, K6.cell 0 _ rfl, K6.cell 1 _ rfl, K6.cell 2 _ rfl⟩
              have hE : ∀ W', Below W5.heap.size W5 W' → IsE W'.heap.size W' a i (L.take i) := fun W' hW => (E5.up hW hW.size).pre hi
              obtain ⟨q0, k0, k1, k2⟩ := hS _ (Below.refl _ _)
              have hic : i ≤ c := by omega
              go_wp2
              refine wp_region_held_drew (S := (fun w' => w'.cell? ⟨q, 0, none⟩ = some (.slice a L.length c) ∧ w'.cell? ⟨w.heap.size, 0, none⟩ = some (.int .i64 k.1) ∧ w'.cell? ⟨w.heap.size, 1, none⟩ = some (.int .i64 k.2.1) ∧ w'.cell? ⟨w.heap.size, 1 + 1, none⟩ = some (.int .i64 k.2.2))) (by kernel_rfl) ⟨q0, k0, k1, k2⟩ (fun hHeld => ?_)
              refine wpAnyH_take (i := 0) (oi := ({ dst := some 47, op := Op.move (Operand.tmp 8), type := 38, pos := _, after := #[], guard := none } : Oper)) (v := ?_) rfl (by kernel_rfl) (by kernel_rfl) (by kernel_rfl) (fun _ _ _ h => h) (Or.inl ⟨by rfl, ?_⟩) hHeld ?_
              rotate_left
              · (intro w hS; go_simp; try with_reducible rfl)
              try simp only [Act.put, List.setIfInBounds_toArray, List.set_cons_zero, List.set_cons_succ]
              refine wpAnyH_take (i := 1) (oi := ({ dst := some 48, op := Op.move (Operand.tmp 0), type := 28, pos := _, after := #[], guard := none } : Oper)) (v := ?_) rfl (by kernel_rfl) (by kernel_rfl) (by kernel_rfl) (fun _ _ _ h => h) (Or.inl ⟨by rfl, ?_⟩) hHeld ?_
              rotate_left
              · (intro w hS; go_simp; try with_reducible rfl)
              try simp only [Act.put, List.setIfInBounds_toArray, List.set_cons_zero, List.set_cons_succ]
              refine wpAnyH_take (i := 2) (oi := ({ dst := some 49, op := Op.nilCheck (Operand.tmp 48), type := 0, pos := _, after := #[{ on := 1, ground := Ground.data }], guard := none } : Oper)) (v := ?_) rfl (by kernel_rfl) (by kernel_rfl) (by kernel_rfl) (fun _ _ _ h => h) (Or.inl ⟨by rfl, ?_⟩) hHeld ?_
              rotate_left
              · (intro w hS; go_simp; try with_reducible rfl)
              try simp only [Act.put, List.setIfInBounds_toArray, List.set_cons_zero, List.set_cons_succ]
              refine wpAnyH_take (i := 3) (oi := ({ dst := some 50, op := Op.fieldAddr 40 (Operand.tmp 49) 0, type := 0, pos := _, after := #[{ on := 2, ground := Ground.data }], guard := none } : Oper)) (v := ?_) rfl (by kernel_rfl) (by kernel_rfl) (by kernel_rfl) (fun _ _ _ h => h) (Or.inl ⟨by rfl, ?_⟩) hHeld ?_
              rotate_left
              · (intro w hS; go_simp; try with_reducible rfl)
              try simp only [Act.put, List.setIfInBounds_toArray, List.set_cons_zero, List.set_cons_succ]
              refine wpAnyH_take (i := 4) (oi := ({ dst := some 51, op := Op.load 38 (Operand.tmp 50), type := 38, pos := _, after := #[{ on := 3, ground := Ground.data }], guard := none } : Oper)) (v := ?_) rfl (by kernel_rfl) (by kernel_rfl) (by kernel_rfl) (fun _ _ _ h => h) (Or.inl ⟨by rfl, ?_⟩) hHeld ?_
              rotate_left
              · (intro w hS; go_simp; try with_reducible rfl)
              try simp only [Act.put, List.setIfInBounds_toArray, List.set_cons_zero, List.set_cons_succ]
              refine wpAnyH_take (i := 5) (oi := ({ dst := some 52, op := Op.move (Operand.tmp 7), type := 3, pos := _, after := #[], guard := none } : Oper)) (v := ?_) rfl (by kernel_rfl) (by kernel_rfl) (by kernel_rfl) (fun _ _ _ h => h) (Or.inl ⟨by rfl, ?_⟩) hHeld ?_
              rotate_left
              · (intro w hS; go_simp; try with_reducible rfl)
              try simp only [Act.put, List.setIfInBounds_toArray, List.set_cons_zero, List.set_cons_succ]
              refine wpAnyH_take (i := 6) (oi := ({ dst := some 53, op := Op.slice 38 (Operand.tmp 51) none (some (Operand.tmp 52)) none, type := 38, pos := _, after := #[{ on := 4, ground := Ground.data }, { on := 5, ground := Ground.data }], guard := none } : Oper)) (v := ?_) rfl (by kernel_rfl) (by kernel_rfl) (by kernel_rfl) (fun _ _ _ h => h) (Or.inl ⟨by rfl, ?_⟩) hHeld ?_
              rotate_left
              · (intro w hS; go_simp; first|rfl|(rw [run_pre _ a L.length c i _ rfl hic]; rfl))
              try simp only [Act.put, List.setIfInBounds_toArray, List.set_cons_zero, List.set_cons_succ]
              refine wpAnyH_take (i := 8) (oi := ({ dst := some 55, op := Op.load 24 (Operand.tmp 4), type := 24, pos := _, after := #[], guard := none } : Oper)) (v := ?_) rfl (by kernel_rfl) (by kernel_rfl) (by kernel_rfl) (fun _ _ _ h => h) (Or.inl ⟨by rfl, ?_⟩) hHeld ?_
              rotate_left
              · (intro w hS; go_simp; try with_reducible rfl)
              try simp only [Act.put, List.setIfInBounds_toArray, List.set_cons_zero, List.set_cons_succ]
              refine wpAnyH_take (i := 9) (oi := ({ dst := some 56, op := Op.move (Operand.tmp 2), type := 3, pos := _, after := #[], guard := none } : Oper)) (v := ?_) rfl (by kernel_rfl) (by kernel_rfl) (by kernel_rfl) (fun _ _ _ h => h) (Or.inl ⟨by rfl, ?_⟩) hHeld ?_
              rotate_left
              · (intro w hS; go_simp; try with_reducible rfl)
              try simp only [Act.put, List.setIfInBounds_toArray, List.set_cons_zero, List.set_cons_succ]
              refine wpAnyH_take (i := 10) (oi := ({ dst := some 57, op := Op.build 65 #[(0, Operand.tmp 55), (1, Operand.tmp 56)], type := 65, pos := _, after := #[{ on := 8, ground := Ground.data }, { on := 9, ground := Ground.data }], guard := none } : Oper)) (v := ?_) rfl (by kernel_rfl) (by kernel_rfl) (by kernel_rfl) (fun _ _ _ h => h) (Or.inl ⟨by rfl, ?_⟩) hHeld ?_
              rotate_left
              · (intro w hS; go_simp; try with_reducible rfl)
              try simp only [Act.put, List.setIfInBounds_toArray, List.set_cons_zero, List.set_cons_succ]
              refine wpAnyH_ready (rs := [7, 11]) (by kernel_rfl) (by simp) ?_
              refine AllReadyH.cons (o := ({ dst := some 54, op := Op.call { callee := Callee.builtin Builtin.append, args := #[Operand.tmp 47, Operand.tmp 53], argTypes := #[38, 38] }, type := 38, pos := _, after := #[{ on := 0, ground := Ground.data }, { on := 6, ground := Ground.data }], guard := none } : Oper)) rfl (fun K hK => ?_) (AllReadyH.cons (o := ({ dst := some 58, op := Op.buildSlice 38 1 #[(0, Operand.tmp 57)], type := 38, pos := _, after := #[{ on := 10, ground := Ground.data }], guard := none } : Oper)) rfl (fun K hK => ?_) (AllReadyH.nil))
              · refine step_app_e (va := .slice none 0 0) (base := W5.heap.size) (n := 0) (A := []) (B := L.take i) (by first|exact Z0.size|exact ZA.size) (World.ownsRow_nil _ _ _ _) (by first|exact hE _ Z0|exact hE _ ZA) hcn (by omega) _ _ rfl rfl rfl rfl ?_
                intro a7 c7 W7 row7 gr7
                simp only [Nat.zero_add, List.nil_append] at row7 ⊢
                have Z7 : Below W5.heap.size W5 W7 := by first|exact Z0.trans ((below_g0 gr7).mono Z0.size)|exact ZA.trans ((below_g0 gr7).mono ZA.size)
                have ZA7 := below_al Z7 (Nat.le_refl _) (.cells #[.int .i64 k.1, .int .i64 k.2.1, .int .i64 k.2.2, .int .i64 n] 65)
                refine hK.out _ _ (hS _ Z7) (fun hHeld => ?_)
                clear hK K
                try simp only [Act.put, List.setIfInBounds_toArray, List.set_cons_zero, List.set_cons_succ]
                refine wpAnyH_ready (rs := [11]) (by kernel_rfl) (by simp) ?_
                refine AllReadyH.cons (o := ({ dst := some 58, op := Op.buildSlice 38 1 #[(0, Operand.tmp 57)], type := 38, pos := _, after := #[{ on := 10, ground := Ground.data }], guard := none } : Oper)) rfl (fun K hK => ?_) AllReadyH.nil
                go_simp
                skip
                refine hK.out _ _ (by first|exact hS _ ZA|exact hS _ ZA7) (fun hHeld => ?_)
                clear hK K
                try simp only [Act.put, List.setIfInBounds_toArray, List.set_cons_zero, List.set_cons_succ]
                refine wpAnyH_ready (rs := [12]) (by kernel_rfl) (by simp) ?_
                refine AllReadyH.cons (o := ({ dst := some 59, op := Op.call { callee := Callee.builtin Builtin.append, args := #[Operand.tmp 54, Operand.tmp 58], argTypes := #[38, 38] }, type := 38, pos := _, after := #[{ on := 7, ground := Ground.data }, { on := 11, ground := Ground.data }, { on := 7, ground := Ground.chain }], guard := none } : Oper)) rfl (fun K hK => ?_) AllReadyH.nil
                refine step_app_e (va := .slice a7 i c7) (base := W5.heap.size) (n := i) (A := L.take i) (B := [(k, n)]) (by first|exact Z7.size|exact ZA7.size) (by first|exact row7|exact row7.alloc _) (by first|exact isE_one (bk_new _ _ _)|exact isE_one (bk_grown0 (bk_new _ _ _) gr7)|exact isE_one (bk_grown0 (BK.drew (bk_new _ _ _)) gr7)) (by intro h; cases h) (by omega) _ _ rfl rfl rfl rfl ?_
                intro a12 c12 W12 row12 gr12
                have Z12 : Below W5.heap.size W5 W12 := by first|exact Z7.trans (below_row row7 gr12 (Nat.le_refl _) Z7.size)|exact ZA7.trans (below_row (row7.alloc _) gr12 (Nat.le_refl _) ZA7.size)
                refine hK.out _ _ (hS _ Z12) (fun hHeld => ?_)
                clear hK K
                try simp only [Act.put, List.setIfInBounds_toArray, List.set_cons_zero, List.set_cons_succ]
                refine wpAnyH_take (i := 13) (oi := ({ dst := some 8, op := Op.assign (Operand.tmp 59), type := 38, pos := _, after := #[{ on := 12, ground := Ground.data }, { on := 12, ground := Ground.chain }, { on := 0, ground := Ground.phase }, { on := 1, ground := Ground.phase }, { on := 2, ground := Ground.phase }, { on := 3, ground := Ground.phase }, { on := 4, ground := Ground.phase }, { on := 5, ground := Ground.phase }, { on := 6, ground := Ground.phase }, { on := 7, ground := Ground.phase }, { on := 8, ground := Ground.phase }, { on := 9, ground := Ground.phase }, { on := 10, ground := Ground.phase }, { on := 11, ground := Ground.phase }, { on := 12, ground := Ground.phase }], guard := none } : Oper)) (v := ?_) rfl (by kernel_rfl) (by kernel_rfl) (by kernel_rfl) (fun _ _ _ h => h) (Or.inl ⟨by rfl, ?_⟩) hHeld ?_
                rotate_left
                · (intro w hS; go_simp; try with_reducible rfl)
                try simp only [Act.put, List.setIfInBounds_toArray, List.set_cons_zero, List.set_cons_succ]
                refine wpAnyH_done (by kernel_rfl) ?_ _
                have hsf := run_suf W12 a L.length c i _ rfl hi hlc
                have E12 := (E5.up Z12 Z12.size).suf hlc hi
                have hsn := suf_none (i := i) hcn
                obtain ⟨a9, ha9⟩ : ∃ a9, (if c = i then a else a.map (·.add (i * 4))) = a9 := ⟨_, rfl⟩
                rw [ha9] at hsf E12 hsn
                clear ha9
                obtain ⟨a13, c13, W13, hap, row13, gr13⟩ := run_app_e W12 W5.heap.size Z12.size _ _ _ row12 _ _ (c - i) (L.drop i) E12 hsn (by omega) 38
                have Z13 := Z12.trans (below_row row12 gr13 (Nat.le_refl _) Z12.size)
                have h13 := h5.below Z13 h5.lt
                have p0 := h13.cell 0 _ rfl
                have f0 := h13.frozen 0
                have p12 := (hS _ Z12).1
                have hBq : But q W13.heap.size W13 (W13.setCell ⟨q, 0, none⟩ (.slice a13 (i + 1 + (L.length - i)) c13)) := (But.refl q W13.heap.size W13).set (p := ⟨q, 0, none⟩) rfl _
                have rowF := row_mono (row_other row13 hBq (Nat.le_refl _) h13 (by decide)) (Nat.zero_le _)
                have hF := h13.set 0 (.slice a13 (i + 1 + (L.length - i)) c13)
                have BF := (But.of (r := q) (B5.trans (Z13.mono B5.size))).trans (hBq.mono (Nat.le_trans B5.size Z13.size))
                have HLEN : Hid (i + 1 + (L.length - i) = (ins L (k, n)).length) := by rw [show (Hid (i + 1 + (L.length - i) = (ins L (k, n)).length)) = (i + 1 + (L.length - i) = (ins L (k, n)).length) from rfl, HI2.out]; simp only [List.length_append, List.length_cons, List.length_take, List.length_drop]; omega
                have HLST : Hid (L.take i ++ [(k, n)] ++ L.drop i = ins L (k, n)) := by rw [show (Hid (L.take i ++ [(k, n)] ++ L.drop i = ins L (k, n))) = (L.take i ++ [(k, n)] ++ L.drop i = ins L (k, n)) from rfl, HI2.out]; simp
                clear q0 k0 k1 k2 row7 gr7 row12 gr12 E12 row13 gr13 Z0 ZA Z7 ZA7 h13 hBq
                go_wp2_with (at_builtin; refine wpList_app hap _ _ rfl rfl rfl rfl rfl ?_)
                go_ret
                refine ⟨cret_int HE.out.symm, ?_, BF⟩
                rw [HT.out]
                refine ⟨a13, c13, ?_, ?_⟩
                · rw [← HLEN.out]; exact hF
                · rw [← HLEN.out, ← HLST.out]; exact rowF
              · go_simp
                skip
                refine hK.out _ _ (by first|exact hS _ ZA|exact hS _ ZA7) (fun hHeld => ?_)
                clear hK K
                try simp only [Act.put, List.setIfInBounds_toArray, List.set_cons_zero, List.set_cons_succ]
                refine wpAnyH_ready (rs := [7]) (by kernel_rfl) (by simp) ?_
                refine AllReadyH.cons (o := ({ dst := some 54, op := Op.call { callee := Callee.builtin Builtin.append, args := #[Operand.tmp 47, Operand.tmp 53], argTypes := #[38, 38] }, type := 38, pos := _, after := #[{ on := 0, ground := Ground.data }, { on := 6, ground := Ground.data }], guard := none } : Oper)) rfl (fun K hK => ?_) AllReadyH.nil
                refine step_app_e (va := .slice none 0 0) (base := W5.heap.size) (n := 0) (A := []) (B := L.take i) (by first|exact Z0.size|exact ZA.size) (World.ownsRow_nil _ _ _ _) (by first|exact hE _ Z0|exact hE _ ZA) hcn (by omega) _ _ rfl rfl rfl rfl ?_
                intro a7 c7 W7 row7 gr7
                simp only [Nat.zero_add, List.nil_append] at row7 ⊢
                have Z7 : Below W5.heap.size W5 W7 := by first|exact Z0.trans ((below_g0 gr7).mono Z0.size)|exact ZA.trans ((below_g0 gr7).mono ZA.size)
                have ZA7 := below_al Z7 (Nat.le_refl _) (.cells #[.int .i64 k.1, .int .i64 k.2.1, .int .i64 k.2.2, .int .i64 n] 65)
                refine hK.out _ _ (hS _ Z7) (fun hHeld => ?_)
                clear hK K
                try simp only [Act.put, List.setIfInBounds_toArray, List.set_cons_zero, List.set_cons_succ]
                refine wpAnyH_ready (rs := [12]) (by kernel_rfl) (by simp) ?_
                refine AllReadyH.cons (o := ({ dst := some 59, op := Op.call { callee := Callee.builtin Builtin.append, args := #[Operand.tmp 54, Operand.tmp 58], argTypes := #[38, 38] }, type := 38, pos := _, after := #[{ on := 7, ground := Ground.data }, { on := 11, ground := Ground.data }, { on := 7, ground := Ground.chain }], guard := none } : Oper)) rfl (fun K hK => ?_) AllReadyH.nil
                refine step_app_e (va := .slice a7 i c7) (base := W5.heap.size) (n := i) (A := L.take i) (B := [(k, n)]) (by first|exact Z7.size|exact ZA7.size) (by first|exact row7|exact row7.alloc _) (by first|exact isE_one (bk_new _ _ _)|exact isE_one (bk_grown0 (bk_new _ _ _) gr7)|exact isE_one (bk_grown0 (BK.drew (bk_new _ _ _)) gr7)) (by intro h; cases h) (by omega) _ _ rfl rfl rfl rfl ?_
                intro a12 c12 W12 row12 gr12
                have Z12 : Below W5.heap.size W5 W12 := by first|exact Z7.trans (below_row row7 gr12 (Nat.le_refl _) Z7.size)|exact ZA7.trans (below_row (row7.alloc _) gr12 (Nat.le_refl _) ZA7.size)
                refine hK.out _ _ (hS _ Z12) (fun hHeld => ?_)
                clear hK K
                try simp only [Act.put, List.setIfInBounds_toArray, List.set_cons_zero, List.set_cons_succ]
                refine wpAnyH_take (i := 13) (oi := ({ dst := some 8, op := Op.assign (Operand.tmp 59), type := 38, pos := _, after := #[{ on := 12, ground := Ground.data }, { on := 12, ground := Ground.chain }, { on := 0, ground := Ground.phase }, { on := 1, ground := Ground.phase }, { on := 2, ground := Ground.phase }, { on := 3, ground := Ground.phase }, { on := 4, ground := Ground.phase }, { on := 5, ground := Ground.phase }, { on := 6, ground := Ground.phase }, { on := 7, ground := Ground.phase }, { on := 8, ground := Ground.phase }, { on := 9, ground := Ground.phase }, { on := 10, ground := Ground.phase }, { on := 11, ground := Ground.phase }, { on := 12, ground := Ground.phase }], guard := none } : Oper)) (v := ?_) rfl (by kernel_rfl) (by kernel_rfl) (by kernel_rfl) (fun _ _ _ h => h) (Or.inl ⟨by rfl, ?_⟩) hHeld ?_
                rotate_left
                · (intro w hS; go_simp; try with_reducible rfl)
                try simp only [Act.put, List.setIfInBounds_toArray, List.set_cons_zero, List.set_cons_succ]
                refine wpAnyH_done (by kernel_rfl) ?_ _
                have hsf := run_suf W12 a L.length c i _ rfl hi hlc
                have E12 := (E5.up Z12 Z12.size).suf hlc hi
                have hsn := suf_none (i := i) hcn
                obtain ⟨a9, ha9⟩ : ∃ a9, (if c = i then a else a.map (·.add (i * 4))) = a9 := ⟨_, rfl⟩
                rw [ha9] at hsf E12 hsn
                clear ha9
                obtain ⟨a13, c13, W13, hap, row13, gr13⟩ := run_app_e W12 W5.heap.size Z12.size _ _ _ row12 _ _ (c - i) (L.drop i) E12 hsn (by omega) 38
                have Z13 := Z12.trans (below_row row12 gr13 (Nat.le_refl _) Z12.size)
                have h13 := h5.below Z13 h5.lt
                have p0 := h13.cell 0 _ rfl
                have f0 := h13.frozen 0
                have p12 := (hS _ Z12).1
                have hBq : But q W13.heap.size W13 (W13.setCell ⟨q, 0, none⟩ (.slice a13 (i + 1 + (L.length - i)) c13)) := (But.refl q W13.heap.size W13).set (p := ⟨q, 0, none⟩) rfl _
                have rowF := row_mono (row_other row13 hBq (Nat.le_refl _) h13 (by decide)) (Nat.zero_le _)
                have hF := h13.set 0 (.slice a13 (i + 1 + (L.length - i)) c13)
                have BF := (But.of (r := q) (B5.trans (Z13.mono B5.size))).trans (hBq.mono (Nat.le_trans B5.size Z13.size))
                have HLEN : Hid (i + 1 + (L.length - i) = (ins L (k, n)).length) := by rw [show (Hid (i + 1 + (L.length - i) = (ins L (k, n)).length)) = (i + 1 + (L.length - i) = (ins L (k, n)).length) from rfl, HI2.out]; simp only [List.length_append, List.length_cons, List.length_take, List.length_drop]; omega
                have HLST : Hid (L.take i ++ [(k, n)] ++ L.drop i = ins L (k, n)) := by rw [show (Hid (L.take i ++ [(k, n)] ++ L.drop i = ins L (k, n))) = (L.take i ++ [(k, n)] ++ L.drop i = ins L (k, n)) from rfl, HI2.out]; simp
                clear q0 k0 k1 k2 row7 gr7 row12 gr12 E12 row13 gr13 Z0 ZA Z7 ZA7 h13 hBq
                go_wp2_with (at_builtin; refine wpList_app hap _ _ rfl rfl rfl rfl rfl ?_)
                go_ret
                refine ⟨cret_int HE.out.symm, ?_, BF⟩
                rw [HT.out]
                refine ⟨a13, c13, ?_, ?_⟩
                · rw [← HLEN.out]; exact hF
                · rw [← HLEN.out, ← HLST.out]; exact rowF
          · have HFI : Hid (fnd L k = (i, false)) := by
              obtain rfl : i = L.length := by omega
              exact sofar_end HS.out
            have dlt : decide ((i : Int) < (L.length : Int)) = false := by simp; omega
            have B5 : Below w.heap.size w wr.drew := B4.drew
            have hd5 : Below wr.heap.size wr wr.drew := (Below.refl _ _).drew
            have h5 := h4.below hd5 h4.lt
            have K5 := K4.below hd5 K4.lt
            have E5 := E4.up hd5 (Nat.le_refl _)
            rw [show wr.heap.size = wr.drew.heap.size from rfl] at E5
            go_wp2
            refine wp_region_held_drew (S := (fun w' => w'.cell? ⟨q, 0, none⟩ = some (.slice a L.length c))) (by kernel_rfl) q0 (fun hHeld => ?_)
            refine wpAnyH_take (i := 0) (oi := ({ dst := some 26, op := Op.move (Operand.tmp 7), type := 3, pos := _, after := #[], guard := none } : Oper)) (v := ?_) rfl (by kernel_rfl) (by kernel_rfl) (by kernel_rfl) (fun _ _ _ h => h) (Or.inl ⟨by rfl, ?_⟩) hHeld ?_
            rotate_left
            · (intro w hS; go_simp; try with_reducible rfl)
            try simp only [Act.put, List.setIfInBounds_toArray, List.set_cons_zero, List.set_cons_succ]
            refine wpAnyH_take (i := 1) (oi := ({ dst := some 27, op := Op.move (Operand.tmp 0), type := 28, pos := _, after := #[], guard := none } : Oper)) (v := ?_) rfl (by kernel_rfl) (by kernel_rfl) (by kernel_rfl) (fun _ _ _ h => h) (Or.inl ⟨by rfl, ?_⟩) hHeld ?_
            rotate_left
            · (intro w hS; go_simp; try with_reducible rfl)
            try simp only [Act.put, List.setIfInBounds_toArray, List.set_cons_zero, List.set_cons_succ]
            refine wpAnyH_take (i := 2) (oi := ({ dst := some 28, op := Op.nilCheck (Operand.tmp 27), type := 0, pos := _, after := #[{ on := 1, ground := Ground.data }], guard := none } : Oper)) (v := ?_) rfl (by kernel_rfl) (by kernel_rfl) (by kernel_rfl) (fun _ _ _ h => h) (Or.inl ⟨by rfl, ?_⟩) hHeld ?_
            rotate_left
            · (intro w hS; go_simp; try with_reducible rfl)
            try simp only [Act.put, List.setIfInBounds_toArray, List.set_cons_zero, List.set_cons_succ]
            refine wpAnyH_take (i := 3) (oi := ({ dst := some 29, op := Op.fieldAddr 40 (Operand.tmp 28) 0, type := 0, pos := _, after := #[{ on := 2, ground := Ground.data }], guard := none } : Oper)) (v := ?_) rfl (by kernel_rfl) (by kernel_rfl) (by kernel_rfl) (fun _ _ _ h => h) (Or.inl ⟨by rfl, ?_⟩) hHeld ?_
            rotate_left
            · (intro w hS; go_simp; try with_reducible rfl)
            try simp only [Act.put, List.setIfInBounds_toArray, List.set_cons_zero, List.set_cons_succ]
            refine wpAnyH_take (i := 4) (oi := ({ dst := some 30, op := Op.load 38 (Operand.tmp 29), type := 38, pos := _, after := #[{ on := 3, ground := Ground.data }], guard := none } : Oper)) (v := ?_) rfl (by kernel_rfl) (by kernel_rfl) (by kernel_rfl) (fun _ _ _ h => h) (Or.inl ⟨by rfl, ?_⟩) hHeld ?_
            rotate_left
            · (intro w hS; go_simp; try with_reducible rfl)
            try simp only [Act.put, List.setIfInBounds_toArray, List.set_cons_zero, List.set_cons_succ]
            refine wpAnyH_take (i := 5) (oi := ({ dst := some 31, op := Op.call { callee := Callee.builtin Builtin.len, args := #[Operand.tmp 30], argTypes := #[38] }, type := 3, pos := _, after := #[{ on := 4, ground := Ground.data }], guard := none } : Oper)) (v := ?_) rfl (by kernel_rfl) (by kernel_rfl) (by kernel_rfl) (fun _ _ _ h => h) (Or.inl ⟨by rfl, ?_⟩) hHeld ?_
            rotate_left
            · (intro w hS; go_simp; try with_reducible rfl)
            try simp only [Act.put, List.setIfInBounds_toArray, List.set_cons_zero, List.set_cons_succ]
            refine wpAnyH_take (i := 6) (oi := ({ dst := some 32, op := Op.binOp BinOp.lss 3 (Operand.tmp 26) (Operand.tmp 31) 3, type := 4, pos := _, after := #[{ on := 0, ground := Ground.data }, { on := 5, ground := Ground.data }], guard := none } : Oper)) (v := ?_) rfl (by kernel_rfl) (by kernel_rfl) (by kernel_rfl) (fun _ _ _ h => h) (Or.inl ⟨by rfl, ?_⟩) hHeld ?_
            rotate_left
            · (intro w hS; go_simp; try with_reducible rfl)
            try simp only [Act.put, List.setIfInBounds_toArray, List.set_cons_zero, List.set_cons_succ]
            refine wpAnyH_take (i := 7) (oi := ({ dst := some 33, op := Op.move (Operand.tmp 32), type := 4, pos := _, after := #[{ on := 6, ground := Ground.data }], guard := none } : Oper)) (v := ?_) rfl (by kernel_rfl) (by kernel_rfl) (by kernel_rfl) (fun _ _ _ h => h) (Or.inl ⟨by rfl, ?_⟩) hHeld ?_
            rotate_left
            · (intro w hS; go_simp; try with_reducible rfl)
            try simp only [Act.put, List.setIfInBounds_toArray, List.set_cons_zero, List.set_cons_succ]
            refine wpAnyH_take (i := 8) (oi := ({ dst := some 34, op := Op.move (Operand.tmp 0), type := 28, pos := _, after := #[{ on := 7, ground := Ground.guard }], guard := some (7, true) } : Oper)) (v := undef) rfl (by kernel_rfl) (by kernel_rfl) (by kernel_rfl) (fun _ _ _ h => h) (Or.inr ⟨by rfl, rfl⟩) hHeld ?_
            try simp only [Act.put, List.setIfInBounds_toArray, List.set_cons_zero, List.set_cons_succ]
            refine wpAnyH_take (i := 9) (oi := ({ dst := some 35, op := Op.nilCheck (Operand.tmp 34), type := 0, pos := _, after := #[{ on := 8, ground := Ground.data }, { on := 7, ground := Ground.guard }], guard := some (7, true) } : Oper)) (v := undef) rfl (by kernel_rfl) (by kernel_rfl) (by kernel_rfl) (fun _ _ _ h => h) (Or.inr ⟨by rfl, rfl⟩) hHeld ?_
            try simp only [Act.put, List.setIfInBounds_toArray, List.set_cons_zero, List.set_cons_succ]
            refine wpAnyH_take (i := 10) (oi := ({ dst := some 36, op := Op.fieldAddr 40 (Operand.tmp 35) 0, type := 0, pos := _, after := #[{ on := 9, ground := Ground.data }, { on := 7, ground := Ground.guard }], guard := some (7, true) } : Oper)) (v := undef) rfl (by kernel_rfl) (by kernel_rfl) (by kernel_rfl) (fun _ _ _ h => h) (Or.inr ⟨by rfl, rfl⟩) hHeld ?_
            try simp only [Act.put, List.setIfInBounds_toArray, List.set_cons_zero, List.set_cons_succ]
            refine wpAnyH_take (i := 11) (oi := ({ dst := some 37, op := Op.load 38 (Operand.tmp 36), type := 38, pos := _, after := #[{ on := 10, ground := Ground.data }, { on := 7, ground := Ground.guard }], guard := some (7, true) } : Oper)) (v := undef) rfl (by kernel_rfl) (by kernel_rfl) (by kernel_rfl) (fun _ _ _ h => h) (Or.inr ⟨by rfl, rfl⟩) hHeld ?_
            try simp only [Act.put, List.setIfInBounds_toArray, List.set_cons_zero, List.set_cons_succ]
            refine wpAnyH_take (i := 12) (oi := ({ dst := some 38, op := Op.move (Operand.tmp 7), type := 3, pos := _, after := #[{ on := 7, ground := Ground.guard }], guard := some (7, true) } : Oper)) (v := undef) rfl (by kernel_rfl) (by kernel_rfl) (by kernel_rfl) (fun _ _ _ h => h) (Or.inr ⟨by rfl, rfl⟩) hHeld ?_
            try simp only [Act.put, List.setIfInBounds_toArray, List.set_cons_zero, List.set_cons_succ]
            refine wpAnyH_take (i := 13) (oi := ({ dst := some 39, op := Op.indexAddr 38 (Operand.tmp 37) (Operand.tmp 38), type := 0, pos := _, after := #[{ on := 11, ground := Ground.data }, { on := 12, ground := Ground.data }, { on := 7, ground := Ground.guard }], guard := some (7, true) } : Oper)) (v := undef) rfl (by kernel_rfl) (by kernel_rfl) (by kernel_rfl) (fun _ _ _ h => h) (Or.inr ⟨by rfl, rfl⟩) hHeld ?_
            try simp only [Act.put, List.setIfInBounds_toArray, List.set_cons_zero, List.set_cons_succ]
            refine wpAnyH_take (i := 14) (oi := ({ dst := some 40, op := Op.fieldAddr 65 (Operand.tmp 39) 0, type := 0, pos := _, after := #[{ on := 13, ground := Ground.data }, { on := 7, ground := Ground.guard }], guard := some (7, true) } : Oper)) (v := undef) rfl (by kernel_rfl) (by kernel_rfl) (by kernel_rfl) (fun _ _ _ h => h) (Or.inr ⟨by rfl, rfl⟩) hHeld ?_
            try simp only [Act.put, List.setIfInBounds_toArray, List.set_cons_zero, List.set_cons_succ]
            refine wpAnyH_take (i := 15) (oi := ({ dst := some 41, op := Op.load 24 (Operand.tmp 40), type := 24, pos := _, after := #[{ on := 14, ground := Ground.data }, { on := 7, ground := Ground.guard }], guard := some (7, true) } : Oper)) (v := undef) rfl (by kernel_rfl) (by kernel_rfl) (by kernel_rfl) (fun _ _ _ h => h) (Or.inr ⟨by rfl, rfl⟩) hHeld ?_
            try simp only [Act.put, List.setIfInBounds_toArray, List.set_cons_zero, List.set_cons_succ]
            refine wpAnyH_take (i := 16) (oi := ({ dst := some 42, op := Op.load 24 (Operand.tmp 4), type := 24, pos := _, after := #[{ on := 7, ground := Ground.guard }], guard := some (7, true) } : Oper)) (v := undef) rfl (by kernel_rfl) (by kernel_rfl) (by kernel_rfl) (fun _ _ _ h => h) (Or.inr ⟨by rfl, rfl⟩) hHeld ?_
            try simp only [Act.put, List.setIfInBounds_toArray, List.set_cons_zero, List.set_cons_succ]
            refine wpAnyH_take (i := 17) (oi := ({ dst := some 43, op := Op.call { callee := Callee.value (Operand.func 29), args := #[Operand.tmp 41, Operand.tmp 42], argTypes := #[24, 24] }, type := 4, pos := _, after := #[{ on := 15, ground := Ground.data }, { on := 16, ground := Ground.data }, { on := 7, ground := Ground.chain }, { on := 7, ground := Ground.guard }], guard := some (7, true) } : Oper)) (v := undef) rfl (by kernel_rfl) (by kernel_rfl) (by kernel_rfl) (fun _ _ _ h => h) (Or.inr ⟨by rfl, rfl⟩) hHeld ?_
            try simp only [Act.put, List.setIfInBounds_toArray, List.set_cons_zero, List.set_cons_succ]
            refine wpAnyH_take (i := 18) (oi := ({ dst := some 44, op := Op.pick (Operand.tmp 33) (Operand.tmp 43) (Operand.const (Value.bool false)), type := 4, pos := _, after := #[{ on := 7, ground := Ground.data }, { on := 17, ground := Ground.data }], guard := none } : Oper)) (v := ?_) rfl (by kernel_rfl) (by kernel_rfl) (by kernel_rfl) (fun _ _ _ h => h) (Or.inl ⟨by rfl, ?_⟩) hHeld ?_
            rotate_left
            · (intro w hS; go_simp; try with_reducible rfl)
            try simp only [Act.put, List.setIfInBounds_toArray, List.set_cons_zero, List.set_cons_succ]
            refine wpAnyH_done (by kernel_rfl) ?_ _
            skip
            clear h4 K4 E4 B4 q0 k0 k1 k2 b4 hd5
            generalize wr.drew = W5 at *
            have hI2 : L.take (fnd L k).1 ++ (k, n) :: L.drop (fnd L k).1 = L.take i ++ (k, n) :: L.drop i := by rw [HFI.out]
            have HI2 : Hid (ins L (k, n) = L.take i ++ (k, n) :: L.drop i) := HI.out.trans hI2
            clear hI2
            have Z0 : Below W5.heap.size W5 W5.drew := (Below.refl _ _).drew
            have ZA := below_al Z0 (Nat.le_refl _) (.cells #[.int .i64 k.1, .int .i64 k.2.1, .int .i64 k.2.2, .int .i64 n] 65)
            have hS : ∀ W', Below W5.heap.size W5 W' → W'.cell? ⟨q, 0, none⟩ = some (.slice a L.length c) ∧ W'.cell? ⟨w.heap.size, 0, none⟩ = some (.int .i64 k.1) ∧ W'.cell? ⟨w.heap.size, 1, none⟩ = some (.int .i64 k.2.1) ∧ W'.cell? ⟨w.heap.size, 1 + 1, none⟩ = some (.int .i64 k.2.2) := fun W' hW => by
              have h6 := h5.below hW h5.lt
              have K6 := K5.below hW K5.lt
              exact ⟨h6.cell 0 _ rfl, K6.cell 0 _ rfl, K6.cell 1 _ rfl, K6.cell 2 _ rfl⟩
            have hE : ∀ W', Below W5.heap.size W5 W' → IsE W'.heap.size W' a i (L.take i) := fun W' hW => (E5.up hW hW.size).pre hi
            obtain ⟨q0, k0, k1, k2⟩ := hS _ (Below.refl _ _)
            have hic : i ≤ c := by omega
            go_wp2
            refine wp_region_held_drew (S := (fun w' => w'.cell? ⟨q, 0, none⟩ = some (.slice a L.length c) ∧ w'.cell? ⟨w.heap.size, 0, none⟩ = some (.int .i64 k.1) ∧ w'.cell? ⟨w.heap.size, 1, none⟩ = some (.int .i64 k.2.1) ∧ w'.cell? ⟨w.heap.size, 1 + 1, none⟩ = some (.int .i64 k.2.2))) (by kernel_rfl) ⟨q0, k0, k1, k2⟩ (fun hHeld => ?_)
            refine wpAnyH_take (i := 0) (oi := ({ dst := some 47, op := Op.move (Operand.tmp 8), type := 38, pos := _, after := #[], guard := none } : Oper)) (v := ?_) rfl (by kernel_rfl) (by kernel_rfl) (by kernel_rfl) (fun _ _ _ h => h) (Or.inl ⟨by rfl, ?_⟩) hHeld ?_
            rotate_left
            · (intro w hS; go_simp; try with_reducible rfl)
            try simp only [Act.put, List.setIfInBounds_toArray, List.set_cons_zero, List.set_cons_succ]
            refine wpAnyH_take (i := 1) (oi := ({ dst := some 48, op := Op.move (Operand.tmp 0), type := 28, pos := _, after := #[], guard := none } : Oper)) (v := ?_) rfl (by kernel_rfl) (by kernel_rfl) (by kernel_rfl) (fun _ _ _ h => h) (Or.inl ⟨by rfl, ?_⟩) hHeld ?_
            rotate_left
            · (intro w hS; go_simp; try with_reducible rfl)
            try simp only [Act.put, List.setIfInBounds_toArray, List.set_cons_zero, List.set_cons_succ]
            refine wpAnyH_take (i := 2) (oi := ({ dst := some 49, op := Op.nilCheck (Operand.tmp 48), type := 0, pos := _, after := #[{ on := 1, ground := Ground.data }], guard := none } : Oper)) (v := ?_) rfl (by kernel_rfl) (by kernel_rfl) (by kernel_rfl) (fun _ _ _ h => h) (Or.inl ⟨by rfl, ?_⟩) hHeld ?_
            rotate_left
            · (intro w hS; go_simp; try with_reducible rfl)
            try simp only [Act.put, List.setIfInBounds_toArray, List.set_cons_zero, List.set_cons_succ]
            refine wpAnyH_take (i := 3) (oi := ({ dst := some 50, op := Op.fieldAddr 40 (Operand.tmp 49) 0, type := 0, pos := _, after := #[{ on := 2, ground := Ground.data }], guard := none } : Oper)) (v := ?_) rfl (by kernel_rfl) (by kernel_rfl) (by kernel_rfl) (fun _ _ _ h => h) (Or.inl ⟨by rfl, ?_⟩) hHeld ?_
            rotate_left
            · (intro w hS; go_simp; try with_reducible rfl)
            try simp only [Act.put, List.setIfInBounds_toArray, List.set_cons_zero, List.set_cons_succ]
            refine wpAnyH_take (i := 4) (oi := ({ dst := some 51, op := Op.load 38 (Operand.tmp 50), type := 38, pos := _, after := #[{ on := 3, ground := Ground.data }], guard := none } : Oper)) (v := ?_) rfl (by kernel_rfl) (by kernel_rfl) (by kernel_rfl) (fun _ _ _ h => h) (Or.inl ⟨by rfl, ?_⟩) hHeld ?_
            rotate_left
            · (intro w hS; go_simp; try with_reducible rfl)
            try simp only [Act.put, List.setIfInBounds_toArray, List.set_cons_zero, List.set_cons_succ]
            refine wpAnyH_take (i := 5) (oi := ({ dst := some 52, op := Op.move (Operand.tmp 7), type := 3, pos := _, after := #[], guard := none } : Oper)) (v := ?_) rfl (by kernel_rfl) (by kernel_rfl) (by kernel_rfl) (fun _ _ _ h => h) (Or.inl ⟨by rfl, ?_⟩) hHeld ?_
            rotate_left
            · (intro w hS; go_simp; try with_reducible rfl)
            try simp only [Act.put, List.setIfInBounds_toArray, List.set_cons_zero, List.set_cons_succ]
            refine wpAnyH_take (i := 6) (oi := ({ dst := some 53, op := Op.slice 38 (Operand.tmp 51) none (some (Operand.tmp 52)) none, type := 38, pos := _, after := #[{ on := 4, ground := Ground.data }, { on := 5, ground := Ground.data }], guard := none } : Oper)) (v := ?_) rfl (by kernel_rfl) (by kernel_rfl) (by kernel_rfl) (fun _ _ _ h => h) (Or.inl ⟨by rfl, ?_⟩) hHeld ?_
            rotate_left
            · (intro w hS; go_simp; first|rfl|(rw [run_pre _ a L.length c i _ rfl hic]; rfl))
            try simp only [Act.put, List.setIfInBounds_toArray, List.set_cons_zero, List.set_cons_succ]
            refine wpAnyH_take (i := 8) (oi := ({ dst := some 55, op := Op.load 24 (Operand.tmp 4), type := 24, pos := _, after := #[], guard := none } : Oper)) (v := ?_) rfl (by kernel_rfl) (by kernel_rfl) (by kernel_rfl) (fun _ _ _ h => h) (Or.inl ⟨by rfl, ?_⟩) hHeld ?_
            rotate_left
            · (intro w hS; go_simp; try with_reducible rfl)
            try simp only [Act.put, List.setIfInBounds_toArray, List.set_cons_zero, List.set_cons_succ]
            refine wpAnyH_take (i := 9) (oi := ({ dst := some 56, op := Op.move (Operand.tmp 2), type := 3, pos := _, after := #[], guard := none } : Oper)) (v := ?_) rfl (by kernel_rfl) (by kernel_rfl) (by kernel_rfl) (fun _ _ _ h => h) (Or.inl ⟨by rfl, ?_⟩) hHeld ?_
            rotate_left
            · (intro w hS; go_simp; try with_reducible rfl)
            try simp only [Act.put, List.setIfInBounds_toArray, List.set_cons_zero, List.set_cons_succ]
            refine wpAnyH_take (i := 10) (oi := ({ dst := some 57, op := Op.build 65 #[(0, Operand.tmp 55), (1, Operand.tmp 56)], type := 65, pos := _, after := #[{ on := 8, ground := Ground.data }, { on := 9, ground := Ground.data }], guard := none } : Oper)) (v := ?_) rfl (by kernel_rfl) (by kernel_rfl) (by kernel_rfl) (fun _ _ _ h => h) (Or.inl ⟨by rfl, ?_⟩) hHeld ?_
            rotate_left
            · (intro w hS; go_simp; try with_reducible rfl)
            try simp only [Act.put, List.setIfInBounds_toArray, List.set_cons_zero, List.set_cons_succ]
            refine wpAnyH_ready (rs := [7, 11]) (by kernel_rfl) (by simp) ?_
            refine AllReadyH.cons (o := ({ dst := some 54, op := Op.call { callee := Callee.builtin Builtin.append, args := #[Operand.tmp 47, Operand.tmp 53], argTypes := #[38, 38] }, type := 38, pos := _, after := #[{ on := 0, ground := Ground.data }, { on := 6, ground := Ground.data }], guard := none } : Oper)) rfl (fun K hK => ?_) (AllReadyH.cons (o := ({ dst := some 58, op := Op.buildSlice 38 1 #[(0, Operand.tmp 57)], type := 38, pos := _, after := #[{ on := 10, ground := Ground.data }], guard := none } : Oper)) rfl (fun K hK => ?_) (AllReadyH.nil))
            · refine step_app_e (va := .slice none 0 0) (base := W5.heap.size) (n := 0) (A := []) (B := L.take i) (by first|exact Z0.size|exact ZA.size) (World.ownsRow_nil _ _ _ _) (by first|exact hE _ Z0|exact hE _ ZA) hcn (by omega) _ _ rfl rfl rfl rfl ?_
              intro a7 c7 W7 row7 gr7
              simp only [Nat.zero_add, List.nil_append] at row7 ⊢
              have Z7 : Below W5.heap.size W5 W7 := by first|exact Z0.trans ((below_g0 gr7).mono Z0.size)|exact ZA.trans ((below_g0 gr7).mono ZA.size)
              have ZA7 := below_al Z7 (Nat.le_refl _) (.cells #[.int .i64 k.1, .int .i64 k.2.1, .int .i64 k.2.2, .int .i64 n] 65)
              refine hK.out _ _ (hS _ Z7) (fun hHeld => ?_)
              clear hK K
              try simp only [Act.put, List.setIfInBounds_toArray, List.set_cons_zero, List.set_cons_succ]
              refine wpAnyH_ready (rs := [11]) (by kernel_rfl) (by simp) ?_
              refine AllReadyH.cons (o := ({ dst := some 58, op := Op.buildSlice 38 1 #[(0, Operand.tmp 57)], type := 38, pos := _, after := #[{ on := 10, ground := Ground.data }], guard := none } : Oper)) rfl (fun K hK => ?_) AllReadyH.nil
              go_simp
              skip
              refine hK.out _ _ (by first|exact hS _ ZA|exact hS _ ZA7) (fun hHeld => ?_)
              clear hK K
              try simp only [Act.put, List.setIfInBounds_toArray, List.set_cons_zero, List.set_cons_succ]
              refine wpAnyH_ready (rs := [12]) (by kernel_rfl) (by simp) ?_
              refine AllReadyH.cons (o := ({ dst := some 59, op := Op.call { callee := Callee.builtin Builtin.append, args := #[Operand.tmp 54, Operand.tmp 58], argTypes := #[38, 38] }, type := 38, pos := _, after := #[{ on := 7, ground := Ground.data }, { on := 11, ground := Ground.data }, { on := 7, ground := Ground.chain }], guard := none } : Oper)) rfl (fun K hK => ?_) AllReadyH.nil
              refine step_app_e (va := .slice a7 i c7) (base := W5.heap.size) (n := i) (A := L.take i) (B := [(k, n)]) (by first|exact Z7.size|exact ZA7.size) (by first|exact row7|exact row7.alloc _) (by first|exact isE_one (bk_new _ _ _)|exact isE_one (bk_grown0 (bk_new _ _ _) gr7)|exact isE_one (bk_grown0 (BK.drew (bk_new _ _ _)) gr7)) (by intro h; cases h) (by omega) _ _ rfl rfl rfl rfl ?_
              intro a12 c12 W12 row12 gr12
              have Z12 : Below W5.heap.size W5 W12 := by first|exact Z7.trans (below_row row7 gr12 (Nat.le_refl _) Z7.size)|exact ZA7.trans (below_row (row7.alloc _) gr12 (Nat.le_refl _) ZA7.size)
              refine hK.out _ _ (hS _ Z12) (fun hHeld => ?_)
              clear hK K
              try simp only [Act.put, List.setIfInBounds_toArray, List.set_cons_zero, List.set_cons_succ]
              refine wpAnyH_take (i := 13) (oi := ({ dst := some 8, op := Op.assign (Operand.tmp 59), type := 38, pos := _, after := #[{ on := 12, ground := Ground.data }, { on := 12, ground := Ground.chain }, { on := 0, ground := Ground.phase }, { on := 1, ground := Ground.phase }, { on := 2, ground := Ground.phase }, { on := 3, ground := Ground.phase }, { on := 4, ground := Ground.phase }, { on := 5, ground := Ground.phase }, { on := 6, ground := Ground.phase }, { on := 7, ground := Ground.phase }, { on := 8, ground := Ground.phase }, { on := 9, ground := Ground.phase }, { on := 10, ground := Ground.phase }, { on := 11, ground := Ground.phase }, { on := 12, ground := Ground.phase }], guard := none } : Oper)) (v := ?_) rfl (by kernel_rfl) (by kernel_rfl) (by kernel_rfl) (fun _ _ _ h => h) (Or.inl ⟨by rfl, ?_⟩) hHeld ?_
              rotate_left
              · (intro w hS; go_simp; try with_reducible rfl)
              try simp only [Act.put, List.setIfInBounds_toArray, List.set_cons_zero, List.set_cons_succ]
              refine wpAnyH_done (by kernel_rfl) ?_ _
              have hsf := run_suf W12 a L.length c i _ rfl hi hlc
              have E12 := (E5.up Z12 Z12.size).suf hlc hi
              have hsn := suf_none (i := i) hcn
              obtain ⟨a9, ha9⟩ : ∃ a9, (if c = i then a else a.map (·.add (i * 4))) = a9 := ⟨_, rfl⟩
              rw [ha9] at hsf E12 hsn
              clear ha9
              obtain ⟨a13, c13, W13, hap, row13, gr13⟩ := run_app_e W12 W5.heap.size Z12.size _ _ _ row12 _ _ (c - i) (L.drop i) E12 hsn (by omega) 38
              have Z13 := Z12.trans (below_row row12 gr13 (Nat.le_refl _) Z12.size)
              have h13 := h5.below Z13 h5.lt
              have p0 := h13.cell 0 _ rfl
              have f0 := h13.frozen 0
              have p12 := (hS _ Z12).1
              have hBq : But q W13.heap.size W13 (W13.setCell ⟨q, 0, none⟩ (.slice a13 (i + 1 + (L.length - i)) c13)) := (But.refl q W13.heap.size W13).set (p := ⟨q, 0, none⟩) rfl _
              have rowF := row_mono (row_other row13 hBq (Nat.le_refl _) h13 (by decide)) (Nat.zero_le _)
              have hF := h13.set 0 (.slice a13 (i + 1 + (L.length - i)) c13)
              have BF := (But.of (r := q) (B5.trans (Z13.mono B5.size))).trans (hBq.mono (Nat.le_trans B5.size Z13.size))
              have HLEN : Hid (i + 1 + (L.length - i) = (ins L (k, n)).length) := by rw [show (Hid (i + 1 + (L.length - i) = (ins L (k, n)).length)) = (i + 1 + (L.length - i) = (ins L (k, n)).length) from rfl, HI2.out]; simp only [List.length_append, List.length_cons, List.length_take, List.length_drop]; omega
              have HLST : Hid (L.take i ++ [(k, n)] ++ L.drop i = ins L (k, n)) := by rw [show (Hid (L.take i ++ [(k, n)] ++ L.drop i = ins L (k, n))) = (L.take i ++ [(k, n)] ++ L.drop i = ins L (k, n)) from rfl, HI2.out]; simp
              clear q0 k0 k1 k2 row7 gr7 row12 gr12 E12 row13 gr13 Z0 ZA Z7 ZA7 h13 hBq
              go_wp2_with (at_builtin; refine wpList_app hap _ _ rfl rfl rfl rfl rfl ?_)
              go_ret
              refine ⟨cret_int HE.out.symm, ?_, BF⟩
              rw [HT.out]
              refine ⟨a13, c13, ?_, ?_⟩
              · rw [← HLEN.out]; exact hF
              · rw [← HLEN.out, ← HLST.out]; exact rowF
            · go_simp
              skip
              refine hK.out _ _ (by first|exact hS _ ZA|exact hS _ ZA7) (fun hHeld => ?_)
              clear hK K
              try simp only [Act.put, List.setIfInBounds_toArray, List.set_cons_zero, List.set_cons_succ]
              refine wpAnyH_ready (rs := [7]) (by kernel_rfl) (by simp) ?_
              refine AllReadyH.cons (o := ({ dst := some 54, op := Op.call { callee := Callee.builtin Builtin.append, args := #[Operand.tmp 47, Operand.tmp 53], argTypes := #[38, 38] }, type := 38, pos := _, after := #[{ on := 0, ground := Ground.data }, { on := 6, ground := Ground.data }], guard := none } : Oper)) rfl (fun K hK => ?_) AllReadyH.nil
              refine step_app_e (va := .slice none 0 0) (base := W5.heap.size) (n := 0) (A := []) (B := L.take i) (by first|exact Z0.size|exact ZA.size) (World.ownsRow_nil _ _ _ _) (by first|exact hE _ Z0|exact hE _ ZA) hcn (by omega) _ _ rfl rfl rfl rfl ?_
              intro a7 c7 W7 row7 gr7
              simp only [Nat.zero_add, List.nil_append] at row7 ⊢
              have Z7 : Below W5.heap.size W5 W7 := by first|exact Z0.trans ((below_g0 gr7).mono Z0.size)|exact ZA.trans ((below_g0 gr7).mono ZA.size)
              have ZA7 := below_al Z7 (Nat.le_refl _) (.cells #[.int .i64 k.1, .int .i64 k.2.1, .int .i64 k.2.2, .int .i64 n] 65)
              refine hK.out _ _ (hS _ Z7) (fun hHeld => ?_)
              clear hK K
              try simp only [Act.put, List.setIfInBounds_toArray, List.set_cons_zero, List.set_cons_succ]
              refine wpAnyH_ready (rs := [12]) (by kernel_rfl) (by simp) ?_
              refine AllReadyH.cons (o := ({ dst := some 59, op := Op.call { callee := Callee.builtin Builtin.append, args := #[Operand.tmp 54, Operand.tmp 58], argTypes := #[38, 38] }, type := 38, pos := _, after := #[{ on := 7, ground := Ground.data }, { on := 11, ground := Ground.data }, { on := 7, ground := Ground.chain }], guard := none } : Oper)) rfl (fun K hK => ?_) AllReadyH.nil
              refine step_app_e (va := .slice a7 i c7) (base := W5.heap.size) (n := i) (A := L.take i) (B := [(k, n)]) (by first|exact Z7.size|exact ZA7.size) (by first|exact row7|exact row7.alloc _) (by first|exact isE_one (bk_new _ _ _)|exact isE_one (bk_grown0 (bk_new _ _ _) gr7)|exact isE_one (bk_grown0 (BK.drew (bk_new _ _ _)) gr7)) (by intro h; cases h) (by omega) _ _ rfl rfl rfl rfl ?_
              intro a12 c12 W12 row12 gr12
              have Z12 : Below W5.heap.size W5 W12 := by first|exact Z7.trans (below_row row7 gr12 (Nat.le_refl _) Z7.size)|exact ZA7.trans (below_row (row7.alloc _) gr12 (Nat.le_refl _) ZA7.size)
              refine hK.out _ _ (hS _ Z12) (fun hHeld => ?_)
              clear hK K
              try simp only [Act.put, List.setIfInBounds_toArray, List.set_cons_zero, List.set_cons_succ]
              refine wpAnyH_take (i := 13) (oi := ({ dst := some 8, op := Op.assign (Operand.tmp 59), type := 38, pos := _, after := #[{ on := 12, ground := Ground.data }, { on := 12, ground := Ground.chain }, { on := 0, ground := Ground.phase }, { on := 1, ground := Ground.phase }, { on := 2, ground := Ground.phase }, { on := 3, ground := Ground.phase }, { on := 4, ground := Ground.phase }, { on := 5, ground := Ground.phase }, { on := 6, ground := Ground.phase }, { on := 7, ground := Ground.phase }, { on := 8, ground := Ground.phase }, { on := 9, ground := Ground.phase }, { on := 10, ground := Ground.phase }, { on := 11, ground := Ground.phase }, { on := 12, ground := Ground.phase }], guard := none } : Oper)) (v := ?_) rfl (by kernel_rfl) (by kernel_rfl) (by kernel_rfl) (fun _ _ _ h => h) (Or.inl ⟨by rfl, ?_⟩) hHeld ?_
              rotate_left
              · (intro w hS; go_simp; try with_reducible rfl)
              try simp only [Act.put, List.setIfInBounds_toArray, List.set_cons_zero, List.set_cons_succ]
              refine wpAnyH_done (by kernel_rfl) ?_ _
              have hsf := run_suf W12 a L.length c i _ rfl hi hlc
              have E12 := (E5.up Z12 Z12.size).suf hlc hi
              have hsn := suf_none (i := i) hcn
              obtain ⟨a9, ha9⟩ : ∃ a9, (if c = i then a else a.map (·.add (i * 4))) = a9 := ⟨_, rfl⟩
              rw [ha9] at hsf E12 hsn
              clear ha9
              obtain ⟨a13, c13, W13, hap, row13, gr13⟩ := run_app_e W12 W5.heap.size Z12.size _ _ _ row12 _ _ (c - i) (L.drop i) E12 hsn (by omega) 38
              have Z13 := Z12.trans (below_row row12 gr13 (Nat.le_refl _) Z12.size)
              have h13 := h5.below Z13 h5.lt
              have p0 := h13.cell 0 _ rfl
              have f0 := h13.frozen 0
              have p12 := (hS _ Z12).1
              have hBq : But q W13.heap.size W13 (W13.setCell ⟨q, 0, none⟩ (.slice a13 (i + 1 + (L.length - i)) c13)) := (But.refl q W13.heap.size W13).set (p := ⟨q, 0, none⟩) rfl _
              have rowF := row_mono (row_other row13 hBq (Nat.le_refl _) h13 (by decide)) (Nat.zero_le _)
              have hF := h13.set 0 (.slice a13 (i + 1 + (L.length - i)) c13)
              have BF := (But.of (r := q) (B5.trans (Z13.mono B5.size))).trans (hBq.mono (Nat.le_trans B5.size Z13.size))
              have HLEN : Hid (i + 1 + (L.length - i) = (ins L (k, n)).length) := by rw [show (Hid (i + 1 + (L.length - i) = (ins L (k, n)).length)) = (i + 1 + (L.length - i) = (ins L (k, n)).length) from rfl, HI2.out]; simp only [List.length_append, List.length_cons, List.length_take, List.length_drop]; omega
              have HLST : Hid (L.take i ++ [(k, n)] ++ L.drop i = ins L (k, n)) := by rw [show (Hid (L.take i ++ [(k, n)] ++ L.drop i = ins L (k, n))) = (L.take i ++ [(k, n)] ++ L.drop i = ins L (k, n)) from rfl, HI2.out]; simp
              clear q0 k0 k1 k2 row7 gr7 row12 gr12 E12 row13 gr13 Z0 ZA Z7 ZA7 h13 hBq
              go_wp2_with (at_builtin; refine wpList_app hap _ _ rfl rfl rfl rfl rfl ?_)
              go_ret
              refine ⟨cret_int HE.out.symm, ?_, BF⟩
              rw [HT.out]
              refine ⟨a13, c13, ?_, ?_⟩
              · rw [← HLEN.out]; exact hF
              · rw [← HLEN.out, ← HLST.out]; exact rowF
end Go.Proofs.Ytgimmaancnlbcaa
