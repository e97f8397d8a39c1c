/- Proved here: the walk of ConnsPlay. Conditions: as each theorem states them. -/
import Derived.Test.YtgimmaancnlbcaaRPt
import Derived.Test.YtgimmaancnlbcaaRDp
namespace Go.Proofs.Ytgimmaancnlbcaa
set_option linter.unusedSimpArgs false
set_option linter.unusedVariables false
open Go.RowKit Go.Shelf

/-- The table and the document's, side by side, and the key. -/
structure PI (t q : Nat) (k : Ky) (R : Nat) (w W : World) (L M : List En) : Prop where
  tab : TB W t L R
  rf : RT W q M R
  key : BK W w.heap.size #[.int .i64 k.1, .int .i64 k.2.1, .int .i64 k.2.2] 24
  bel : Below w.heap.size w W
  lt : w.heap.size < t ∧ t < q
theorem PI.below {t q R m : Nat} {k : Ky} {w W W' : World} {L M : List En} (h : PI t q k R w W L M) (hb : Below m W W') (hm : W.heap.size ≤ m) : PI t q k R w W' L M :=
  ⟨h.tab.below hb (Nat.lt_of_lt_of_le h.tab.lt hm), h.rf.below hb hm, h.key.below hb (Nat.lt_of_lt_of_le h.key.lt hm), h.bel.trans (hb.mono (Nat.le_trans h.bel.size hm)), h.lt⟩
theorem PI.drew {t q R : Nat} {k : Ky} {w W : World} {L M : List En} (h : PI t q k R w W L M) : PI t q k R w W.drew L M := h.below (Below.refl W.heap.size W).drew (Nat.le_refl _)
theorem PI.one {t q R : Nat} {k : Ky} {w W V : World} {L L' M : List En} (h : PI t q k R w W L M) (ht : TB V t L' R) (hb : But t W.heap.size W V) : PI t q k R w V L' M := by
  obtain ⟨S, _, _, hbk⟩ := h.tab.ex
  obtain ⟨l1, l2⟩ := h.lt
  exact ⟨ht, h.rf.but hb (Nat.le_refl _) (by omega) hbk (by decide), h.key.but hb h.key.lt (by omega), h.bel.trans (hb.below h.bel.size (by omega)), h.lt⟩
theorem PI.two {t q R : Nat} {k : Ky} {w W V : World} {L M' M : List En} (h : PI t q k R w W L M) (hr : RT V q M' R) (hb : But q W.heap.size W V) : PI t q k R w V L M' := by
  obtain ⟨l1, l2⟩ := h.lt
  exact ⟨h.tab.but hb h.tab.lt (by omega), hr, h.key.but hb h.key.lt (by omega), h.bel.trans (hb.below h.bel.size (by omega)), h.lt⟩

theorem rfr_three (L : List En) (p q f : Int) : ∃ (N F : Int) (B : Bool), freeN L p q f = N ∧ freeB L p q f = B ∧ rfrN L p q f = F ∧ (if F < 0 then (0 : Int) else F) = N ∧ decide (0 ≤ F) = B := by
  refine ⟨_, _, _, rfl, rfl, rfl, ?_, ?_⟩
  · unfold rfrN
    cases hb : freeB L p q f with
    | false =>
      have : freeN L p q f = 0 := by unfold freeB at hb; unfold freeN; rw [hb]; rfl
      rw [this]; decide
    | true =>
      have h0 : 0 ≤ freeN L p q f := by
        unfold freeB at hb; unfold freeN; rw [if_pos hb]
        have h9 := (rightK_iff _).1 hb; exact h9.2.2.1
      rw [if_pos rfl]; exact if_neg (by omega)
  · unfold rfrN
    cases hb : freeB L p q f with
    | false => rfl
    | true =>
      have h0 : 0 ≤ freeN L p q f := by
        unfold freeB at hb; unfold freeN; rw [if_pos hb]
        have h9 := (rightK_iff _).1 hb; exact h9.2.2.1
      rw [if_pos rfl]; exact decide_eq_true h0

set_option maxHeartbeats 8000000 in
set_option maxRecDepth 20000 in
theorem plays_walk (r : Int) (s : Option Addr) (len cap : Nat) (M : List En) (k : Ky) (w : World) (hL : IsE w.heap.size w s len M) :
    Calls Try.prog 3 #[.int .i64 r, .slice s len cap, keyV k] w fun e w' => e = .returned (.bool true) ∧ Below w.heap.size w w' := by
  have K0 := bk_new w #[.int .i64 k.1, .int .i64 k.2.1, .int .i64 k.2.2] 24
  have B0 := below_box w (.cells #[.int .i64 k.1, .int .i64 k.2.1, .int .i64 k.2.2] 24)
  by_cases hl1 : 200 < len
  · have q1 : decide (200 < (len : Int)) = true := by simp; omega
    clear hL
    go_enter Try.func3, Try.ntmps3
    go_wp2_with fail
    refine (awake_calls _).mono ?_
    rintro e w1 ⟨rfl, b1⟩
    go_wp2_with fail
    refine (awake_calls _).mono ?_
    rintro e w2 ⟨rfl, b2⟩
    go_wp2
    go_ret
    exact ⟨rfl, (B0.trans (b1.mono B0.size)).trans (b2.mono (B0.trans (b1.mono B0.size)).size)⟩
  · have q1 : decide (200 < (len : Int)) = false := by simp; omega
    go_enter Try.func3, Try.ntmps3
    go_wp2_with fail
    refine (awake_calls _).mono ?_
    rintro x w1 ⟨rfl, b1⟩
    have K1 := K0.below b1 K0.lt
    have B1 := B0.trans (b1.mono B0.size)
    have hw1 : w.heap.size < w1.heap.size := K1.lt
    go_wp2_with fail
    refine (new_calls r _).mono ?_
    rintro x w2 ⟨rfl, T2, b2⟩
    have K2 := K1.below b2 K1.lt
    have B2 := B1.trans (b2.mono B1.size)
    go_wp2_with fail
    refine (rnew_calls r _).mono ?_
    rintro x w3 ⟨rfl, T3, b3⟩
    have J3 : PI w1.heap.size w2.heap.size k (roomN r) w w3 [] [] := ⟨T2.below b3 T2.lt, T3, K2.below b3 K2.lt, B2.trans (b3.mono B2.size), hw1, T2.lt⟩
    have hR64 := roomN_le r
    have hl200 : len ≤ 200 := by omega
    clear K0 B0 b1 K1 B1 b2 K2 B2 b3 T2 T3 hw1 hl1
    generalize w1.heap.size = t at *
    generalize w2.heap.size = q at *
    generalize roomN r = R at *
    go_wp2
    go_loopw [37] (fun iv wr => ∃ (i : Nat) (L : List En), i ≤ len ∧ iv = .int .i64 i ∧ PI t q k R w wr L L) (fun iv _ => len - (intOf iv).toNat)
    case atStart => exact ⟨0, [], Nat.zero_le _, rfl, J3⟩
    case round =>
      obtain ⟨i, L, hi, rfl, J4⟩ := hrel
      clear J3
      have HO : Hid (Ok L R) := J4.tab.ok
      by_cases hlt : i < len
      · obtain ⟨g, off, x, rfl, hg, hx, hc⟩ := hL.at hlt
        obtain ⟨c0, c1, c2, c3⟩ := hc _ J4.bel
        have HJ : Hid (PI t q k R w wr L L) := J4
        have bbp : (putE L R x.1 != putE L R x.1) = false := by simp
        have bb : (getB L x.1 != getB L x.1) = false := by simp
        have nn : (getN L x.1 != getN L x.1) = false := by simp
        clear hx J4
        by_cases hneg : 0 ≤ x.2
        · have dn : decide (0 ≤ x.2) = true := decide_eq_true hneg
          go_wp2
          refine wp_region_held_drew (S := (fun w' => w'.cell? ⟨g, off + i * 4, none⟩ = some (.int .i64 x.1.1) ∧ w'.cell? ⟨g, off + i * 4 + 1, none⟩ = some (.int .i64 x.1.2.1) ∧ w'.cell? ⟨g, off + i * 4 + 1 + 1, none⟩ = some (.int .i64 x.1.2.2) ∧ w'.cell? ⟨g, off + i * 4 + 1 + 1 + 1, none⟩ = some (.int .i64 x.2))) (by kernel_rfl) ⟨c0, c1, c2, c3⟩ (fun hHeld => ?_)
          refine wpAnyH_take (i := 0) (oi := ({ dst := some 46, op := Op.move (Operand.tmp 7), type := 26, pos := _, after := #[], guard := none } : Oper)) (v := ?_) rfl (by kernel_rfl) (by kernel_rfl) (by kernel_rfl) (fun _ _ _ h => h) (Or.inl ⟨by rfl, ?_⟩) hHeld ?_
          rotate_left
          · (intro w hS; go_simp; try with_reducible rfl)
          try simp only [Act.put, List.setIfInBounds_toArray, List.set_cons_zero, List.set_cons_succ]
          refine wpAnyH_take (i := 1) (oi := ({ dst := some 47, op := Op.move (Operand.tmp 1), type := 22, pos := _, after := #[], guard := none } : Oper)) (v := ?_) rfl (by kernel_rfl) (by kernel_rfl) (by kernel_rfl) (fun _ _ _ h => h) (Or.inl ⟨by rfl, ?_⟩) hHeld ?_
          rotate_left
          · (intro w hS; go_simp; try with_reducible rfl)
          try simp only [Act.put, List.setIfInBounds_toArray, List.set_cons_zero, List.set_cons_succ]
          refine wpAnyH_take (i := 2) (oi := ({ dst := some 48, op := Op.move (Operand.tmp 9), type := 3, pos := _, after := #[], guard := none } : Oper)) (v := ?_) rfl (by kernel_rfl) (by kernel_rfl) (by kernel_rfl) (fun _ _ _ h => h) (Or.inl ⟨by rfl, ?_⟩) hHeld ?_
          rotate_left
          · (intro w hS; go_simp; try with_reducible rfl)
          try simp only [Act.put, List.setIfInBounds_toArray, List.set_cons_zero, List.set_cons_succ]
          refine wpAnyH_take (i := 3) (oi := ({ dst := some 49, op := Op.indexAddr 22 (Operand.tmp 47) (Operand.tmp 48), type := 0, pos := _, after := #[{ on := 1, ground := Ground.data }, { on := 2, ground := Ground.data }], guard := none } : Oper)) (v := ?_) rfl (by kernel_rfl) (by kernel_rfl) (by kernel_rfl) (fun _ _ _ h => h) (Or.inl ⟨by rfl, ?_⟩) hHeld ?_
          rotate_left
          · (intro w hS; go_simp; try with_reducible rfl)
          try simp only [Act.put, List.setIfInBounds_toArray, List.set_cons_zero, List.set_cons_succ]
          refine wpAnyH_take (i := 4) (oi := ({ dst := some 50, op := Op.fieldAddr 31 (Operand.tmp 49) 0, type := 0, pos := _, after := #[{ on := 3, ground := Ground.data }], guard := none } : Oper)) (v := ?_) rfl (by kernel_rfl) (by kernel_rfl) (by kernel_rfl) (fun _ _ _ h => h) (Or.inl ⟨by rfl, ?_⟩) hHeld ?_
          rotate_left
          · (intro w hS; go_simp; try with_reducible rfl)
          try simp only [Act.put, List.setIfInBounds_toArray, List.set_cons_zero, List.set_cons_succ]
          refine wpAnyH_take (i := 5) (oi := ({ dst := some 51, op := Op.load 24 (Operand.tmp 50), type := 24, pos := _, after := #[{ on := 4, ground := Ground.data }], guard := none } : Oper)) (v := ?_) rfl (by kernel_rfl) (by kernel_rfl) (by kernel_rfl) (fun _ _ _ h => h) (Or.inl ⟨by rfl, ?_⟩) hHeld ?_
          rotate_left
          · (intro w hS; go_simp; try with_reducible rfl)
          try simp only [Act.put, List.setIfInBounds_toArray, List.set_cons_zero, List.set_cons_succ]
          refine wpAnyH_take (i := 6) (oi := ({ dst := some 52, op := Op.move (Operand.tmp 1), type := 22, pos := _, after := #[], guard := none } : Oper)) (v := ?_) rfl (by kernel_rfl) (by kernel_rfl) (by kernel_rfl) (fun _ _ _ h => h) (Or.inl ⟨by rfl, ?_⟩) hHeld ?_
          rotate_left
          · (intro w hS; go_simp; try with_reducible rfl)
          try simp only [Act.put, List.setIfInBounds_toArray, List.set_cons_zero, List.set_cons_succ]
          refine wpAnyH_take (i := 7) (oi := ({ dst := some 53, op := Op.move (Operand.tmp 9), type := 3, pos := _, after := #[], guard := none } : Oper)) (v := ?_) rfl (by kernel_rfl) (by kernel_rfl) (by kernel_rfl) (fun _ _ _ h => h) (Or.inl ⟨by rfl, ?_⟩) hHeld ?_
          rotate_left
          · (intro w hS; go_simp; try with_reducible rfl)
          try simp only [Act.put, List.setIfInBounds_toArray, List.set_cons_zero, List.set_cons_succ]
          refine wpAnyH_take (i := 8) (oi := ({ dst := some 54, op := Op.indexAddr 22 (Operand.tmp 52) (Operand.tmp 53), type := 0, pos := _, after := #[{ on := 6, ground := Ground.data }, { on := 7, ground := Ground.data }], guard := none } : Oper)) (v := ?_) rfl (by kernel_rfl) (by kernel_rfl) (by kernel_rfl) (fun _ _ _ h => h) (Or.inl ⟨by rfl, ?_⟩) hHeld ?_
          rotate_left
          · (intro w hS; go_simp; try with_reducible rfl)
          try simp only [Act.put, List.setIfInBounds_toArray, List.set_cons_zero, List.set_cons_succ]
          refine wpAnyH_take (i := 9) (oi := ({ dst := some 55, op := Op.fieldAddr 31 (Operand.tmp 54) 1, type := 0, pos := _, after := #[{ on := 8, ground := Ground.data }], guard := none } : Oper)) (v := ?_) rfl (by kernel_rfl) (by kernel_rfl) (by kernel_rfl) (fun _ _ _ h => h) (Or.inl ⟨by rfl, ?_⟩) hHeld ?_
          rotate_left
          · (intro w hS; go_simp; try with_reducible rfl)
          try simp only [Act.put, List.setIfInBounds_toArray, List.set_cons_zero, List.set_cons_succ]
          refine wpAnyH_take (i := 10) (oi := ({ dst := some 56, op := Op.load 3 (Operand.tmp 55), type := 3, pos := _, after := #[{ on := 9, ground := Ground.data }], guard := none } : Oper)) (v := ?_) rfl (by kernel_rfl) (by kernel_rfl) (by kernel_rfl) (fun _ _ _ h => h) (Or.inl ⟨by rfl, ?_⟩) hHeld ?_
          rotate_left
          · (intro w hS; go_simp; try with_reducible rfl)
          try simp only [Act.put, List.setIfInBounds_toArray, List.set_cons_zero, List.set_cons_succ]
          refine wpAnyH_take (i := 12) (oi := ({ dst := some 58, op := Op.move (Operand.tmp 8), type := 28, pos := _, after := #[], guard := none } : Oper)) (v := ?_) rfl (by kernel_rfl) (by kernel_rfl) (by kernel_rfl) (fun _ _ _ h => h) (Or.inl ⟨by rfl, ?_⟩) hHeld ?_
          rotate_left
          · (intro w hS; go_simp; try with_reducible rfl)
          try simp only [Act.put, List.setIfInBounds_toArray, List.set_cons_zero, List.set_cons_succ]
          refine wpAnyH_take (i := 13) (oi := ({ dst := some 59, op := Op.move (Operand.tmp 1), type := 22, pos := _, after := #[], guard := none } : Oper)) (v := ?_) rfl (by kernel_rfl) (by kernel_rfl) (by kernel_rfl) (fun _ _ _ h => h) (Or.inl ⟨by rfl, ?_⟩) hHeld ?_
          rotate_left
          · (intro w hS; go_simp; try with_reducible rfl)
          try simp only [Act.put, List.setIfInBounds_toArray, List.set_cons_zero, List.set_cons_succ]
          refine wpAnyH_take (i := 14) (oi := ({ dst := some 60, op := Op.move (Operand.tmp 9), type := 3, pos := _, after := #[], guard := none } : Oper)) (v := ?_) rfl (by kernel_rfl) (by kernel_rfl) (by kernel_rfl) (fun _ _ _ h => h) (Or.inl ⟨by rfl, ?_⟩) hHeld ?_
          rotate_left
          · (intro w hS; go_simp; try with_reducible rfl)
          try simp only [Act.put, List.setIfInBounds_toArray, List.set_cons_zero, List.set_cons_succ]
          refine wpAnyH_take (i := 15) (oi := ({ dst := some 61, op := Op.indexAddr 22 (Operand.tmp 59) (Operand.tmp 60), type := 0, pos := _, after := #[{ on := 13, ground := Ground.data }, { on := 14, ground := Ground.data }], guard := none } : Oper)) (v := ?_) rfl (by kernel_rfl) (by kernel_rfl) (by kernel_rfl) (fun _ _ _ h => h) (Or.inl ⟨by rfl, ?_⟩) hHeld ?_
          rotate_left
          · (intro w hS; go_simp; try with_reducible rfl)
          try simp only [Act.put, List.setIfInBounds_toArray, List.set_cons_zero, List.set_cons_succ]
          refine wpAnyH_take (i := 16) (oi := ({ dst := some 62, op := Op.fieldAddr 31 (Operand.tmp 61) 0, type := 0, pos := _, after := #[{ on := 15, ground := Ground.data }], guard := none } : Oper)) (v := ?_) rfl (by kernel_rfl) (by kernel_rfl) (by kernel_rfl) (fun _ _ _ h => h) (Or.inl ⟨by rfl, ?_⟩) hHeld ?_
          rotate_left
          · (intro w hS; go_simp; try with_reducible rfl)
          try simp only [Act.put, List.setIfInBounds_toArray, List.set_cons_zero, List.set_cons_succ]
          refine wpAnyH_take (i := 17) (oi := ({ dst := some 63, op := Op.load 24 (Operand.tmp 62), type := 24, pos := _, after := #[{ on := 16, ground := Ground.data }], guard := none } : Oper)) (v := ?_) rfl (by kernel_rfl) (by kernel_rfl) (by kernel_rfl) (fun _ _ _ h => h) (Or.inl ⟨by rfl, ?_⟩) hHeld ?_
          rotate_left
          · (intro w hS; go_simp; try with_reducible rfl)
          try simp only [Act.put, List.setIfInBounds_toArray, List.set_cons_zero, List.set_cons_succ]
          refine wpAnyH_take (i := 18) (oi := ({ dst := some 64, op := Op.move (Operand.tmp 1), type := 22, pos := _, after := #[], guard := none } : Oper)) (v := ?_) rfl (by kernel_rfl) (by kernel_rfl) (by kernel_rfl) (fun _ _ _ h => h) (Or.inl ⟨by rfl, ?_⟩) hHeld ?_
          rotate_left
          · (intro w hS; go_simp; try with_reducible rfl)
          try simp only [Act.put, List.setIfInBounds_toArray, List.set_cons_zero, List.set_cons_succ]
          refine wpAnyH_take (i := 19) (oi := ({ dst := some 65, op := Op.move (Operand.tmp 9), type := 3, pos := _, after := #[], guard := none } : Oper)) (v := ?_) rfl (by kernel_rfl) (by kernel_rfl) (by kernel_rfl) (fun _ _ _ h => h) (Or.inl ⟨by rfl, ?_⟩) hHeld ?_
          rotate_left
          · (intro w hS; go_simp; try with_reducible rfl)
          try simp only [Act.put, List.setIfInBounds_toArray, List.set_cons_zero, List.set_cons_succ]
          refine wpAnyH_take (i := 20) (oi := ({ dst := some 66, op := Op.indexAddr 22 (Operand.tmp 64) (Operand.tmp 65), type := 0, pos := _, after := #[{ on := 18, ground := Ground.data }, { on := 19, ground := Ground.data }], guard := none } : Oper)) (v := ?_) rfl (by kernel_rfl) (by kernel_rfl) (by kernel_rfl) (fun _ _ _ h => h) (Or.inl ⟨by rfl, ?_⟩) hHeld ?_
          rotate_left
          · (intro w hS; go_simp; try with_reducible rfl)
          try simp only [Act.put, List.setIfInBounds_toArray, List.set_cons_zero, List.set_cons_succ]
          refine wpAnyH_take (i := 21) (oi := ({ dst := some 67, op := Op.fieldAddr 31 (Operand.tmp 66) 1, type := 0, pos := _, after := #[{ on := 20, ground := Ground.data }], guard := none } : Oper)) (v := ?_) rfl (by kernel_rfl) (by kernel_rfl) (by kernel_rfl) (fun _ _ _ h => h) (Or.inl ⟨by rfl, ?_⟩) hHeld ?_
          rotate_left
          · (intro w hS; go_simp; try with_reducible rfl)
          try simp only [Act.put, List.setIfInBounds_toArray, List.set_cons_zero, List.set_cons_succ]
          refine wpAnyH_take (i := 22) (oi := ({ dst := some 68, op := Op.load 3 (Operand.tmp 67), type := 3, pos := _, after := #[{ on := 21, ground := Ground.data }], guard := none } : Oper)) (v := ?_) rfl (by kernel_rfl) (by kernel_rfl) (by kernel_rfl) (fun _ _ _ h => h) (Or.inl ⟨by rfl, ?_⟩) hHeld ?_
          rotate_left
          · (intro w hS; go_simp; try with_reducible rfl)
          try simp only [Act.put, List.setIfInBounds_toArray, List.set_cons_zero, List.set_cons_succ]
          refine wpAnyH_ready (rs := [11]) (by kernel_rfl) (by simp) ?_
          refine AllReadyH.cons (o := ({ dst := some 57, op := Op.call { callee := Callee.value (Operand.func 12), args := #[Operand.tmp 46, Operand.tmp 51, Operand.tmp 56], argTypes := #[26, 24, 3] }, type := 32, pos := _, after := #[{ on := 0, ground := Ground.data }, { on := 5, ground := Ground.data }, { on := 10, ground := Ground.data }], guard := none } : Oper)) rfl (fun K hK => ?_) AllReadyH.nil
          refine step_call (put_calls HJ.out.drew.tab x.1 x.2) (enters_of Try.func12 (by kernel_rfl) rfl) _ _ rfl rfl rfl ?_
          rintro e V5 ⟨rfl, T5, q5⟩
          have J5 := PI.one HJ.out.drew T5 q5
          refine ⟨_, rfl, hK.out _ _ (hc _ J5.bel) (fun hHeld => ?_)⟩
          clear hK K
          try simp only [Act.put, List.setIfInBounds_toArray, List.set_cons_zero, List.set_cons_succ]
          refine wpAnyH_ready (rs := [23]) (by kernel_rfl) (by simp) ?_
          refine AllReadyH.cons (o := ({ dst := some 69, op := Op.call { callee := Callee.value (Operand.func 13), args := #[Operand.tmp 58, Operand.tmp 63, Operand.tmp 68], argTypes := #[28, 24, 3] }, type := 3, pos := _, after := #[{ on := 12, ground := Ground.data }, { on := 17, ground := Ground.data }, { on := 22, ground := Ground.data }, { on := 11, ground := Ground.chain }], guard := none } : Oper)) rfl (fun K hK => ?_) AllReadyH.nil
          refine step_call (rput_calls J5.rf HO.out x.1 x.2) (enters_of Try.func13 (by kernel_rfl) rfl) _ _ rfl rfl rfl ?_
          rintro e V6 ⟨rfl, T6, q6⟩
          have J6 := PI.two J5 T6 q6
          refine ⟨_, rfl, hK.out _ _ (hc _ J6.bel) (fun hHeld => ?_)⟩
          clear hK K
          try simp only [Act.put, List.setIfInBounds_toArray, List.set_cons_zero, List.set_cons_succ]
          refine wpAnyH_take (i := 24) (oi := ({ dst := some 70, op := Op.binOp BinOp.neq 3 (Operand.tmp 57) (Operand.tmp 69) 3, type := 4, pos := _, after := #[{ on := 11, ground := Ground.data }, { on := 23, ground := Ground.data }], guard := none } : Oper)) (v := ?_) rfl (by kernel_rfl) (by kernel_rfl) (by kernel_rfl) (fun _ _ _ h => h) (Or.inl ⟨by rfl, ?_⟩) hHeld ?_
          rotate_left
          · (intro w hS; go_simp; try with_reducible rfl)
          try simp only [Act.put, List.setIfInBounds_toArray, List.set_cons_zero, List.set_cons_succ]
          refine wpAnyH_done (by kernel_rfl) ?_ _
          skip
          clear c0 c1 c2 c3 T5 q5 J5 T6 q6 HJ HO nn bb
          generalize putL L R (x.1, x.2) = L2 at *
          clear hc
          have k0 := J6.key.cell 0 _ rfl
          have k1 := J6.key.cell 1 _ rfl
          have k2 := J6.key.cell 2 _ rfl
          have HO6 : Hid (Ok L2 R) := J6.tab.ok
          have bb2 : (getB L2 k != getB L2 k) = false := by simp
          have nn2 : (getN L2 k != getN L2 k) = false := by simp
          have nn3 : ((L2.length : Int) != (L2.length : Int)) = false := by simp
          have hl2 : L2.length ≤ 1000 := by have := J6.tab.len; omega
          go_wp2_with fail
          refine (get_calls J6.tab k).mono ?_
          rintro e w7 ⟨rfl, b7⟩
          have J7 := J6.below b7 (Nat.le_refl _)
          clear k0 k1 k2 J6 b7
          have k0 := J7.key.cell 0 _ rfl
          have k1 := J7.key.cell 1 _ rfl
          have k2 := J7.key.cell 2 _ rfl
          go_wp2_with fail
          refine (rget_calls J7.rf HO6.out k).mono ?_
          rintro e w8 ⟨rfl, b8⟩
          have J8 := (J7.below b8 (Nat.le_refl _)).drew
          clear k0 k1 k2 J7 b8
          obtain ⟨a, c, h1, h2⟩ := J8.rf.ex
          have q0 := h1.cell 0 _ rfl
          have q0' : w8.cell? ⟨q, 0, none⟩ = some (.slice a L2.length c) := q0
          go_wp2
          refine wp_region_held_drew (S := (fun w' => w'.cell? ⟨q, 0, none⟩ = some (.slice a L2.length c))) (by kernel_rfl) q0 (fun hHeld => ?_)
          refine wpAnyH_take (i := 0) (oi := ({ dst := some 111, op := Op.move (Operand.tmp 14), type := 3, pos := _, after := #[], guard := none } : Oper)) (v := ?_) rfl (by kernel_rfl) (by kernel_rfl) (by kernel_rfl) (fun _ _ _ h => h) (Or.inl ⟨by rfl, ?_⟩) hHeld ?_
          rotate_left
          · (intro w hS; go_simp; try with_reducible rfl)
          try simp only [Act.put, List.setIfInBounds_toArray, List.set_cons_zero, List.set_cons_succ]
          refine wpAnyH_take (i := 1) (oi := ({ dst := some 112, op := Op.move (Operand.tmp 16), type := 3, pos := _, after := #[], guard := none } : Oper)) (v := ?_) rfl (by kernel_rfl) (by kernel_rfl) (by kernel_rfl) (fun _ _ _ h => h) (Or.inl ⟨by rfl, ?_⟩) hHeld ?_
          rotate_left
          · (intro w hS; go_simp; try with_reducible rfl)
          try simp only [Act.put, List.setIfInBounds_toArray, List.set_cons_zero, List.set_cons_succ]
          refine wpAnyH_take (i := 2) (oi := ({ dst := some 113, op := Op.binOp BinOp.neq 3 (Operand.tmp 111) (Operand.tmp 112) 3, type := 4, pos := _, after := #[{ on := 0, ground := Ground.data }, { on := 1, ground := Ground.data }], guard := none } : Oper)) (v := ?_) rfl (by kernel_rfl) (by kernel_rfl) (by kernel_rfl) (fun _ _ _ h => h) (Or.inl ⟨by rfl, ?_⟩) hHeld ?_
          rotate_left
          · (intro w hS; go_simp; try with_reducible rfl)
          try simp only [Act.put, List.setIfInBounds_toArray, List.set_cons_zero, List.set_cons_succ]
          refine wpAnyH_take (i := 3) (oi := ({ dst := some 114, op := Op.move (Operand.tmp 113), type := 4, pos := _, after := #[{ on := 2, ground := Ground.data }], guard := none } : Oper)) (v := ?_) rfl (by kernel_rfl) (by kernel_rfl) (by kernel_rfl) (fun _ _ _ h => h) (Or.inl ⟨by rfl, ?_⟩) hHeld ?_
          rotate_left
          · (intro w hS; go_simp; try with_reducible rfl)
          try simp only [Act.put, List.setIfInBounds_toArray, List.set_cons_zero, List.set_cons_succ]
          refine wpAnyH_take (i := 4) (oi := ({ dst := some 115, op := Op.move (Operand.tmp 15), type := 4, pos := _, after := #[{ on := 3, ground := Ground.guard }], guard := some (3, false) } : Oper)) (v := ?_) rfl (by kernel_rfl) (by kernel_rfl) (by kernel_rfl) (fun _ _ _ h => h) (Or.inl ⟨by rfl, ?_⟩) hHeld ?_
          rotate_left
          · (intro w hS; go_simp; try with_reducible rfl)
          try simp only [Act.put, List.setIfInBounds_toArray, List.set_cons_zero, List.set_cons_succ]
          refine wpAnyH_take (i := 5) (oi := ({ dst := some 116, op := Op.move (Operand.tmp 17), type := 4, pos := _, after := #[{ on := 3, ground := Ground.guard }], guard := some (3, false) } : Oper)) (v := ?_) rfl (by kernel_rfl) (by kernel_rfl) (by kernel_rfl) (fun _ _ _ h => h) (Or.inl ⟨by rfl, ?_⟩) hHeld ?_
          rotate_left
          · (intro w hS; go_simp; try with_reducible rfl)
          try simp only [Act.put, List.setIfInBounds_toArray, List.set_cons_zero, List.set_cons_succ]
          refine wpAnyH_take (i := 6) (oi := ({ dst := some 117, op := Op.binOp BinOp.neq 4 (Operand.tmp 115) (Operand.tmp 116) 4, type := 4, pos := _, after := #[{ on := 4, ground := Ground.data }, { on := 5, ground := Ground.data }, { on := 3, ground := Ground.guard }], guard := some (3, false) } : Oper)) (v := ?_) rfl (by kernel_rfl) (by kernel_rfl) (by kernel_rfl) (fun _ _ _ h => h) (Or.inl ⟨by rfl, ?_⟩) hHeld ?_
          rotate_left
          · (intro w hS; go_simp; try with_reducible rfl)
          try simp only [Act.put, List.setIfInBounds_toArray, List.set_cons_zero, List.set_cons_succ]
          refine wpAnyH_take (i := 7) (oi := ({ dst := some 118, op := Op.pick (Operand.tmp 114) (Operand.const (Value.bool true)) (Operand.tmp 117), type := 4, pos := _, after := #[{ on := 3, ground := Ground.data }, { on := 6, ground := Ground.data }], guard := none } : Oper)) (v := ?_) rfl (by kernel_rfl) (by kernel_rfl) (by kernel_rfl) (fun _ _ _ h => h) (Or.inl ⟨by rfl, ?_⟩) hHeld ?_
          rotate_left
          · (intro w hS; go_simp; try with_reducible rfl)
          try simp only [Act.put, List.setIfInBounds_toArray, List.set_cons_zero, List.set_cons_succ]
          refine wpAnyH_take (i := 8) (oi := ({ dst := some 119, op := Op.move (Operand.tmp 118), type := 4, pos := _, after := #[{ on := 7, ground := Ground.data }, { on := 3, ground := Ground.chain }], guard := none } : Oper)) (v := ?_) rfl (by kernel_rfl) (by kernel_rfl) (by kernel_rfl) (fun _ _ _ h => h) (Or.inl ⟨by rfl, ?_⟩) hHeld ?_
          rotate_left
          · (intro w hS; go_simp; try with_reducible rfl)
          try simp only [Act.put, List.setIfInBounds_toArray, List.set_cons_zero, List.set_cons_succ]
          refine wpAnyH_take (i := 9) (oi := ({ dst := some 120, op := Op.move (Operand.tmp 7), type := 26, pos := _, after := #[{ on := 8, ground := Ground.guard }], guard := some (8, false) } : Oper)) (v := ?_) rfl (by kernel_rfl) (by kernel_rfl) (by kernel_rfl) (fun _ _ _ h => h) (Or.inl ⟨by rfl, ?_⟩) hHeld ?_
          rotate_left
          · (intro w hS; go_simp; try with_reducible rfl)
          try simp only [Act.put, List.setIfInBounds_toArray, List.set_cons_zero, List.set_cons_succ]
          refine wpAnyH_take (i := 11) (oi := ({ dst := some 122, op := Op.move (Operand.tmp 8), type := 28, pos := _, after := #[{ on := 8, ground := Ground.guard }], guard := some (8, false) } : Oper)) (v := ?_) rfl (by kernel_rfl) (by kernel_rfl) (by kernel_rfl) (fun _ _ _ h => h) (Or.inl ⟨by rfl, ?_⟩) hHeld ?_
          rotate_left
          · (intro w hS; go_simp; try with_reducible rfl)
          try simp only [Act.put, List.setIfInBounds_toArray, List.set_cons_zero, List.set_cons_succ]
          refine wpAnyH_take (i := 12) (oi := ({ dst := some 123, op := Op.nilCheck (Operand.tmp 122), type := 0, pos := _, after := #[{ on := 11, ground := Ground.data }, { on := 8, ground := Ground.guard }], guard := some (8, false) } : Oper)) (v := ?_) rfl (by kernel_rfl) (by kernel_rfl) (by kernel_rfl) (fun _ _ _ h => h) (Or.inl ⟨by rfl, ?_⟩) hHeld ?_
          rotate_left
          · (intro w hS; go_simp; try with_reducible rfl)
          try simp only [Act.put, List.setIfInBounds_toArray, List.set_cons_zero, List.set_cons_succ]
          refine wpAnyH_take (i := 13) (oi := ({ dst := some 124, op := Op.fieldAddr 40 (Operand.tmp 123) 0, type := 0, pos := _, after := #[{ on := 12, ground := Ground.data }, { on := 8, ground := Ground.guard }], guard := some (8, false) } : Oper)) (v := ?_) rfl (by kernel_rfl) (by kernel_rfl) (by kernel_rfl) (fun _ _ _ h => h) (Or.inl ⟨by rfl, ?_⟩) hHeld ?_
          rotate_left
          · (intro w hS; go_simp; try with_reducible rfl)
          try simp only [Act.put, List.setIfInBounds_toArray, List.set_cons_zero, List.set_cons_succ]
          refine wpAnyH_take (i := 14) (oi := ({ dst := some 125, op := Op.load 38 (Operand.tmp 124), type := 38, pos := _, after := #[{ on := 13, ground := Ground.data }, { on := 8, ground := Ground.guard }], guard := some (8, false) } : Oper)) (v := ?_) rfl (by kernel_rfl) (by kernel_rfl) (by kernel_rfl) (fun _ _ _ h => h) (Or.inl ⟨by rfl, ?_⟩) hHeld ?_
          rotate_left
          · (intro w hS; go_simp; try with_reducible rfl)
          try simp only [Act.put, List.setIfInBounds_toArray, List.set_cons_zero, List.set_cons_succ]
          refine wpAnyH_take (i := 15) (oi := ({ dst := some 126, op := Op.call { callee := Callee.builtin Builtin.len, args := #[Operand.tmp 125], argTypes := #[38] }, type := 3, pos := _, after := #[{ on := 14, ground := Ground.data }, { on := 8, ground := Ground.guard }], guard := some (8, false) } : Oper)) (v := ?_) rfl (by kernel_rfl) (by kernel_rfl) (by kernel_rfl) (fun _ _ _ h => h) (Or.inl ⟨by rfl, ?_⟩) hHeld ?_
          rotate_left
          · (intro w hS; go_simp; try with_reducible rfl)
          try simp only [Act.put, List.setIfInBounds_toArray, List.set_cons_zero, List.set_cons_succ]
          refine wpAnyH_ready (rs := [10]) (by kernel_rfl) (by simp) ?_
          refine AllReadyH.cons (o := ({ dst := some 121, op := Op.call { callee := Callee.value (Operand.func 18), args := #[Operand.tmp 120], argTypes := #[26] }, type := 3, pos := _, after := #[{ on := 9, ground := Ground.data }, { on := 8, ground := Ground.chain }, { on := 8, ground := Ground.guard }], guard := some (8, false) } : Oper)) rfl (fun K hK => ?_) AllReadyH.nil
          refine step_call (len_calls J8.tab) (enters_of Try.func18 (by kernel_rfl) rfl) _ _ rfl rfl rfl ?_
          rintro e w9 ⟨rfl, e9⟩
          rw [e9]
          clear e9
          refine ⟨_, rfl, hK.out _ _ q0 (fun hHeld => ?_)⟩
          clear hK K
          try simp only [Act.put, List.setIfInBounds_toArray, List.set_cons_zero, List.set_cons_succ]
          refine wpAnyH_take (i := 16) (oi := ({ dst := some 127, op := Op.binOp BinOp.neq 3 (Operand.tmp 121) (Operand.tmp 126) 3, type := 4, pos := _, after := #[{ on := 10, ground := Ground.data }, { on := 15, ground := Ground.data }, { on := 8, ground := Ground.guard }], guard := some (8, false) } : Oper)) (v := ?_) rfl (by kernel_rfl) (by kernel_rfl) (by kernel_rfl) (fun _ _ _ h => h) (Or.inl ⟨by rfl, ?_⟩) hHeld ?_
          rotate_left
          · (intro w hS; go_simp; try with_reducible rfl)
          try simp only [Act.put, List.setIfInBounds_toArray, List.set_cons_zero, List.set_cons_succ]
          refine wpAnyH_take (i := 17) (oi := ({ dst := some 128, op := Op.pick (Operand.tmp 119) (Operand.const (Value.bool true)) (Operand.tmp 127), type := 4, pos := _, after := #[{ on := 8, ground := Ground.data }, { on := 16, ground := Ground.data }], guard := none } : Oper)) (v := ?_) rfl (by kernel_rfl) (by kernel_rfl) (by kernel_rfl) (fun _ _ _ h => h) (Or.inl ⟨by rfl, ?_⟩) hHeld ?_
          rotate_left
          · (intro w hS; go_simp; try with_reducible rfl)
          try simp only [Act.put, List.setIfInBounds_toArray, List.set_cons_zero, List.set_cons_succ]
          refine wpAnyH_take (i := 18) (oi := ({ dst := some 129, op := Op.move (Operand.tmp 128), type := 4, pos := _, after := #[{ on := 17, ground := Ground.data }, { on := 10, ground := Ground.chain }], guard := none } : Oper)) (v := ?_) rfl (by kernel_rfl) (by kernel_rfl) (by kernel_rfl) (fun _ _ _ h => h) (Or.inl ⟨by rfl, ?_⟩) hHeld ?_
          rotate_left
          · (intro w hS; go_simp; try with_reducible rfl)
          try simp only [Act.put, List.setIfInBounds_toArray, List.set_cons_zero, List.set_cons_succ]
          refine wpAnyH_take (i := 19) (oi := ({ dst := some 130, op := Op.move (Operand.tmp 7), type := 26, pos := _, after := #[{ on := 18, ground := Ground.guard }], guard := some (18, false) } : Oper)) (v := ?_) rfl (by kernel_rfl) (by kernel_rfl) (by kernel_rfl) (fun _ _ _ h => h) (Or.inl ⟨by rfl, ?_⟩) hHeld ?_
          rotate_left
          · (intro w hS; go_simp; try with_reducible rfl)
          try simp only [Act.put, List.setIfInBounds_toArray, List.set_cons_zero, List.set_cons_succ]
          refine wpAnyH_take (i := 21) (oi := ({ dst := some 132, op := Op.move (Operand.tmp 8), type := 28, pos := _, after := #[{ on := 18, ground := Ground.guard }], guard := some (18, false) } : Oper)) (v := ?_) rfl (by kernel_rfl) (by kernel_rfl) (by kernel_rfl) (fun _ _ _ h => h) (Or.inl ⟨by rfl, ?_⟩) hHeld ?_
          rotate_left
          · (intro w hS; go_simp; try with_reducible rfl)
          try simp only [Act.put, List.setIfInBounds_toArray, List.set_cons_zero, List.set_cons_succ]
          refine wpAnyH_take (i := 22) (oi := ({ dst := some 133, op := Op.nilCheck (Operand.tmp 132), type := 0, pos := _, after := #[{ on := 21, ground := Ground.data }, { on := 18, ground := Ground.guard }], guard := some (18, false) } : Oper)) (v := ?_) rfl (by kernel_rfl) (by kernel_rfl) (by kernel_rfl) (fun _ _ _ h => h) (Or.inl ⟨by rfl, ?_⟩) hHeld ?_
          rotate_left
          · (intro w hS; go_simp; try with_reducible rfl)
          try simp only [Act.put, List.setIfInBounds_toArray, List.set_cons_zero, List.set_cons_succ]
          refine wpAnyH_take (i := 23) (oi := ({ dst := some 134, op := Op.fieldAddr 40 (Operand.tmp 133) 0, type := 0, pos := _, after := #[{ on := 22, ground := Ground.data }, { on := 18, ground := Ground.guard }], guard := some (18, false) } : Oper)) (v := ?_) rfl (by kernel_rfl) (by kernel_rfl) (by kernel_rfl) (fun _ _ _ h => h) (Or.inl ⟨by rfl, ?_⟩) hHeld ?_
          rotate_left
          · (intro w hS; go_simp; try with_reducible rfl)
          try simp only [Act.put, List.setIfInBounds_toArray, List.set_cons_zero, List.set_cons_succ]
          refine wpAnyH_take (i := 24) (oi := ({ dst := some 135, op := Op.load 38 (Operand.tmp 134), type := 38, pos := _, after := #[{ on := 23, ground := Ground.data }, { on := 18, ground := Ground.guard }], guard := some (18, false) } : Oper)) (v := ?_) rfl (by kernel_rfl) (by kernel_rfl) (by kernel_rfl) (fun _ _ _ h => h) (Or.inl ⟨by rfl, ?_⟩) hHeld ?_
          rotate_left
          · (intro w hS; go_simp; try with_reducible rfl)
          try simp only [Act.put, List.setIfInBounds_toArray, List.set_cons_zero, List.set_cons_succ]
          refine wpAnyH_ready (rs := [20]) (by kernel_rfl) (by simp) ?_
          refine AllReadyH.cons (o := ({ dst := some 131, op := Op.call { callee := Callee.value (Operand.func 20), args := #[Operand.tmp 130], argTypes := #[26] }, type := 38, pos := _, after := #[{ on := 19, ground := Ground.data }, { on := 18, ground := Ground.chain }, { on := 18, ground := Ground.guard }], guard := some (18, false) } : Oper)) rfl (fun K hK => ?_) AllReadyH.nil
          refine step_call (lall_calls J8.tab) (enters_of Try.func20 (by kernel_rfl) rfl) _ _ rfl rfl rfl ?_
          rintro e V9 ⟨a9, c9, rfl, r9, b9⟩
          have J9 := J8.below b9 (Nat.le_refl _)
          have q9 := (h1.below b9 h1.lt).cell 0 _ rfl
          refine ⟨_, rfl, hK.out _ _ q9 (fun hHeld => ?_)⟩
          clear hK K
          try simp only [Act.put, List.setIfInBounds_toArray, List.set_cons_zero, List.set_cons_succ]
          refine wpAnyH_ready (rs := [25]) (by kernel_rfl) (by simp) ?_
          refine AllReadyH.cons (o := ({ dst := some 136, op := Op.call { callee := Callee.value (Operand.func 19), args := #[Operand.tmp 131, Operand.tmp 135], argTypes := #[38, 38] }, type := 4, pos := _, after := #[{ on := 20, ground := Ground.data }, { on := 24, ground := Ground.data }, { on := 20, ground := Ground.chain }, { on := 18, ground := Ground.guard }], guard := some (18, false) } : Oper)) rfl (fun K hK => ?_) AllReadyH.nil
          refine step_call (same_calls a9 a L2.length L2.length c9 c L2 hl2 _ (isE_row r9 rfl) (isE_row (row_below h2 b9 (Nat.le_refl _)) rfl)) (enters_of Try.func19 (by kernel_rfl) rfl) _ _ rfl rfl rfl ?_
          rintro e V10 ⟨rfl, b10⟩
          have J10 := J9.below b10 (Nat.le_refl _)
          refine ⟨_, rfl, hK.out _ _ ((h1.below (b9.trans (b10.mono b9.size)) h1.lt).cell 0 _ rfl) (fun hHeld => ?_)⟩
          clear hK K
          try simp only [Act.put, List.setIfInBounds_toArray, List.set_cons_zero, List.set_cons_succ]
          refine wpAnyH_take (i := 26) (oi := ({ dst := some 137, op := Op.unOp UnOp.not 4 (Operand.tmp 136), type := 4, pos := _, after := #[{ on := 25, ground := Ground.data }, { on := 18, ground := Ground.guard }], guard := some (18, false) } : Oper)) (v := ?_) rfl (by kernel_rfl) (by kernel_rfl) (by kernel_rfl) (fun _ _ _ h => h) (Or.inl ⟨by rfl, ?_⟩) hHeld ?_
          rotate_left
          · (intro w hS; go_simp; try with_reducible rfl)
          try simp only [Act.put, List.setIfInBounds_toArray, List.set_cons_zero, List.set_cons_succ]
          refine wpAnyH_take (i := 27) (oi := ({ dst := some 138, op := Op.pick (Operand.tmp 129) (Operand.const (Value.bool true)) (Operand.tmp 137), type := 4, pos := _, after := #[{ on := 18, ground := Ground.data }, { on := 26, ground := Ground.data }], guard := none } : Oper)) (v := ?_) rfl (by kernel_rfl) (by kernel_rfl) (by kernel_rfl) (fun _ _ _ h => h) (Or.inl ⟨by rfl, ?_⟩) hHeld ?_
          rotate_left
          · (intro w hS; go_simp; try with_reducible rfl)
          try simp only [Act.put, List.setIfInBounds_toArray, List.set_cons_zero, List.set_cons_succ]
          refine wpAnyH_done (by kernel_rfl) ?_ _
          skip
          clear h1 h2 q0 q0' r9 b9 J9 b10 q9 J8
          go_wp2
          go_roundw
          case rel => exact ⟨i + 1, L2, by omega, by go_num, J10⟩
          case measure => simp [intOf]; omega
        · have dn : decide (0 ≤ x.2) = false := decide_eq_false hneg
          go_wp2_with fail
          refine (drop_calls HJ.out.tab x.1).mono ?_
          rintro e V5 ⟨rfl, T5, q5⟩
          have J5 := PI.one HJ.out T5 q5
          clear c0 c1 c2 c3 T5 q5
          obtain ⟨c0, c1, c2, c3⟩ := hc _ J5.bel
          go_wp2_with fail
          refine (rdrop_calls J5.rf HO.out x.1).mono ?_
          rintro e V6 ⟨rfl, T6, q6⟩
          have J6 := PI.two J5 T6 q6
          clear c0 c1 c2 c3 J5 T6 q6 HJ HO hc
          generalize del L x.1 = L2 at *
          have k0 := J6.key.cell 0 _ rfl
          have k1 := J6.key.cell 1 _ rfl
          have k2 := J6.key.cell 2 _ rfl
          have HO6 : Hid (Ok L2 R) := J6.tab.ok
          have bb2 : (getB L2 k != getB L2 k) = false := by simp
          have nn2 : (getN L2 k != getN L2 k) = false := by simp
          have nn3 : ((L2.length : Int) != (L2.length : Int)) = false := by simp
          have hl2 : L2.length ≤ 1000 := by have := J6.tab.len; omega
          go_wp2_with fail
          refine (get_calls J6.tab k).mono ?_
          rintro e w7 ⟨rfl, b7⟩
          have J7 := J6.below b7 (Nat.le_refl _)
          clear k0 k1 k2 J6 b7
          have k0 := J7.key.cell 0 _ rfl
          have k1 := J7.key.cell 1 _ rfl
          have k2 := J7.key.cell 2 _ rfl
          go_wp2_with fail
          refine (rget_calls J7.rf HO6.out k).mono ?_
          rintro e w8 ⟨rfl, b8⟩
          have J8 := (J7.below b8 (Nat.le_refl _)).drew
          clear k0 k1 k2 J7 b8
          obtain ⟨a, c, h1, h2⟩ := J8.rf.ex
          have q0 := h1.cell 0 _ rfl
          have q0' : w8.cell? ⟨q, 0, none⟩ = some (.slice a L2.length c) := q0
          go_wp2
          refine wp_region_held_drew (S := (fun w' => w'.cell? ⟨q, 0, none⟩ = some (.slice a L2.length c))) (by kernel_rfl) q0 (fun hHeld => ?_)
          refine wpAnyH_take (i := 0) (oi := ({ dst := some 111, op := Op.move (Operand.tmp 14), type := 3, pos := _, after := #[], guard := none } : Oper)) (v := ?_) rfl (by kernel_rfl) (by kernel_rfl) (by kernel_rfl) (fun _ _ _ h => h) (Or.inl ⟨by rfl, ?_⟩) hHeld ?_
          rotate_left
          · (intro w hS; go_simp; try with_reducible rfl)
          try simp only [Act.put, List.setIfInBounds_toArray, List.set_cons_zero, List.set_cons_succ]
          refine wpAnyH_take (i := 1) (oi := ({ dst := some 112, op := Op.move (Operand.tmp 16), type := 3, pos := _, after := #[], guard := none } : Oper)) (v := ?_) rfl (by kernel_rfl) (by kernel_rfl) (by kernel_rfl) (fun _ _ _ h => h) (Or.inl ⟨by rfl, ?_⟩) hHeld ?_
          rotate_left
          · (intro w hS; go_simp; try with_reducible rfl)
          try simp only [Act.put, List.setIfInBounds_toArray, List.set_cons_zero, List.set_cons_succ]
          refine wpAnyH_take (i := 2) (oi := ({ dst := some 113, op := Op.binOp BinOp.neq 3 (Operand.tmp 111) (Operand.tmp 112) 3, type := 4, pos := _, after := #[{ on := 0, ground := Ground.data }, { on := 1, ground := Ground.data }], guard := none } : Oper)) (v := ?_) rfl (by kernel_rfl) (by kernel_rfl) (by kernel_rfl) (fun _ _ _ h => h) (Or.inl ⟨by rfl, ?_⟩) hHeld ?_
          rotate_left
          · (intro w hS; go_simp; try with_reducible rfl)
          try simp only [Act.put, List.setIfInBounds_toArray, List.set_cons_zero, List.set_cons_succ]
          refine wpAnyH_take (i := 3) (oi := ({ dst := some 114, op := Op.move (Operand.tmp 113), type := 4, pos := _, after := #[{ on := 2, ground := Ground.data }], guard := none } : Oper)) (v := ?_) rfl (by kernel_rfl) (by kernel_rfl) (by kernel_rfl) (fun _ _ _ h => h) (Or.inl ⟨by rfl, ?_⟩) hHeld ?_
          rotate_left
          · (intro w hS; go_simp; try with_reducible rfl)
          try simp only [Act.put, List.setIfInBounds_toArray, List.set_cons_zero, List.set_cons_succ]
          refine wpAnyH_take (i := 4) (oi := ({ dst := some 115, op := Op.move (Operand.tmp 15), type := 4, pos := _, after := #[{ on := 3, ground := Ground.guard }], guard := some (3, false) } : Oper)) (v := ?_) rfl (by kernel_rfl) (by kernel_rfl) (by kernel_rfl) (fun _ _ _ h => h) (Or.inl ⟨by rfl, ?_⟩) hHeld ?_
          rotate_left
          · (intro w hS; go_simp; try with_reducible rfl)
          try simp only [Act.put, List.setIfInBounds_toArray, List.set_cons_zero, List.set_cons_succ]
          refine wpAnyH_take (i := 5) (oi := ({ dst := some 116, op := Op.move (Operand.tmp 17), type := 4, pos := _, after := #[{ on := 3, ground := Ground.guard }], guard := some (3, false) } : Oper)) (v := ?_) rfl (by kernel_rfl) (by kernel_rfl) (by kernel_rfl) (fun _ _ _ h => h) (Or.inl ⟨by rfl, ?_⟩) hHeld ?_
          rotate_left
          · (intro w hS; go_simp; try with_reducible rfl)
          try simp only [Act.put, List.setIfInBounds_toArray, List.set_cons_zero, List.set_cons_succ]
          refine wpAnyH_take (i := 6) (oi := ({ dst := some 117, op := Op.binOp BinOp.neq 4 (Operand.tmp 115) (Operand.tmp 116) 4, type := 4, pos := _, after := #[{ on := 4, ground := Ground.data }, { on := 5, ground := Ground.data }, { on := 3, ground := Ground.guard }], guard := some (3, false) } : Oper)) (v := ?_) rfl (by kernel_rfl) (by kernel_rfl) (by kernel_rfl) (fun _ _ _ h => h) (Or.inl ⟨by rfl, ?_⟩) hHeld ?_
          rotate_left
          · (intro w hS; go_simp; try with_reducible rfl)
          try simp only [Act.put, List.setIfInBounds_toArray, List.set_cons_zero, List.set_cons_succ]
          refine wpAnyH_take (i := 7) (oi := ({ dst := some 118, op := Op.pick (Operand.tmp 114) (Operand.const (Value.bool true)) (Operand.tmp 117), type := 4, pos := _, after := #[{ on := 3, ground := Ground.data }, { on := 6, ground := Ground.data }], guard := none } : Oper)) (v := ?_) rfl (by kernel_rfl) (by kernel_rfl) (by kernel_rfl) (fun _ _ _ h => h) (Or.inl ⟨by rfl, ?_⟩) hHeld ?_
          rotate_left
          · (intro w hS; go_simp; try with_reducible rfl)
          try simp only [Act.put, List.setIfInBounds_toArray, List.set_cons_zero, List.set_cons_succ]
          refine wpAnyH_take (i := 8) (oi := ({ dst := some 119, op := Op.move (Operand.tmp 118), type := 4, pos := _, after := #[{ on := 7, ground := Ground.data }, { on := 3, ground := Ground.chain }], guard := none } : Oper)) (v := ?_) rfl (by kernel_rfl) (by kernel_rfl) (by kernel_rfl) (fun _ _ _ h => h) (Or.inl ⟨by rfl, ?_⟩) hHeld ?_
          rotate_left
          · (intro w hS; go_simp; try with_reducible rfl)
          try simp only [Act.put, List.setIfInBounds_toArray, List.set_cons_zero, List.set_cons_succ]
          refine wpAnyH_take (i := 9) (oi := ({ dst := some 120, op := Op.move (Operand.tmp 7), type := 26, pos := _, after := #[{ on := 8, ground := Ground.guard }], guard := some (8, false) } : Oper)) (v := ?_) rfl (by kernel_rfl) (by kernel_rfl) (by kernel_rfl) (fun _ _ _ h => h) (Or.inl ⟨by rfl, ?_⟩) hHeld ?_
          rotate_left
          · (intro w hS; go_simp; try with_reducible rfl)
          try simp only [Act.put, List.setIfInBounds_toArray, List.set_cons_zero, List.set_cons_succ]
          refine wpAnyH_take (i := 11) (oi := ({ dst := some 122, op := Op.move (Operand.tmp 8), type := 28, pos := _, after := #[{ on := 8, ground := Ground.guard }], guard := some (8, false) } : Oper)) (v := ?_) rfl (by kernel_rfl) (by kernel_rfl) (by kernel_rfl) (fun _ _ _ h => h) (Or.inl ⟨by rfl, ?_⟩) hHeld ?_
          rotate_left
          · (intro w hS; go_simp; try with_reducible rfl)
          try simp only [Act.put, List.setIfInBounds_toArray, List.set_cons_zero, List.set_cons_succ]
          refine wpAnyH_take (i := 12) (oi := ({ dst := some 123, op := Op.nilCheck (Operand.tmp 122), type := 0, pos := _, after := #[{ on := 11, ground := Ground.data }, { on := 8, ground := Ground.guard }], guard := some (8, false) } : Oper)) (v := ?_) rfl (by kernel_rfl) (by kernel_rfl) (by kernel_rfl) (fun _ _ _ h => h) (Or.inl ⟨by rfl, ?_⟩) hHeld ?_
          rotate_left
          · (intro w hS; go_simp; try with_reducible rfl)
          try simp only [Act.put, List.setIfInBounds_toArray, List.set_cons_zero, List.set_cons_succ]
          refine wpAnyH_take (i := 13) (oi := ({ dst := some 124, op := Op.fieldAddr 40 (Operand.tmp 123) 0, type := 0, pos := _, after := #[{ on := 12, ground := Ground.data }, { on := 8, ground := Ground.guard }], guard := some (8, false) } : Oper)) (v := ?_) rfl (by kernel_rfl) (by kernel_rfl) (by kernel_rfl) (fun _ _ _ h => h) (Or.inl ⟨by rfl, ?_⟩) hHeld ?_
          rotate_left
          · (intro w hS; go_simp; try with_reducible rfl)
          try simp only [Act.put, List.setIfInBounds_toArray, List.set_cons_zero, List.set_cons_succ]
          refine wpAnyH_take (i := 14) (oi := ({ dst := some 125, op := Op.load 38 (Operand.tmp 124), type := 38, pos := _, after := #[{ on := 13, ground := Ground.data }, { on := 8, ground := Ground.guard }], guard := some (8, false) } : Oper)) (v := ?_) rfl (by kernel_rfl) (by kernel_rfl) (by kernel_rfl) (fun _ _ _ h => h) (Or.inl ⟨by rfl, ?_⟩) hHeld ?_
          rotate_left
          · (intro w hS; go_simp; try with_reducible rfl)
          try simp only [Act.put, List.setIfInBounds_toArray, List.set_cons_zero, List.set_cons_succ]
          refine wpAnyH_take (i := 15) (oi := ({ dst := some 126, op := Op.call { callee := Callee.builtin Builtin.len, args := #[Operand.tmp 125], argTypes := #[38] }, type := 3, pos := _, after := #[{ on := 14, ground := Ground.data }, { on := 8, ground := Ground.guard }], guard := some (8, false) } : Oper)) (v := ?_) rfl (by kernel_rfl) (by kernel_rfl) (by kernel_rfl) (fun _ _ _ h => h) (Or.inl ⟨by rfl, ?_⟩) hHeld ?_
          rotate_left
          · (intro w hS; go_simp; try with_reducible rfl)
          try simp only [Act.put, List.setIfInBounds_toArray, List.set_cons_zero, List.set_cons_succ]
          refine wpAnyH_ready (rs := [10]) (by kernel_rfl) (by simp) ?_
          refine AllReadyH.cons (o := ({ dst := some 121, op := Op.call { callee := Callee.value (Operand.func 18), args := #[Operand.tmp 120], argTypes := #[26] }, type := 3, pos := _, after := #[{ on := 9, ground := Ground.data }, { on := 8, ground := Ground.chain }, { on := 8, ground := Ground.guard }], guard := some (8, false) } : Oper)) rfl (fun K hK => ?_) AllReadyH.nil
          refine step_call (len_calls J8.tab) (enters_of Try.func18 (by kernel_rfl) rfl) _ _ rfl rfl rfl ?_
          rintro e w9 ⟨rfl, e9⟩
          rw [e9]
          clear e9
          refine ⟨_, rfl, hK.out _ _ q0 (fun hHeld => ?_)⟩
          clear hK K
          try simp only [Act.put, List.setIfInBounds_toArray, List.set_cons_zero, List.set_cons_succ]
          refine wpAnyH_take (i := 16) (oi := ({ dst := some 127, op := Op.binOp BinOp.neq 3 (Operand.tmp 121) (Operand.tmp 126) 3, type := 4, pos := _, after := #[{ on := 10, ground := Ground.data }, { on := 15, ground := Ground.data }, { on := 8, ground := Ground.guard }], guard := some (8, false) } : Oper)) (v := ?_) rfl (by kernel_rfl) (by kernel_rfl) (by kernel_rfl) (fun _ _ _ h => h) (Or.inl ⟨by rfl, ?_⟩) hHeld ?_
          rotate_left
          · (intro w hS; go_simp; try with_reducible rfl)
          try simp only [Act.put, List.setIfInBounds_toArray, List.set_cons_zero, List.set_cons_succ]
          refine wpAnyH_take (i := 17) (oi := ({ dst := some 128, op := Op.pick (Operand.tmp 119) (Operand.const (Value.bool true)) (Operand.tmp 127), type := 4, pos := _, after := #[{ on := 8, ground := Ground.data }, { on := 16, ground := Ground.data }], guard := none } : Oper)) (v := ?_) rfl (by kernel_rfl) (by kernel_rfl) (by kernel_rfl) (fun _ _ _ h => h) (Or.inl ⟨by rfl, ?_⟩) hHeld ?_
          rotate_left
          · (intro w hS; go_simp; try with_reducible rfl)
          try simp only [Act.put, List.setIfInBounds_toArray, List.set_cons_zero, List.set_cons_succ]
          refine wpAnyH_take (i := 18) (oi := ({ dst := some 129, op := Op.move (Operand.tmp 128), type := 4, pos := _, after := #[{ on := 17, ground := Ground.data }, { on := 10, ground := Ground.chain }], guard := none } : Oper)) (v := ?_) rfl (by kernel_rfl) (by kernel_rfl) (by kernel_rfl) (fun _ _ _ h => h) (Or.inl ⟨by rfl, ?_⟩) hHeld ?_
          rotate_left
          · (intro w hS; go_simp; try with_reducible rfl)
          try simp only [Act.put, List.setIfInBounds_toArray, List.set_cons_zero, List.set_cons_succ]
          refine wpAnyH_take (i := 19) (oi := ({ dst := some 130, op := Op.move (Operand.tmp 7), type := 26, pos := _, after := #[{ on := 18, ground := Ground.guard }], guard := some (18, false) } : Oper)) (v := ?_) rfl (by kernel_rfl) (by kernel_rfl) (by kernel_rfl) (fun _ _ _ h => h) (Or.inl ⟨by rfl, ?_⟩) hHeld ?_
          rotate_left
          · (intro w hS; go_simp; try with_reducible rfl)
          try simp only [Act.put, List.setIfInBounds_toArray, List.set_cons_zero, List.set_cons_succ]
          refine wpAnyH_take (i := 21) (oi := ({ dst := some 132, op := Op.move (Operand.tmp 8), type := 28, pos := _, after := #[{ on := 18, ground := Ground.guard }], guard := some (18, false) } : Oper)) (v := ?_) rfl (by kernel_rfl) (by kernel_rfl) (by kernel_rfl) (fun _ _ _ h => h) (Or.inl ⟨by rfl, ?_⟩) hHeld ?_
          rotate_left
          · (intro w hS; go_simp; try with_reducible rfl)
          try simp only [Act.put, List.setIfInBounds_toArray, List.set_cons_zero, List.set_cons_succ]
          refine wpAnyH_take (i := 22) (oi := ({ dst := some 133, op := Op.nilCheck (Operand.tmp 132), type := 0, pos := _, after := #[{ on := 21, ground := Ground.data }, { on := 18, ground := Ground.guard }], guard := some (18, false) } : Oper)) (v := ?_) rfl (by kernel_rfl) (by kernel_rfl) (by kernel_rfl) (fun _ _ _ h => h) (Or.inl ⟨by rfl, ?_⟩) hHeld ?_
          rotate_left
          · (intro w hS; go_simp; try with_reducible rfl)
          try simp only [Act.put, List.setIfInBounds_toArray, List.set_cons_zero, List.set_cons_succ]
          refine wpAnyH_take (i := 23) (oi := ({ dst := some 134, op := Op.fieldAddr 40 (Operand.tmp 133) 0, type := 0, pos := _, after := #[{ on := 22, ground := Ground.data }, { on := 18, ground := Ground.guard }], guard := some (18, false) } : Oper)) (v := ?_) rfl (by kernel_rfl) (by kernel_rfl) (by kernel_rfl) (fun _ _ _ h => h) (Or.inl ⟨by rfl, ?_⟩) hHeld ?_
          rotate_left
          · (intro w hS; go_simp; try with_reducible rfl)
          try simp only [Act.put, List.setIfInBounds_toArray, List.set_cons_zero, List.set_cons_succ]
          refine wpAnyH_take (i := 24) (oi := ({ dst := some 135, op := Op.load 38 (Operand.tmp 134), type := 38, pos := _, after := #[{ on := 23, ground := Ground.data }, { on := 18, ground := Ground.guard }], guard := some (18, false) } : Oper)) (v := ?_) rfl (by kernel_rfl) (by kernel_rfl) (by kernel_rfl) (fun _ _ _ h => h) (Or.inl ⟨by rfl, ?_⟩) hHeld ?_
          rotate_left
          · (intro w hS; go_simp; try with_reducible rfl)
          try simp only [Act.put, List.setIfInBounds_toArray, List.set_cons_zero, List.set_cons_succ]
          refine wpAnyH_ready (rs := [20]) (by kernel_rfl) (by simp) ?_
          refine AllReadyH.cons (o := ({ dst := some 131, op := Op.call { callee := Callee.value (Operand.func 20), args := #[Operand.tmp 130], argTypes := #[26] }, type := 38, pos := _, after := #[{ on := 19, ground := Ground.data }, { on := 18, ground := Ground.chain }, { on := 18, ground := Ground.guard }], guard := some (18, false) } : Oper)) rfl (fun K hK => ?_) AllReadyH.nil
          refine step_call (lall_calls J8.tab) (enters_of Try.func20 (by kernel_rfl) rfl) _ _ rfl rfl rfl ?_
          rintro e V9 ⟨a9, c9, rfl, r9, b9⟩
          have J9 := J8.below b9 (Nat.le_refl _)
          have q9 := (h1.below b9 h1.lt).cell 0 _ rfl
          refine ⟨_, rfl, hK.out _ _ q9 (fun hHeld => ?_)⟩
          clear hK K
          try simp only [Act.put, List.setIfInBounds_toArray, List.set_cons_zero, List.set_cons_succ]
          refine wpAnyH_ready (rs := [25]) (by kernel_rfl) (by simp) ?_
          refine AllReadyH.cons (o := ({ dst := some 136, op := Op.call { callee := Callee.value (Operand.func 19), args := #[Operand.tmp 131, Operand.tmp 135], argTypes := #[38, 38] }, type := 4, pos := _, after := #[{ on := 20, ground := Ground.data }, { on := 24, ground := Ground.data }, { on := 20, ground := Ground.chain }, { on := 18, ground := Ground.guard }], guard := some (18, false) } : Oper)) rfl (fun K hK => ?_) AllReadyH.nil
          refine step_call (same_calls a9 a L2.length L2.length c9 c L2 hl2 _ (isE_row r9 rfl) (isE_row (row_below h2 b9 (Nat.le_refl _)) rfl)) (enters_of Try.func19 (by kernel_rfl) rfl) _ _ rfl rfl rfl ?_
          rintro e V10 ⟨rfl, b10⟩
          have J10 := J9.below b10 (Nat.le_refl _)
          refine ⟨_, rfl, hK.out _ _ ((h1.below (b9.trans (b10.mono b9.size)) h1.lt).cell 0 _ rfl) (fun hHeld => ?_)⟩
          clear hK K
          try simp only [Act.put, List.setIfInBounds_toArray, List.set_cons_zero, List.set_cons_succ]
          refine wpAnyH_take (i := 26) (oi := ({ dst := some 137, op := Op.unOp UnOp.not 4 (Operand.tmp 136), type := 4, pos := _, after := #[{ on := 25, ground := Ground.data }, { on := 18, ground := Ground.guard }], guard := some (18, false) } : Oper)) (v := ?_) rfl (by kernel_rfl) (by kernel_rfl) (by kernel_rfl) (fun _ _ _ h => h) (Or.inl ⟨by rfl, ?_⟩) hHeld ?_
          rotate_left
          · (intro w hS; go_simp; try with_reducible rfl)
          try simp only [Act.put, List.setIfInBounds_toArray, List.set_cons_zero, List.set_cons_succ]
          refine wpAnyH_take (i := 27) (oi := ({ dst := some 138, op := Op.pick (Operand.tmp 129) (Operand.const (Value.bool true)) (Operand.tmp 137), type := 4, pos := _, after := #[{ on := 18, ground := Ground.data }, { on := 26, ground := Ground.data }], guard := none } : Oper)) (v := ?_) rfl (by kernel_rfl) (by kernel_rfl) (by kernel_rfl) (fun _ _ _ h => h) (Or.inl ⟨by rfl, ?_⟩) hHeld ?_
          rotate_left
          · (intro w hS; go_simp; try with_reducible rfl)
          try simp only [Act.put, List.setIfInBounds_toArray, List.set_cons_zero, List.set_cons_succ]
          refine wpAnyH_done (by kernel_rfl) ?_ _
          skip
          clear h1 h2 q0 q0' r9 b9 J9 b10 q9 J8
          go_wp2
          go_roundw
          case rel => exact ⟨i + 1, L2, by omega, by go_num, J10⟩
          case measure => simp [intOf]; omega
      · obtain rfl : i = len := by omega
        clear hL hlt
        have k0 := J4.key.cell 0 _ rfl
        have k1 := J4.key.cell 1 _ rfl
        have k2 := J4.key.cell 2 _ rfl
        obtain ⟨N, F, B, hN, hB, hF, hm, hge⟩ := rfr_three L k.1 k.2.1 k.2.2
        have HN : Hid (freeN L k.1 k.2.1 k.2.2 = N ∧ freeB L k.1 k.2.1 k.2.2 = B ∧ rfrN L k.1 k.2.1 k.2.2 = F) := ⟨hN, hB, hF⟩
        have nn : (N == N) = true := by simp
        have bb : (B == B) = true := by simp
        have rr : (rightK k == rightK k) = true := by simp
        clear hN hB hF
        go_wp2_with fail
        refine (free_calls J4.tab k.1 k.2.1 k.2.2).mono ?_
        rintro e w5 ⟨rfl, b5⟩
        rw [HN.out.1, HN.out.2.1]
        have J5 := J4.below b5 (Nat.le_refl _)
        clear J4 k0 k1 k2
        have k0 := J5.key.cell 0 _ rfl
        have k1 := J5.key.cell 1 _ rfl
        have k2 := J5.key.cell 2 _ rfl
        go_wp2_with fail
        refine (rfree_calls J5.rf HO.out k.1 k.2.1 k.2.2).mono ?_
        rintro e w6 ⟨rfl, b6⟩
        rw [HN.out.2.2]
        have J6 := J5.below b6 (Nat.le_refl _)
        clear J5 k0 k1 k2
        have k0 := J6.key.cell 0 _ rfl
        have k1 := J6.key.cell 1 _ rfl
        have k2 := J6.key.cell 2 _ rfl
        go_wp2
        refine wp_region_held_drew (S := (fun w' => w'.cell? ⟨w.heap.size, 0, none⟩ = some (.int .i64 k.1) ∧ w'.cell? ⟨w.heap.size, 1, none⟩ = some (.int .i64 k.2.1) ∧ w'.cell? ⟨w.heap.size, 1 + 1, none⟩ = some (.int .i64 k.2.2))) (by kernel_rfl) ⟨k0, k1, k2⟩ (fun hHeld => ?_)
        refine wpAnyH_take (i := 0) (oi := ({ dst := some 159, op := Op.move (Operand.tmp 18), type := 3, pos := _, after := #[], guard := none } : Oper)) (v := ?_) rfl (by kernel_rfl) (by kernel_rfl) (by kernel_rfl) (fun _ _ _ h => h) (Or.inl ⟨by rfl, ?_⟩) hHeld ?_
        rotate_left
        · (intro w hS; go_simp; try with_reducible rfl)
        try simp only [Act.put, List.setIfInBounds_toArray, List.set_cons_zero, List.set_cons_succ]
        refine wpAnyH_take (i := 1) (oi := ({ dst := some 160, op := Op.move (Operand.tmp 20), type := 3, pos := _, after := #[], guard := none } : Oper)) (v := ?_) rfl (by kernel_rfl) (by kernel_rfl) (by kernel_rfl) (fun _ _ _ h => h) (Or.inl ⟨by rfl, ?_⟩) hHeld ?_
        rotate_left
        · (intro w hS; go_simp; try with_reducible rfl)
        try simp only [Act.put, List.setIfInBounds_toArray, List.set_cons_zero, List.set_cons_succ]
        refine wpAnyH_take (i := 2) (oi := ({ dst := some 161, op := Op.call { callee := Callee.builtin Builtin.max, args := #[Operand.tmp 160, Operand.const (Value.int IntKind.i64 0)], argTypes := #[3, 3] }, type := 3, pos := _, after := #[{ on := 1, ground := Ground.data }], guard := none } : Oper)) (v := ?_) rfl (by kernel_rfl) (by kernel_rfl) (by kernel_rfl) (fun _ _ _ h => h) (Or.inl ⟨by rfl, ?_⟩) hHeld ?_
        rotate_left
        · (intro w hS; go_simp; try with_reducible rfl)
        try simp only [Act.put, List.setIfInBounds_toArray, List.set_cons_zero, List.set_cons_succ]
        refine wpAnyH_take (i := 3) (oi := ({ dst := some 162, op := Op.binOp BinOp.eql 3 (Operand.tmp 159) (Operand.tmp 161) 3, type := 4, pos := _, after := #[{ on := 0, ground := Ground.data }, { on := 2, ground := Ground.data }], guard := none } : Oper)) (v := ?_) rfl (by kernel_rfl) (by kernel_rfl) (by kernel_rfl) (fun _ _ _ h => h) (Or.inl ⟨by rfl, ?_⟩) hHeld ?_
        rotate_left
        · (intro w hS; go_simp; try with_reducible rfl)
        try simp only [Act.put, List.setIfInBounds_toArray, List.set_cons_zero, List.set_cons_succ]
        refine wpAnyH_take (i := 4) (oi := ({ dst := some 163, op := Op.move (Operand.tmp 162), type := 4, pos := _, after := #[{ on := 3, ground := Ground.data }], guard := none } : Oper)) (v := ?_) rfl (by kernel_rfl) (by kernel_rfl) (by kernel_rfl) (fun _ _ _ h => h) (Or.inl ⟨by rfl, ?_⟩) hHeld ?_
        rotate_left
        · (intro w hS; go_simp; try with_reducible rfl)
        try simp only [Act.put, List.setIfInBounds_toArray, List.set_cons_zero, List.set_cons_succ]
        refine wpAnyH_take (i := 5) (oi := ({ dst := some 164, op := Op.move (Operand.tmp 19), type := 4, pos := _, after := #[{ on := 4, ground := Ground.guard }], guard := some (4, true) } : Oper)) (v := ?_) rfl (by kernel_rfl) (by kernel_rfl) (by kernel_rfl) (fun _ _ _ h => h) (Or.inl ⟨by rfl, ?_⟩) hHeld ?_
        rotate_left
        · (intro w hS; go_simp; try with_reducible rfl)
        try simp only [Act.put, List.setIfInBounds_toArray, List.set_cons_zero, List.set_cons_succ]
        refine wpAnyH_take (i := 6) (oi := ({ dst := some 165, op := Op.move (Operand.tmp 20), type := 3, pos := _, after := #[{ on := 4, ground := Ground.guard }], guard := some (4, true) } : Oper)) (v := ?_) rfl (by kernel_rfl) (by kernel_rfl) (by kernel_rfl) (fun _ _ _ h => h) (Or.inl ⟨by rfl, ?_⟩) hHeld ?_
        rotate_left
        · (intro w hS; go_simp; try with_reducible rfl)
        try simp only [Act.put, List.setIfInBounds_toArray, List.set_cons_zero, List.set_cons_succ]
        refine wpAnyH_take (i := 7) (oi := ({ dst := some 166, op := Op.binOp BinOp.geq 3 (Operand.tmp 165) (Operand.const (Value.int IntKind.i64 0)) 3, type := 4, pos := _, after := #[{ on := 6, ground := Ground.data }, { on := 4, ground := Ground.guard }], guard := some (4, true) } : Oper)) (v := ?_) rfl (by kernel_rfl) (by kernel_rfl) (by kernel_rfl) (fun _ _ _ h => h) (Or.inl ⟨by rfl, ?_⟩) hHeld ?_
        rotate_left
        · (intro w hS; go_simp; try with_reducible rfl)
        try simp only [Act.put, List.setIfInBounds_toArray, List.set_cons_zero, List.set_cons_succ]
        refine wpAnyH_take (i := 8) (oi := ({ dst := some 167, op := Op.binOp BinOp.eql 4 (Operand.tmp 164) (Operand.tmp 166) 4, type := 4, pos := _, after := #[{ on := 5, ground := Ground.data }, { on := 7, ground := Ground.data }, { on := 4, ground := Ground.guard }], guard := some (4, true) } : Oper)) (v := ?_) rfl (by kernel_rfl) (by kernel_rfl) (by kernel_rfl) (fun _ _ _ h => h) (Or.inl ⟨by rfl, ?_⟩) hHeld ?_
        rotate_left
        · (intro w hS; go_simp; try with_reducible rfl)
        try simp only [Act.put, List.setIfInBounds_toArray, List.set_cons_zero, List.set_cons_succ]
        refine wpAnyH_take (i := 9) (oi := ({ dst := some 168, op := Op.pick (Operand.tmp 163) (Operand.tmp 167) (Operand.const (Value.bool false)), type := 4, pos := _, after := #[{ on := 4, ground := Ground.data }, { on := 8, ground := Ground.data }], guard := none } : Oper)) (v := ?_) rfl (by kernel_rfl) (by kernel_rfl) (by kernel_rfl) (fun _ _ _ h => h) (Or.inl ⟨by rfl, ?_⟩) hHeld ?_
        rotate_left
        · (intro w hS; go_simp; try with_reducible rfl)
        try simp only [Act.put, List.setIfInBounds_toArray, List.set_cons_zero, List.set_cons_succ]
        refine wpAnyH_take (i := 10) (oi := ({ dst := some 169, op := Op.move (Operand.tmp 168), type := 4, pos := _, after := #[{ on := 9, ground := Ground.data }, { on := 4, ground := Ground.chain }], guard := none } : Oper)) (v := ?_) rfl (by kernel_rfl) (by kernel_rfl) (by kernel_rfl) (fun _ _ _ h => h) (Or.inl ⟨by rfl, ?_⟩) hHeld ?_
        rotate_left
        · (intro w hS; go_simp; try with_reducible rfl)
        try simp only [Act.put, List.setIfInBounds_toArray, List.set_cons_zero, List.set_cons_succ]
        refine wpAnyH_take (i := 11) (oi := ({ dst := some 170, op := Op.load 24 (Operand.tmp 5), type := 24, pos := _, after := #[{ on := 10, ground := Ground.guard }], guard := some (10, true) } : Oper)) (v := ?_) rfl (by kernel_rfl) (by kernel_rfl) (by kernel_rfl) (fun _ _ _ h => h) (Or.inl ⟨by rfl, ?_⟩) hHeld ?_
        rotate_left
        · (intro w hS; go_simp; try with_reducible rfl)
        try simp only [Act.put, List.setIfInBounds_toArray, List.set_cons_zero, List.set_cons_succ]
        refine wpAnyH_take (i := 13) (oi := ({ dst := some 172, op := Op.load 24 (Operand.tmp 5), type := 24, pos := _, after := #[{ on := 10, ground := Ground.guard }], guard := some (10, true) } : Oper)) (v := ?_) rfl (by kernel_rfl) (by kernel_rfl) (by kernel_rfl) (fun _ _ _ h => h) (Or.inl ⟨by rfl, ?_⟩) hHeld ?_
        rotate_left
        · (intro w hS; go_simp; try with_reducible rfl)
        try simp only [Act.put, List.setIfInBounds_toArray, List.set_cons_zero, List.set_cons_succ]
        refine wpAnyH_ready (rs := [12]) (by kernel_rfl) (by simp) ?_
        refine AllReadyH.cons (o := ({ dst := some 171, op := Op.call { callee := Callee.value (Operand.func 23), args := #[Operand.tmp 170], argTypes := #[24] }, type := 4, pos := _, after := #[{ on := 11, ground := Ground.data }, { on := 10, ground := Ground.chain }, { on := 10, ground := Ground.guard }], guard := some (10, true) } : Oper)) rfl (fun K hK => ?_) AllReadyH.nil
        refine step_call (right_calls k _) (enters_of Try.func23 (by kernel_rfl) rfl) _ _ rfl rfl rfl ?_
        rintro e w7 ⟨rfl, b7⟩
        have J7 := J6.drew.below b7 (Nat.le_refl _)
        refine ⟨_, rfl, hK.out _ _ ⟨J7.key.cell 0 _ rfl, J7.key.cell 1 _ rfl, J7.key.cell 2 _ rfl⟩ (fun hHeld => ?_)⟩
        clear hK K
        try simp only [Act.put, List.setIfInBounds_toArray, List.set_cons_zero, List.set_cons_succ]
        refine wpAnyH_ready (rs := [14]) (by kernel_rfl) (by simp) ?_
        refine AllReadyH.cons (o := ({ dst := some 173, op := Op.call { callee := Callee.value (Operand.func 24), args := #[Operand.tmp 172], argTypes := #[24] }, type := 4, pos := _, after := #[{ on := 13, ground := Ground.data }, { on := 12, ground := Ground.chain }, { on := 10, ground := Ground.guard }], guard := some (10, true) } : Oper)) rfl (fun K hK => ?_) AllReadyH.nil
        refine step_call (rright_calls k _) (enters_of Try.func24 (by kernel_rfl) rfl) _ _ rfl rfl rfl ?_
        rintro e w8 ⟨rfl, b8⟩
        have J8 := J7.below b8 (Nat.le_refl _)
        refine ⟨_, rfl, hK.out _ _ ⟨J8.key.cell 0 _ rfl, J8.key.cell 1 _ rfl, J8.key.cell 2 _ rfl⟩ (fun hHeld => ?_)⟩
        clear hK K
        try simp only [Act.put, List.setIfInBounds_toArray, List.set_cons_zero, List.set_cons_succ]
        refine wpAnyH_take (i := 15) (oi := ({ dst := some 174, op := Op.binOp BinOp.eql 4 (Operand.tmp 171) (Operand.tmp 173) 4, type := 4, pos := _, after := #[{ on := 12, ground := Ground.data }, { on := 14, ground := Ground.data }, { on := 10, ground := Ground.guard }], guard := some (10, true) } : Oper)) (v := ?_) rfl (by kernel_rfl) (by kernel_rfl) (by kernel_rfl) (fun _ _ _ h => h) (Or.inl ⟨by rfl, ?_⟩) hHeld ?_
        rotate_left
        · (intro w hS; go_simp; try with_reducible rfl)
        try simp only [Act.put, List.setIfInBounds_toArray, List.set_cons_zero, List.set_cons_succ]
        refine wpAnyH_take (i := 16) (oi := ({ dst := some 175, op := Op.pick (Operand.tmp 169) (Operand.tmp 174) (Operand.const (Value.bool false)), type := 4, pos := _, after := #[{ on := 10, ground := Ground.data }, { on := 15, ground := Ground.data }], guard := none } : Oper)) (v := ?_) rfl (by kernel_rfl) (by kernel_rfl) (by kernel_rfl) (fun _ _ _ h => h) (Or.inl ⟨by rfl, ?_⟩) hHeld ?_
        rotate_left
        · (intro w hS; go_simp; try with_reducible rfl)
        try simp only [Act.put, List.setIfInBounds_toArray, List.set_cons_zero, List.set_cons_succ]
        refine wpAnyH_take (i := 17) (oi := ({ dst := some 6, op := Op.assign (Operand.tmp 175), type := 4, pos := _, after := #[{ on := 16, ground := Ground.data }, { on := 14, ground := Ground.chain }, { on := 0, ground := Ground.phase }, { on := 1, ground := Ground.phase }, { on := 2, ground := Ground.phase }, { on := 3, ground := Ground.phase }, { on := 4, ground := Ground.phase }, { on := 5, ground := Ground.phase }, { on := 6, ground := Ground.phase }, { on := 7, ground := Ground.phase }, { on := 8, ground := Ground.phase }, { on := 9, ground := Ground.phase }, { on := 10, ground := Ground.phase }, { on := 11, ground := Ground.phase }, { on := 12, ground := Ground.phase }, { on := 13, ground := Ground.phase }, { on := 14, ground := Ground.phase }, { on := 15, ground := Ground.phase }, { on := 16, ground := Ground.phase }], guard := none } : Oper)) (v := ?_) rfl (by kernel_rfl) (by kernel_rfl) (by kernel_rfl) (fun _ _ _ h => h) (Or.inl ⟨by rfl, ?_⟩) hHeld ?_
        rotate_left
        · (intro w hS; go_simp; try with_reducible rfl)
        try simp only [Act.put, List.setIfInBounds_toArray, List.set_cons_zero, List.set_cons_succ]
        refine wpAnyH_done (by kernel_rfl) ?_ _
        skip
        go_wp2
        go_ret
        exact ⟨rfl, J8.bel⟩
end Go.Proofs.Ytgimmaancnlbcaa
