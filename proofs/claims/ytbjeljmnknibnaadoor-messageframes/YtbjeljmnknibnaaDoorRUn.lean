/- Proved here: what the document's Unpack answers of bytes. Conditions: as each theorem states them. -/
import Derived.Test.YtbjeljmnknibnaaDoorUn
namespace Go.Proofs.YtbjeljmnknibnaaDoor
set_option linter.unusedSimpArgs false
set_option linter.unusedVariables false
set_option maxRecDepth 20000
open Go.RowKit Go.Shelf

theorem drop_get {zs r : List UInt8} {p j : Nat} {x : UInt8} (h : zs.drop p = r) (hx : r[j]? = some x) : zs[p + j]? = some x := by
  rw [← h, List.getElem?_drop] at hx
  exact hx

theorem headN_four (i m u v : UInt8) (t : List UInt8) : headN (i :: m :: u :: v :: t) = if m ≠ 128 then .error 5 else if 200 < numN [u, v] then .error 6 else if t.length < numN [u, v] then .error 2 else .ok (numN [u, v]) := rfl

set_option maxHeartbeats 1000000 in
theorem refunpack_calls (a : Option Addr) (len cap : Nat) (zs : List UInt8) (w : World) {n : Nat} (h : IsB n w a len zs) (hn : n ≤ w.heap.size) (hlc : len ≤ cap) (hm : len ≤ 10000) :
    Calls Tryd.prog 35 #[.slice a len cap] w (UnAns zs w) := by
  have l1 : Hid (len = zs.length) := h.1
  go_enter Tryd.func35, Tryd.ntmps35
  go_wp2
  go_loopw [4, 5] (fun l s wr => ∃ (D : List El) (r : List UInt8) (al : Option Addr) (p ld cl : Nat), s = .int .i64 p ∧ Hid (zs.drop p = r) ∧ p ≤ len ∧ l = .slice al ld cl ∧ OwnI w.heap.size w.heap.size wr al ld cl D ∧ ld ≤ 16 ∧
      Hid (unE 16 zs = aheadE D (unE (16 - ld) r)) ∧ Below w.heap.size w wr) (fun _ s _ => len - (intOf s).toNat)
  case atStart => exact ⟨[], zs, none, 0, 0, 0, rfl, rfl, by omega, rfl, ownI_nil _ _ _, by decide, (aheadE_nil _).symm, Below.refl _ _⟩
  case round =>
    obtain ⟨D, r, al, p, ld, cl, rfl, HR, hp, rfl, o1, hld, HU, bel⟩ := hrel
    have HlD : Hid (ld = D.length) := o1.len
    have Hlr : Hid (r.length = len - p) := by show _ = _; rw [← HR.out, List.length_drop, ← l1.out]
    by_cases h0 : p = len
    · have HE : Hid (unE 16 zs = .ok D) := by
        show _ = _
        rw [HU.out, show r = [] from List.eq_nil_of_length_eq_zero (by rw [Hlr.out]; omega), unE_nil]
        simp [aheadE]
      subst h0
      clear h l1 HU Hlr HR
      go_wp2
      go_ret2
      exact ⟨bel, .inl ⟨D, al, cl, HE.out, by rw [← HlD.out]; rfl, by rw [← HlD.out]; exact o1⟩⟩
    · have hpl : p < len := by omega
      have hne : r ≠ [] := fun e => by have := Hlr.out; rw [e] at this; simp at this; omega
      by_cases h16 : ld = 16
      · have HE : Hid (unE 16 zs = .error 6) := by
          show _ = _
          rw [HU.out, h16, unE_zero hne]
          rfl
        have q2 : ((ld : Int) == 16) = true := by rw [h16]; rfl
        clear h l1 HU Hlr hne h16 o1 h0 HR
        go_wp2
        go_ret2
        exact ⟨bel, .inr ⟨6, HE.out, rfl⟩⟩
      · have q2 : ((ld : Int) == 16) = false := beq_eq_false_iff_ne.2 (by omega)
        have hld15 : ld ≤ 15 := by omega
        have hk : 16 - ld = (15 - ld) + 1 := by omega
        have hU := HU.out
        rw [hk] at hU
        have HE : Hid (∀ E, headN r = .error E → unE 16 zs = .error E) := fun E he => by rw [hU, unE_err hne he]; rfl
        by_cases h4 : len - p < 4
        · have HEE : Hid (unE 16 zs = .error 2) := HE.out 2 (headN_short (by rw [Hlr.out]; exact h4))
          have q3 : decide ((len : Int) - (p : Int) < 4) = true := by simp; omega
          clear h l1 HU Hlr hne h16 o1 h0 HR hU HE hk h4
          go_wp2
          go_ret2
          exact ⟨bel, .inr ⟨2, HEE.out, rfl⟩⟩
        · have q3 : decide ((len : Int) - (p : Int) < 4) = false := by simp; omega
          obtain ⟨i, m, u, v, t, rfl⟩ : ∃ i m u v t, r = i :: m :: u :: v :: t := by
            have l4 := Hlr.out
            match r, l4 with
            | i :: m :: u :: v :: t, _ => exact ⟨i, m, u, v, t, rfl⟩
            | [], l4 => simp at l4; omega
            | [_], l4 => simp at l4; omega
            | [_, _], l4 => simp at l4; omega
            | [_, _, _], l4 => simp at l4; omega
          have hlt : Hid (t.length + 4 + p = len) := by have := Hlr.out; simp at this; show _ = _; omega
          obtain ⟨b, off, rfl, hbn, hc⟩ := h.cell (k := p + 0) (drop_get HR.out (j := 0) rfl)
          have C : Hid (∀ w', Below w.heap.size w w' → w'.cell? ⟨b, off + p, none⟩ = some (.int .u8 (i.toNat : Int)) ∧ w'.cell? ⟨b, off + (p + 1), none⟩ = some (.int .u8 (m.toNat : Int)) ∧ w'.cell? ⟨b, off + (p + 2), none⟩ = some (.int .u8 (u.toNat : Int)) ∧ w'.cell? ⟨b, off + (p + 3), none⟩ = some (.int .u8 (v.toNat : Int))) := by
            intro w' hB
            have key : ∀ (j : Nat) (x : UInt8), zs[j]? = some x → w'.cell? ⟨b, off + j, none⟩ = some (.int .u8 (x.toNat : Int)) := fun j x hx => (hB.cell (p := ⟨b, off + j, none⟩) (by show b < _; omega)).trans (hc j x hx)
            exact ⟨key _ _ (drop_get HR.out (j := 0) rfl), key _ _ (drop_get HR.out (j := 1) rfl), key _ _ (drop_get HR.out (j := 2) rfl), key _ _ (drop_get HR.out (j := 3) rfl)⟩
          have hp4 : p + 4 ≤ len := by omega
          have hN2 := numN_two u v
          have hF := headN_four i m u v t
          by_cases hm1 : m = 128
          · obtain ⟨d0, d1, d2, d3⟩ := C.out wr bel
            subst hm1
            have q4 : (((128 : UInt8).toNat : Int) != 128) = false := by decide
            have hu8 := u.toNat_lt
            have hv8 := v.toNat_lt
            rw [if_neg (by simp)] at hF
            obtain ⟨N, hN⟩ : ∃ N, numN [u, v] = N := ⟨_, rfl⟩
            rw [hN] at hF hN2
            have z2 : IntKind.i64.wrap ((p : Int) + 2) = (p : Int) + 2 := by rw [IntKind.wrap_i64]; omega
            have z3 : IntKind.i64.wrap ((p : Int) + 3) = (p : Int) + 3 := by rw [IntKind.wrap_i64]; omega
            have y2 : (0 : Int) ≤ (p : Int) + 2 ∧ (p : Int) + 2 < (len : Int) := by omega
            have y3 : (0 : Int) ≤ (p : Int) + 3 ∧ (p : Int) + 3 < (len : Int) := by omega
            have x2 : ((p : Int) + 2).toNat = p + 2 := by omega
            have x3 : ((p : Int) + 3).toNat = p + 3 := by omega
            have wu : IntKind.i64.wrap (u.toNat : Int) = (u.toNat : Int) := by rw [IntKind.wrap_i64]; omega
            have wv : IntKind.i64.wrap (v.toNat : Int) = (v.toNat : Int) := by rw [IntKind.wrap_i64]; omega
            have zM : IntKind.i64.wrap ((u.toNat : Int) * 256) = (u.toNat : Int) * 256 := by rw [IntKind.wrap_i64]; omega
            have zN : IntKind.i64.wrap ((u.toNat : Int) * 256 + (v.toNat : Int)) = (N : Int) := by rw [IntKind.wrap_i64]; omega
            have hN16 : N ≤ 65535 := by omega
            have HF : Hid (headN (i :: 128 :: u :: v :: t) = if 200 < N then .error 6 else if t.length < N then .error 2 else .ok N) := hF
            clear hc hF hN2 hu8 hv8
            go_wp2
            refine wp_region_held_drew (S := (fun w' => Below w.heap.size w w')) (by kernel_rfl) bel.drew (fun hHeld => ?_)
            refine wpAnyH_take (i := 0) (oi := ({ dst := some 25, op := Op.move (Operand.tmp 0), type := 25, pos := _, after := #[], guard := none } : Oper)) (v := ?_) rfl (by kernel_rfl) (by kernel_rfl) (by kernel_rfl) (fun _ _ _ h => h) (Or.inl ⟨by rfl, ?_⟩) hHeld ?_
            rotate_left
            · (intro w hS; go_simp; try with_reducible rfl)
            try simp only [Act.put, List.setIfInBounds_toArray, List.set_cons_zero, List.set_cons_succ]
            refine wpAnyH_take (i := 1) (oi := ({ dst := some 26, op := Op.move (Operand.tmp 5), type := 3, pos := _, after := #[], guard := none } : Oper)) (v := ?_) rfl (by kernel_rfl) (by kernel_rfl) (by kernel_rfl) (fun _ _ _ h => h) (Or.inl ⟨by rfl, ?_⟩) hHeld ?_
            rotate_left
            · (intro w hS; go_simp; try with_reducible rfl)
            try simp only [Act.put, List.setIfInBounds_toArray, List.set_cons_zero, List.set_cons_succ]
            refine wpAnyH_take (i := 2) (oi := ({ dst := some 27, op := Op.binOp BinOp.add 3 (Operand.tmp 26) (Operand.const (Value.int IntKind.i64 2)) 3, type := 3, pos := _, after := #[{ on := 1, ground := Ground.data }], guard := none } : Oper)) (v := ?_) rfl (by kernel_rfl) (by kernel_rfl) (by kernel_rfl) (fun _ _ _ h => h) (Or.inl ⟨by rfl, ?_⟩) hHeld ?_
            rotate_left
            · (intro w hS; go_simp; try with_reducible rfl)
            try simp only [Act.put, List.setIfInBounds_toArray, List.set_cons_zero, List.set_cons_succ]
            refine wpAnyH_take (i := 3) (oi := ({ dst := some 28, op := Op.indexAddr 25 (Operand.tmp 25) (Operand.tmp 27), type := 0, pos := _, after := #[{ on := 0, ground := Ground.data }, { on := 2, ground := Ground.data }], guard := none } : Oper)) (v := ?_) rfl (by kernel_rfl) (by kernel_rfl) (by kernel_rfl) (fun _ _ _ h => h) (Or.inl ⟨by rfl, ?_⟩) hHeld ?_
            rotate_left
            · (intro w hS; go_simp; try with_reducible rfl)
            try simp only [Act.put, List.setIfInBounds_toArray, List.set_cons_zero, List.set_cons_succ]
            refine wpAnyH_take (i := 4) (oi := ({ dst := some 29, op := Op.load 5 (Operand.tmp 28), type := 5, pos := _, after := #[{ on := 3, ground := Ground.data }], guard := none } : Oper)) (v := ?_) rfl (by kernel_rfl) (by kernel_rfl) (by kernel_rfl) (fun _ _ _ h => h) (Or.inl ⟨by rfl, ?_⟩) hHeld ?_
            rotate_left
            · (intro w hS; obtain ⟨d0, d1, d2, d3⟩ := C.out w hS; go_simp; try with_reducible rfl)
            try simp only [Act.put, List.setIfInBounds_toArray, List.set_cons_zero, List.set_cons_succ]
            refine wpAnyH_take (i := 5) (oi := ({ dst := some 30, op := Op.convert 5 3 (Operand.tmp 29), type := 3, pos := _, after := #[{ on := 4, ground := Ground.data }], guard := none } : Oper)) (v := ?_) rfl (by kernel_rfl) (by kernel_rfl) (by kernel_rfl) (fun _ _ _ h => h) (Or.inl ⟨by rfl, ?_⟩) hHeld ?_
            rotate_left
            · (intro w hS; go_simp; try with_reducible rfl)
            try simp only [Act.put, List.setIfInBounds_toArray, List.set_cons_zero, List.set_cons_succ]
            refine wpAnyH_take (i := 6) (oi := ({ dst := some 31, op := Op.binOp BinOp.mul 3 (Operand.tmp 30) (Operand.const (Value.int IntKind.i64 256)) 3, type := 3, pos := _, after := #[{ on := 5, ground := Ground.data }], guard := none } : Oper)) (v := ?_) rfl (by kernel_rfl) (by kernel_rfl) (by kernel_rfl) (fun _ _ _ h => h) (Or.inl ⟨by rfl, ?_⟩) hHeld ?_
            rotate_left
            · (intro w hS; go_simp; try with_reducible rfl)
            try simp only [Act.put, List.setIfInBounds_toArray, List.set_cons_zero, List.set_cons_succ]
            refine wpAnyH_take (i := 7) (oi := ({ dst := some 32, op := Op.move (Operand.tmp 0), type := 25, pos := _, after := #[], guard := none } : Oper)) (v := ?_) rfl (by kernel_rfl) (by kernel_rfl) (by kernel_rfl) (fun _ _ _ h => h) (Or.inl ⟨by rfl, ?_⟩) hHeld ?_
            rotate_left
            · (intro w hS; go_simp; try with_reducible rfl)
            try simp only [Act.put, List.setIfInBounds_toArray, List.set_cons_zero, List.set_cons_succ]
            refine wpAnyH_take (i := 8) (oi := ({ dst := some 33, op := Op.move (Operand.tmp 5), type := 3, pos := _, after := #[], guard := none } : Oper)) (v := ?_) rfl (by kernel_rfl) (by kernel_rfl) (by kernel_rfl) (fun _ _ _ h => h) (Or.inl ⟨by rfl, ?_⟩) hHeld ?_
            rotate_left
            · (intro w hS; go_simp; try with_reducible rfl)
            try simp only [Act.put, List.setIfInBounds_toArray, List.set_cons_zero, List.set_cons_succ]
            refine wpAnyH_take (i := 9) (oi := ({ dst := some 34, op := Op.binOp BinOp.add 3 (Operand.tmp 33) (Operand.const (Value.int IntKind.i64 3)) 3, type := 3, pos := _, after := #[{ on := 8, ground := Ground.data }], guard := none } : Oper)) (v := ?_) rfl (by kernel_rfl) (by kernel_rfl) (by kernel_rfl) (fun _ _ _ h => h) (Or.inl ⟨by rfl, ?_⟩) hHeld ?_
            rotate_left
            · (intro w hS; go_simp; try with_reducible rfl)
            try simp only [Act.put, List.setIfInBounds_toArray, List.set_cons_zero, List.set_cons_succ]
            refine wpAnyH_take (i := 10) (oi := ({ dst := some 35, op := Op.indexAddr 25 (Operand.tmp 32) (Operand.tmp 34), type := 0, pos := _, after := #[{ on := 7, ground := Ground.data }, { on := 9, ground := Ground.data }], guard := none } : Oper)) (v := ?_) rfl (by kernel_rfl) (by kernel_rfl) (by kernel_rfl) (fun _ _ _ h => h) (Or.inl ⟨by rfl, ?_⟩) hHeld ?_
            rotate_left
            · (intro w hS; go_simp; try with_reducible rfl)
            try simp only [Act.put, List.setIfInBounds_toArray, List.set_cons_zero, List.set_cons_succ]
            refine wpAnyH_take (i := 11) (oi := ({ dst := some 36, op := Op.load 5 (Operand.tmp 35), type := 5, pos := _, after := #[{ on := 10, ground := Ground.data }], guard := none } : Oper)) (v := ?_) rfl (by kernel_rfl) (by kernel_rfl) (by kernel_rfl) (fun _ _ _ h => h) (Or.inl ⟨by rfl, ?_⟩) hHeld ?_
            rotate_left
            · (intro w hS; obtain ⟨d0, d1, d2, d3⟩ := C.out w hS; go_simp; try with_reducible rfl)
            try simp only [Act.put, List.setIfInBounds_toArray, List.set_cons_zero, List.set_cons_succ]
            refine wpAnyH_take (i := 12) (oi := ({ dst := some 37, op := Op.convert 5 3 (Operand.tmp 36), type := 3, pos := _, after := #[{ on := 11, ground := Ground.data }], guard := none } : Oper)) (v := ?_) rfl (by kernel_rfl) (by kernel_rfl) (by kernel_rfl) (fun _ _ _ h => h) (Or.inl ⟨by rfl, ?_⟩) hHeld ?_
            rotate_left
            · (intro w hS; go_simp; try with_reducible rfl)
            try simp only [Act.put, List.setIfInBounds_toArray, List.set_cons_zero, List.set_cons_succ]
            refine wpAnyH_take (i := 13) (oi := ({ dst := some 38, op := Op.binOp BinOp.add 3 (Operand.tmp 31) (Operand.tmp 37) 3, type := 3, pos := _, after := #[{ on := 6, ground := Ground.data }, { on := 12, ground := Ground.data }], guard := none } : Oper)) (v := ?_) rfl (by kernel_rfl) (by kernel_rfl) (by kernel_rfl) (fun _ _ _ h => h) (Or.inl ⟨by rfl, ?_⟩) hHeld ?_
            rotate_left
            · (intro w hS; go_simp; try with_reducible rfl)
            try simp only [Act.put, List.setIfInBounds_toArray, List.set_cons_zero, List.set_cons_succ]
            refine wpAnyH_take (i := 14) (oi := ({ dst := some 6, op := Op.assign (Operand.tmp 38), type := 3, pos := _, after := #[{ on := 13, ground := Ground.data }, { on := 0, ground := Ground.phase }, { on := 1, ground := Ground.phase }, { on := 2, ground := Ground.phase }, { on := 3, ground := Ground.phase }, { on := 4, ground := Ground.phase }, { on := 5, ground := Ground.phase }, { on := 6, ground := Ground.phase }, { on := 7, ground := Ground.phase }, { on := 8, ground := Ground.phase }, { on := 9, ground := Ground.phase }, { on := 10, ground := Ground.phase }, { on := 11, ground := Ground.phase }, { on := 12, ground := Ground.phase }, { on := 13, ground := Ground.phase }], guard := none } : Oper)) (v := ?_) rfl (by kernel_rfl) (by kernel_rfl) (by kernel_rfl) (fun _ _ _ h => h) (Or.inl ⟨by rfl, ?_⟩) hHeld ?_
            rotate_left
            · (intro w hS; go_simp; try with_reducible rfl)
            try simp only [Act.put, List.setIfInBounds_toArray, List.set_cons_zero, List.set_cons_succ]
            refine wpAnyH_done (by kernel_rfl) ?_ _
            skip
            clear z2 z3 y2 y3 x2 x3 zM zN hN wu wv
            have B2 := hHeld
            have A2 : Below wr.heap.size wr wr.drew := (Below.refl _ wr).drew
            have o2 := o1.below A2 (Nat.le_refl _)
            clear o1 bel
            generalize wr.drew = wd at *
            by_cases hN200 : 200 < N
            · have q5 : decide (200 < (N : Int)) = true := by simp; omega
              have HEE : Hid (unE 16 zs = .error 6) := HE.out 6 (by rw [HF.out, if_pos hN200])
              clear h l1 HU Hlr hne h16 h0 HR hU HE hk h4 C hlt HF hN200
              go_wp2
              go_ret2
              exact ⟨B2, .inr ⟨6, HEE.out, rfl⟩⟩
            · have q5 : decide (200 < (N : Int)) = false := by simp; omega
              have hN2 : N ≤ 200 := Nat.not_lt.1 hN200
              by_cases hNt : t.length < N
              · have q6 : decide ((len : Int) - (p : Int) - 4 < (N : Int)) = true := by have := hlt.out; simp; omega
                have HEE : Hid (unE 16 zs = .error 2) := HE.out 2 (by rw [HF.out, if_neg hN200, if_pos hNt])
                clear h l1 HU Hlr hne h16 h0 HR hU HE hk h4 C hlt HF hN200 hNt
                go_wp2
                go_ret2
                exact ⟨B2, .inr ⟨2, HEE.out, rfl⟩⟩
              · have q6 : decide ((len : Int) - (p : Int) - 4 < (N : Int)) = false := by have := hlt.out; simp; omega
                have hNt2 : p + 4 + N ≤ len := by have := hlt.out; omega
                have hh : headN (i :: 128 :: u :: v :: t) = .ok N := by rw [HF.out, if_neg hN200, if_neg hNt]
                rw [unE_ok hh, aheadE_app] at hU
                obtain ⟨body, hbody⟩ : ∃ body, t.take N = body := ⟨_, rfl⟩
                obtain ⟨r2, hr2⟩ : ∃ r2, t.drop N = r2 := ⟨_, rfl⟩
                have hbl : body.length = N := by rw [← hbody, List.length_take]; omega
                have e1 : ((i :: 128 :: u :: v :: t).drop 4).take N = body := by rw [← hbody]; rfl
                have e2 : (i :: 128 :: u :: v :: t).drop (4 + N) = r2 := by rw [← hr2, Nat.add_comm]; rfl
                have HR2 : Hid (zs.drop (p + 4 + N) = r2) := by
                  show _ = _
                  rw [← e2, ← HR.out, List.drop_drop]
                  congr 1
                  omega
                rw [e1, e2] at hU
                have HV : Hid (unE 16 zs = aheadE (D ++ [⟨i, body⟩]) (unE (15 - ld) r2)) := hU
                have ez : zs = zs.take p ++ ([i, 128, u, v] ++ (body ++ r2)) := by
                  have e3 : [i, 128, u, v] ++ (body ++ r2) = zs.drop p := by rw [HR.out, ← hbody, ← hr2, List.take_append_drop]; rfl
                  rw [e3, List.take_append_drop]
                have htp : (zs.take p).length = p := by rw [List.length_take, ← l1.out]; omega
                obtain ⟨a9, ha9⟩ : ∃ a9, (if cap = p + 4 then some (⟨b, off, none⟩ : Addr) else some ⟨b, off + (p + 4), none⟩) = a9 := ⟨_, rfl⟩
                have J1 : IsB n w (some ⟨b, off + (p + 4), none⟩) N body := by
                  have h' := h
                  rw [ez] at h'
                  have h2 := h'.dropA.dropA.takeA
                  rw [htp, hbl] at h2
                  exact h2
                have I9 : IsB n w a9 N body := by
                  rw [← ha9]
                  split
                  · exact ⟨hbl.symm, .inl (List.eq_nil_of_length_eq_zero (by omega))⟩
                  · exact J1
                have N9 : a9 = none → cap - (p + 4) = 0 := by rw [← ha9]; split <;> (intro h; cases h)
                have I9' : Hid (∀ w', Below w.heap.size w w' → IsB n w' a9 N body) := fun w' hb => I9.below hb hn
                have g7 : ∀ k, (Value.slice al ld cl).ownBlock = some k → k < wd.heap.size := fun k hk => (o2.lt k hk).2
                clear h l1 HU Hlr hne h16 h0 HR hU HE hk h4 hlt HF hN200 hNt J1 I9 ez htp e1 e2 hbody hr2 hh
                have s4 : IntKind.i64.wrap ((p : Int) + 4) = (p : Int) + 4 := by rw [IntKind.wrap_i64]; omega
                have s5 : IntKind.i64.wrap ((p : Int) + 4 + (N : Int)) = (p : Int) + 4 + (N : Int) := by rw [IntKind.wrap_i64]; omega
                have t1 : (0 : Int) ≤ (p : Int) + 4 + (N : Int) ∧ (p : Int) + 4 + (N : Int) ≤ (cap : Int) := by omega
                have t2 : (0 : Int) ≤ (p : Int) + 4 ∧ (p : Int) + 4 ≤ max ((p : Int) + 4 + (N : Int)) 0 := by omega
                have t3 : (p : Int) + 4 ≤ (p : Int) + 4 + (N : Int) := by omega
                have x4 : ((p : Int) + 4).toNat = p + 4 := by omega
                have x5 : ((p : Int) + 4 + (N : Int)).toNat = p + 4 + N := by omega
                have x6 : p + 4 + N - (p + 4) = N := by omega
                go_wp2
                refine wp_region_held_drew (S := (fun w' => Below w.heap.size w w')) (by kernel_rfl) B2.drew (fun hHeld => ?_)
                refine wpAnyH_take (i := 0) (oi := ({ dst := some 48, op := Op.move (Operand.tmp 4), type := 22, pos := _, after := #[], guard := none } : Oper)) (v := ?_) rfl (by kernel_rfl) (by kernel_rfl) (by kernel_rfl) (fun _ _ _ h => h) (Or.inl ⟨by rfl, ?_⟩) hHeld ?_
                rotate_left
                · (intro w hS; go_simp; try with_reducible rfl)
                try simp only [Act.put, List.setIfInBounds_toArray, List.set_cons_zero, List.set_cons_succ]
                refine wpAnyH_take (i := 1) (oi := ({ dst := some 49, op := Op.move (Operand.tmp 0), type := 25, pos := _, after := #[], guard := none } : Oper)) (v := ?_) rfl (by kernel_rfl) (by kernel_rfl) (by kernel_rfl) (fun _ _ _ h => h) (Or.inl ⟨by rfl, ?_⟩) hHeld ?_
                rotate_left
                · (intro w hS; go_simp; try with_reducible rfl)
                try simp only [Act.put, List.setIfInBounds_toArray, List.set_cons_zero, List.set_cons_succ]
                refine wpAnyH_take (i := 2) (oi := ({ dst := some 50, op := Op.move (Operand.tmp 5), type := 3, pos := _, after := #[], guard := none } : Oper)) (v := ?_) rfl (by kernel_rfl) (by kernel_rfl) (by kernel_rfl) (fun _ _ _ h => h) (Or.inl ⟨by rfl, ?_⟩) hHeld ?_
                rotate_left
                · (intro w hS; go_simp; try with_reducible rfl)
                try simp only [Act.put, List.setIfInBounds_toArray, List.set_cons_zero, List.set_cons_succ]
                refine wpAnyH_take (i := 3) (oi := ({ dst := some 51, op := Op.indexAddr 25 (Operand.tmp 49) (Operand.tmp 50), type := 0, pos := _, after := #[{ on := 1, ground := Ground.data }, { on := 2, ground := Ground.data }], guard := none } : Oper)) (v := ?_) rfl (by kernel_rfl) (by kernel_rfl) (by kernel_rfl) (fun _ _ _ h => h) (Or.inl ⟨by rfl, ?_⟩) hHeld ?_
                rotate_left
                · (intro w hS; go_simp; try with_reducible rfl)
                try simp only [Act.put, List.setIfInBounds_toArray, List.set_cons_zero, List.set_cons_succ]
                refine wpAnyH_take (i := 4) (oi := ({ dst := some 52, op := Op.load 5 (Operand.tmp 51), type := 5, pos := _, after := #[{ on := 3, ground := Ground.data }], guard := none } : Oper)) (v := ?_) rfl (by kernel_rfl) (by kernel_rfl) (by kernel_rfl) (fun _ _ _ h => h) (Or.inl ⟨by rfl, ?_⟩) hHeld ?_
                rotate_left
                · (intro w hS; obtain ⟨d0, d1, d2, d3⟩ := C.out w hS; go_simp; try with_reducible rfl)
                try simp only [Act.put, List.setIfInBounds_toArray, List.set_cons_zero, List.set_cons_succ]
                refine wpAnyH_take (i := 6) (oi := ({ dst := some 54, op := Op.move (Operand.tmp 0), type := 25, pos := _, after := #[], guard := none } : Oper)) (v := ?_) rfl (by kernel_rfl) (by kernel_rfl) (by kernel_rfl) (fun _ _ _ h => h) (Or.inl ⟨by rfl, ?_⟩) hHeld ?_
                rotate_left
                · (intro w hS; go_simp; try with_reducible rfl)
                try simp only [Act.put, List.setIfInBounds_toArray, List.set_cons_zero, List.set_cons_succ]
                refine wpAnyH_take (i := 7) (oi := ({ dst := some 55, op := Op.move (Operand.tmp 5), type := 3, pos := _, after := #[], guard := none } : Oper)) (v := ?_) rfl (by kernel_rfl) (by kernel_rfl) (by kernel_rfl) (fun _ _ _ h => h) (Or.inl ⟨by rfl, ?_⟩) hHeld ?_
                rotate_left
                · (intro w hS; go_simp; try with_reducible rfl)
                try simp only [Act.put, List.setIfInBounds_toArray, List.set_cons_zero, List.set_cons_succ]
                refine wpAnyH_take (i := 8) (oi := ({ dst := some 56, op := Op.binOp BinOp.add 3 (Operand.tmp 55) (Operand.const (Value.int IntKind.i64 4)) 3, type := 3, pos := _, after := #[{ on := 7, ground := Ground.data }], guard := none } : Oper)) (v := ?_) rfl (by kernel_rfl) (by kernel_rfl) (by kernel_rfl) (fun _ _ _ h => h) (Or.inl ⟨by rfl, ?_⟩) hHeld ?_
                rotate_left
                · (intro w hS; go_simp; try with_reducible rfl)
                try simp only [Act.put, List.setIfInBounds_toArray, List.set_cons_zero, List.set_cons_succ]
                refine wpAnyH_take (i := 9) (oi := ({ dst := some 57, op := Op.move (Operand.tmp 5), type := 3, pos := _, after := #[], guard := none } : Oper)) (v := ?_) rfl (by kernel_rfl) (by kernel_rfl) (by kernel_rfl) (fun _ _ _ h => h) (Or.inl ⟨by rfl, ?_⟩) hHeld ?_
                rotate_left
                · (intro w hS; go_simp; try with_reducible rfl)
                try simp only [Act.put, List.setIfInBounds_toArray, List.set_cons_zero, List.set_cons_succ]
                refine wpAnyH_take (i := 10) (oi := ({ dst := some 58, op := Op.binOp BinOp.add 3 (Operand.tmp 57) (Operand.const (Value.int IntKind.i64 4)) 3, type := 3, pos := _, after := #[{ on := 9, ground := Ground.data }], guard := none } : Oper)) (v := ?_) rfl (by kernel_rfl) (by kernel_rfl) (by kernel_rfl) (fun _ _ _ h => h) (Or.inl ⟨by rfl, ?_⟩) hHeld ?_
                rotate_left
                · (intro w hS; go_simp; try with_reducible rfl)
                try simp only [Act.put, List.setIfInBounds_toArray, List.set_cons_zero, List.set_cons_succ]
                refine wpAnyH_take (i := 11) (oi := ({ dst := some 59, op := Op.move (Operand.tmp 6), type := 3, pos := _, after := #[], guard := none } : Oper)) (v := ?_) rfl (by kernel_rfl) (by kernel_rfl) (by kernel_rfl) (fun _ _ _ h => h) (Or.inl ⟨by rfl, ?_⟩) hHeld ?_
                rotate_left
                · (intro w hS; go_simp; try with_reducible rfl)
                try simp only [Act.put, List.setIfInBounds_toArray, List.set_cons_zero, List.set_cons_succ]
                refine wpAnyH_take (i := 12) (oi := ({ dst := some 60, op := Op.binOp BinOp.add 3 (Operand.tmp 58) (Operand.tmp 59) 3, type := 3, pos := _, after := #[{ on := 10, ground := Ground.data }, { on := 11, ground := Ground.data }], guard := none } : Oper)) (v := ?_) rfl (by kernel_rfl) (by kernel_rfl) (by kernel_rfl) (fun _ _ _ h => h) (Or.inl ⟨by rfl, ?_⟩) hHeld ?_
                rotate_left
                · (intro w hS; go_simp; try with_reducible rfl)
                try simp only [Act.put, List.setIfInBounds_toArray, List.set_cons_zero, List.set_cons_succ]
                refine wpAnyH_take (i := 13) (oi := ({ dst := some 61, op := Op.slice 25 (Operand.tmp 54) (some (Operand.tmp 56)) (some (Operand.tmp 60)) none, type := 25, pos := _, after := #[{ on := 6, ground := Ground.data }, { on := 8, ground := Ground.data }, { on := 12, ground := Ground.data }], guard := none } : Oper)) (v := ?_) rfl (by kernel_rfl) (by kernel_rfl) (by kernel_rfl) (fun _ _ _ h => h) (Or.inl ⟨by rfl, ?_⟩) hHeld ?_
                rotate_left
                · (intro w hS; go_simp; try with_reducible rfl)
                try simp only [Act.put, List.setIfInBounds_toArray, List.set_cons_zero, List.set_cons_succ]
                refine wpAnyH_ready (rs := [5]) (by kernel_rfl) (by simp) ?_
                refine AllReadyH.cons (o := ({ dst := some 53, op := Op.buildSlice 25 0 #[], type := 25, pos := _, after := #[], guard := none } : Oper)) rfl (fun K hK => ?_) AllReadyH.nil
                refine step_slB (zs := []) (vs := []) (by rfl) wd.heap.size (by rfl) (by rfl) run_sl0 rfl (by decide) (Nat.le_refl _) ?_
                intro b5 w5 hb5 o5 d5
                have D5 := ((Below.refl wd.heap.size wd).drew).trans d5
                refine hK.out _ _ (hHeld.trans (d5.mono B2.size)) (fun hHeld => ?_)
                clear hK K
                try simp only [Act.put, List.setIfInBounds_toArray, List.set_cons_zero, List.set_cons_succ]
                refine wpAnyH_ready (rs := [14]) (by kernel_rfl) (by simp) ?_
                refine AllReadyH.cons (o := ({ dst := some 62, op := Op.call { callee := Callee.builtin Builtin.append, args := #[Operand.tmp 53, Operand.tmp 61], argTypes := #[25, 25] }, type := 25, pos := _, after := #[{ on := 5, ground := Ground.data }, { on := 13, ground := Ground.data }], guard := none } : Oper)) rfl (fun K hK => ?_) AllReadyH.nil
                refine step_appB (N := N) (by rfl) (by rfl) (by rfl) (by rfl) o5 (I9'.out _ hHeld) N9 (by omega) D5.size (Nat.zero_add _) ?_
                intro a6 c6 w6 o6 d6
                have D6 := D5.trans d6
                refine hK.out _ _ (hHeld.trans (d6.mono B2.size)) (fun hHeld => ?_)
                clear hK K
                try simp only [Act.put, List.setIfInBounds_toArray, List.set_cons_zero, List.set_cons_succ]
                refine wpAnyH_take (i := 15) (oi := ({ dst := some 63, op := Op.build 60 #[(0, Operand.tmp 52), (1, Operand.tmp 62)], type := 60, pos := _, after := #[{ on := 4, ground := Ground.data }, { on := 14, ground := Ground.data }], guard := none } : Oper)) (v := ?_) rfl (by kernel_rfl) (by kernel_rfl) (by kernel_rfl) (fun _ _ _ h => h) (Or.inl ⟨by rfl, ?_⟩) hHeld ?_
                rotate_left
                · (intro w hS; go_simp; try with_reducible rfl)
                try simp only [Act.put, List.setIfInBounds_toArray, List.set_cons_zero, List.set_cons_succ]
                refine wpAnyH_ready (rs := [16]) (by kernel_rfl) (by simp) ?_
                refine AllReadyH.cons (o := ({ dst := some 64, op := Op.buildSlice 22 1 #[(0, Operand.tmp 63)], type := 22, pos := _, after := #[{ on := 15, ground := Ground.data }], guard := none } : Oper)) rfl (fun K hK => ?_) AllReadyH.nil
                refine step_slI (i := i) (by rfl) (by rfl) (by rfl) ?_
                intro b7 w7 hb7 K7 e7
                have D7 := D6.trans (e7.mono D6.size)
                have o8 := o6.below e7 (Nat.le_refl _)
                have o9 := o2.below D7 (Nat.le_refl _)
                refine hK.out _ _ (hHeld.trans (e7.mono (Nat.le_trans B2.size D6.size))) (fun hHeld => ?_)
                clear hK K
                try simp only [Act.put, List.setIfInBounds_toArray, List.set_cons_zero, List.set_cons_succ]
                refine wpAnyH_ready (rs := [17]) (by kernel_rfl) (by simp) ?_
                refine AllReadyH.cons (o := ({ dst := some 65, op := Op.call { callee := Callee.builtin Builtin.append, args := #[Operand.tmp 48, Operand.tmp 64], argTypes := #[22, 22] }, type := 22, pos := _, after := #[{ on := 0, ground := Ground.data }, { on := 16, ground := Ground.data }, { on := 14, ground := Ground.chain }], guard := none } : Oper)) rfl (fun K hK => ?_) AllReadyH.nil
                refine step_appI (N := ld + 1) (by rfl) (by rfl) (by rfl) (by rfl) o9 K7 (o8.isO B2.size (fun k hk => g7 k hk)) o8.isB.2.1 o8.isB.2.2 (by omega) (Nat.le_trans B2.size D7.size) rfl ?_
                intro a10 c10 w10 o10 d10
                refine hK.out _ _ (hHeld.trans d10) (fun hHeld => ?_)
                clear hK K
                try simp only [Act.put, List.setIfInBounds_toArray, List.set_cons_zero, List.set_cons_succ]
                refine wpAnyH_take (i := 18) (oi := ({ dst := some 4, op := Op.assign (Operand.tmp 65), type := 22, pos := _, after := #[{ on := 17, ground := Ground.data }, { on := 17, ground := Ground.chain }, { on := 0, ground := Ground.phase }, { on := 1, ground := Ground.phase }, { on := 2, ground := Ground.phase }, { on := 3, ground := Ground.phase }, { on := 4, ground := Ground.phase }, { on := 5, ground := Ground.phase }, { on := 6, ground := Ground.phase }, { on := 7, ground := Ground.phase }, { on := 8, ground := Ground.phase }, { on := 9, ground := Ground.phase }, { on := 10, ground := Ground.phase }, { on := 11, ground := Ground.phase }, { on := 12, ground := Ground.phase }, { on := 13, ground := Ground.phase }, { on := 14, ground := Ground.phase }, { on := 15, ground := Ground.phase }, { on := 16, ground := Ground.phase }, { on := 17, ground := Ground.phase }], guard := none } : Oper)) (v := ?_) rfl (by kernel_rfl) (by kernel_rfl) (by kernel_rfl) (fun _ _ _ h => h) (Or.inl ⟨by rfl, ?_⟩) hHeld ?_
                rotate_left
                · (intro w hS; go_simp; try with_reducible rfl)
                try simp only [Act.put, List.setIfInBounds_toArray, List.set_cons_zero, List.set_cons_succ]
                refine wpAnyH_done (by kernel_rfl) ?_ _
                skip
                clear o9 o8 K7 o6 o5 D5 D6 D7 d5 d6 e7 d10 o2 I9' C g7 s4 s5 t1 t2 t3 x4 x5 x6 N9
                go_wp2
                go_roundw
                case rel => exact ⟨D ++ [⟨i, body⟩], r2, a10, p + 4 + N, ld + 1, c10, by go_num, HR2.out, by omega, rfl, o10, by omega, by show _ = _; rw [HV.out, show 15 - ld = 16 - (ld + 1) by omega], hHeld⟩
                case measure => simp [intOf]; omega
          · have q4 : ((m.toNat : Int) != 128) = true := by
              rw [bne_iff_ne]
              intro e
              exact hm1 (UInt8.toNat_inj.1 (by show m.toNat = 128; omega))
            have HEE : Hid (unE 16 zs = .error 5) := HE.out 5 (by rw [headN_four, if_pos hm1])
            obtain ⟨d0, d1, d2, d3⟩ := C.out wr bel
            clear h l1 HU Hlr hne h16 o1 h0 HR hU HE hk h4 hF hN2 hc hm1 C hlt
            go_wp2
            go_ret2
            exact ⟨bel, .inr ⟨5, HEE.out, rfl⟩⟩
end Go.Proofs.YtbjeljmnknibnaaDoor
