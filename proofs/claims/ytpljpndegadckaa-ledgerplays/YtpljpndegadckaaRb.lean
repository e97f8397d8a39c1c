/- Proved here: what the document's Book and Change answer, and leave. Conditions: as each theorem states them. -/
import Derived.Test.YtpljpndegadckaaRp
namespace Go.Proofs.Ytpljpndegadckaa
set_option linter.unusedSimpArgs false
set_option linter.unusedVariables false
open Go.RowKit Go.Shelf

set_option maxHeartbeats 4000000 in
theorem rbook_calls {w : World} {q : Nat} {L : List En} {room : Int} (h : RV w q L room) (ho : Ok L room) (hlen : L.length ≤ 999) (k x : Int) :
    Calls Try.prog 13 #[.pointer (some ⟨q, 0, none⟩), .int .i64 k, .int .i64 x] w fun e w' => e = .returned (.int .i64 (bookE L room k x)) ∧ RV w' q (bookL L room k x) room ∧ But q w.heap.size w w' := by
  by_cases h0 : x < 0
  · have d0 : decide (x < 0) = true := decide_eq_true h0
    have e1 : bookE L room k x = 1 := if_pos h0
    have HE : Hid (bookE L room k x = 1 ∧ RV w q (bookL L room k x) room) := ⟨e1, by unfold bookL; rw [if_neg (by omega)]; exact h⟩
    clear h h0 e1
    go_enter Try.func13, Try.ntmps13
    go_wp2
    go_ret
    exact ⟨by rw [HE.out.1]; rfl, HE.out.2, But.refl _ _ _⟩
  · have d0 : decide (x < 0) = false := decide_eq_false h0
    have hat := rat_calls h (by omega) k
    cases hb : getB L k with
    | true =>
      have e1 : bookE L room k x = 7 := by unfold bookE; rw [if_neg h0, if_pos hb]
      have HE : Hid (bookE L room k x = 7 ∧ RV w q (bookL L room k x) room) := ⟨e1, by unfold bookL; rw [if_neg (by omega)]; exact h⟩
      have HB : Hid (getB L k = true) := hb
      clear h h0 e1 hb
      go_enter Try.func13, Try.ntmps13
      go_wp2_with fail
      refine hat.mono ?_
      rintro e w1 ⟨(⟨i, y, rfl, _, _, _⟩ | ⟨rfl, hb⟩), e1⟩
      · rw [e1]
        clear e1
        have d1 : decide ((0 : Int) ≤ (i : Int)) = true := by simp
        go_wp2
        go_ret
        exact ⟨by rw [HE.out.1]; rfl, HE.out.2, But.refl _ _ _⟩
      · rw [HB.out] at hb; cases hb
    | false =>
      have hnn := ho.nn
      have hsum := ho.sum
      have hrm := ho.room
      have hu := rused_calls h.drew ho (by omega)
      obtain ⟨a, c, K1, E1⟩ := h.ex
      have q0 := K1.cell 0 _ rfl
      have hw : IntKind.i64.wrap (room - sumL L) = room - sumL L := by rw [IntKind.wrap_i64]; omega
      have HB : Hid (getB L k = false) := hb
      by_cases hf : x > room - sumL L
      · have e1 : bookE L room k x = 9 := by unfold bookE; rw [if_neg h0, if_neg (by rw [hb]; decide), if_pos hf]
        have HE : Hid (bookE L room k x = 9 ∧ RV w.drew q (bookL L room k x) room) := ⟨e1, by unfold bookL; rw [if_neg (by omega)]; exact h.drew⟩
        have df : decide (room - sumL L < x) = true := decide_eq_true hf
        clear h h0 e1 hb ho hf hnn hsum hrm
        go_enter Try.func13, Try.ntmps13
        go_wp2_with fail
        refine hat.mono ?_
        rintro e w1 ⟨(⟨i, y, _, _, hb, _⟩ | ⟨rfl, hb⟩), e1⟩
        · rw [HB.out] at hb; cases hb
        · rw [e1]
          clear e1 hb
          have d1 : decide ((0 : Int) ≤ -1) = false := by decide
          go_wp2_with fail
          refine wp_region_held_drew (S := (fun w' => w'.cell? ⟨q, 0, none⟩ = some (.int .i64 room))) (by kernel_rfl) q0 (fun hHeld => ?_)
          refine wpAnyH_take (i := 0) (oi := ({ dst := some 13, op := Op.move (Operand.tmp 2), type := 3, pos := _, after := #[], guard := none } : Oper)) (v := ?_) rfl (by kernel_rfl) (by kernel_rfl) (by kernel_rfl) (fun _ _ _ h => h) (Or.inl ⟨by rfl, ?_⟩) hHeld ?_
          rotate_left
          · (intro w hS; go_simp; try with_reducible rfl)
          try simp only [Act.put, List.setIfInBounds_toArray, List.set_cons_zero, List.set_cons_succ]
          refine wpAnyH_take (i := 1) (oi := ({ dst := some 14, op := Op.move (Operand.tmp 0), type := 26, pos := _, after := #[], guard := none } : Oper)) (v := ?_) rfl (by kernel_rfl) (by kernel_rfl) (by kernel_rfl) (fun _ _ _ h => h) (Or.inl ⟨by rfl, ?_⟩) hHeld ?_
          rotate_left
          · (intro w hS; go_simp; try with_reducible rfl)
          try simp only [Act.put, List.setIfInBounds_toArray, List.set_cons_zero, List.set_cons_succ]
          refine wpAnyH_take (i := 2) (oi := ({ dst := some 15, op := Op.nilCheck (Operand.tmp 14), type := 0, pos := _, after := #[{ on := 1, ground := Ground.data }], guard := none } : Oper)) (v := ?_) rfl (by kernel_rfl) (by kernel_rfl) (by kernel_rfl) (fun _ _ _ h => h) (Or.inl ⟨by rfl, ?_⟩) hHeld ?_
          rotate_left
          · (intro w hS; go_simp; try with_reducible rfl)
          try simp only [Act.put, List.setIfInBounds_toArray, List.set_cons_zero, List.set_cons_succ]
          refine wpAnyH_take (i := 3) (oi := ({ dst := some 16, op := Op.fieldAddr 39 (Operand.tmp 15) 0, type := 0, pos := _, after := #[{ on := 2, ground := Ground.data }], guard := none } : Oper)) (v := ?_) rfl (by kernel_rfl) (by kernel_rfl) (by kernel_rfl) (fun _ _ _ h => h) (Or.inl ⟨by rfl, ?_⟩) hHeld ?_
          rotate_left
          · (intro w hS; go_simp; try with_reducible rfl)
          try simp only [Act.put, List.setIfInBounds_toArray, List.set_cons_zero, List.set_cons_succ]
          refine wpAnyH_take (i := 4) (oi := ({ dst := some 17, op := Op.load 3 (Operand.tmp 16), type := 3, pos := _, after := #[{ on := 3, ground := Ground.data }], guard := none } : Oper)) (v := ?_) rfl (by kernel_rfl) (by kernel_rfl) (by kernel_rfl) (fun _ _ _ h => h) (Or.inl ⟨by rfl, ?_⟩) hHeld ?_
          rotate_left
          · (intro w hS; go_simp; try with_reducible rfl)
          try simp only [Act.put, List.setIfInBounds_toArray, List.set_cons_zero, List.set_cons_succ]
          refine wpAnyH_take (i := 5) (oi := ({ dst := some 18, op := Op.move (Operand.tmp 0), type := 26, pos := _, after := #[], guard := none } : Oper)) (v := ?_) rfl (by kernel_rfl) (by kernel_rfl) (by kernel_rfl) (fun _ _ _ h => h) (Or.inl ⟨by rfl, ?_⟩) hHeld ?_
          rotate_left
          · (intro w hS; go_simp; try with_reducible rfl)
          try simp only [Act.put, List.setIfInBounds_toArray, List.set_cons_zero, List.set_cons_succ]
          refine wpAnyH_ready (rs := [6]) (by kernel_rfl) (by simp) ?_
          refine AllReadyH.cons (o := ({ dst := some 19, op := Op.call { callee := Callee.value (Operand.func 19), args := #[Operand.tmp 18], argTypes := #[26] }, type := 3, pos := _, after := #[{ on := 5, ground := Ground.data }], guard := none } : Oper)) rfl (fun K hK => ?_) AllReadyH.nil
          refine step_call (hu) (enters_of Try.func19 (by kernel_rfl) rfl) _ _ rfl rfl rfl ?_
          rintro e w9 ⟨rfl, e9⟩
          rw [e9]
          clear e9
          refine ⟨_, rfl, hK.out _ _ q0 (fun hHeld => ?_)⟩
          clear hK K
          try simp only [Act.put, List.setIfInBounds_toArray, List.set_cons_zero, List.set_cons_succ]
          refine wpAnyH_take (i := 7) (oi := ({ dst := some 20, op := Op.binOp BinOp.sub 3 (Operand.tmp 17) (Operand.tmp 19) 3, type := 3, pos := _, after := #[{ on := 4, ground := Ground.data }, { on := 6, ground := Ground.data }], guard := none } : Oper)) (v := ?_) rfl (by kernel_rfl) (by kernel_rfl) (by kernel_rfl) (fun _ _ _ h => h) (Or.inl ⟨by rfl, ?_⟩) hHeld ?_
          rotate_left
          · (intro w hS; go_simp; try with_reducible rfl)
          try simp only [Act.put, List.setIfInBounds_toArray, List.set_cons_zero, List.set_cons_succ]
          try rw [hw]
          refine wpAnyH_take (i := 8) (oi := ({ dst := some 21, op := Op.binOp BinOp.gtr 3 (Operand.tmp 13) (Operand.tmp 20) 3, type := 4, pos := _, after := #[{ on := 0, ground := Ground.data }, { on := 7, ground := Ground.data }], guard := none } : Oper)) (v := ?_) rfl (by kernel_rfl) (by kernel_rfl) (by kernel_rfl) (fun _ _ _ h => h) (Or.inl ⟨by rfl, ?_⟩) hHeld ?_
          rotate_left
          · (intro w hS; go_simp; try with_reducible rfl)
          try simp only [Act.put, List.setIfInBounds_toArray, List.set_cons_zero, List.set_cons_succ]
          try rw [df]
          refine wpAnyH_done (by kernel_rfl) ?_ _
          skip
          go_wp2
          go_ret
          exact ⟨by rw [HE.out.1]; rfl, HE.out.2, But.of (Below.refl _ _).drew⟩
      · have e1 : bookE L room k x = 0 := by unfold bookE; rw [if_neg h0, if_neg (by rw [hb]; decide), if_neg hf]
        have HE : Hid (bookE L room k x = 0 ∧ bookL L room k x = ins L (k, x)) := ⟨e1, by unfold bookL; rw [if_pos e1, put_new hb]⟩
        have df : decide (room - sumL L < x) = false := decide_eq_false hf
        have hwith := rwith_calls (w := w.drew) (E1.below (Below.refl w.heap.size w).drew (Nat.le_refl _)).isE E1.cap (by omega) k x
        have HL : Hid ((ins L (k, x)).length = L.length + 1) := ins_length _ _
        have HR : Hid (RV w.drew q L room) := h.drew
        clear h h0 e1 hb ho hf hnn hsum hrm E1
        have q1 := K1.cell 1 _ rfl
        go_enter Try.func13, Try.ntmps13
        go_wp2_with fail
        refine hat.mono ?_
        rintro e w1 ⟨(⟨i, y, _, _, hb, _⟩ | ⟨rfl, hb⟩), e1⟩
        · rw [HB.out] at hb; cases hb
        · rw [e1]
          clear e1 hb
          have d1 : decide ((0 : Int) ≤ -1) = false := by decide
          go_wp2_with fail
          refine wp_region_held_drew (S := (fun w' => w'.cell? ⟨q, 0, none⟩ = some (.int .i64 room))) (by kernel_rfl) q0 (fun hHeld => ?_)
          refine wpAnyH_take (i := 0) (oi := ({ dst := some 13, op := Op.move (Operand.tmp 2), type := 3, pos := _, after := #[], guard := none } : Oper)) (v := ?_) rfl (by kernel_rfl) (by kernel_rfl) (by kernel_rfl) (fun _ _ _ h => h) (Or.inl ⟨by rfl, ?_⟩) hHeld ?_
          rotate_left
          · (intro w hS; go_simp; try with_reducible rfl)
          try simp only [Act.put, List.setIfInBounds_toArray, List.set_cons_zero, List.set_cons_succ]
          refine wpAnyH_take (i := 1) (oi := ({ dst := some 14, op := Op.move (Operand.tmp 0), type := 26, pos := _, after := #[], guard := none } : Oper)) (v := ?_) rfl (by kernel_rfl) (by kernel_rfl) (by kernel_rfl) (fun _ _ _ h => h) (Or.inl ⟨by rfl, ?_⟩) hHeld ?_
          rotate_left
          · (intro w hS; go_simp; try with_reducible rfl)
          try simp only [Act.put, List.setIfInBounds_toArray, List.set_cons_zero, List.set_cons_succ]
          refine wpAnyH_take (i := 2) (oi := ({ dst := some 15, op := Op.nilCheck (Operand.tmp 14), type := 0, pos := _, after := #[{ on := 1, ground := Ground.data }], guard := none } : Oper)) (v := ?_) rfl (by kernel_rfl) (by kernel_rfl) (by kernel_rfl) (fun _ _ _ h => h) (Or.inl ⟨by rfl, ?_⟩) hHeld ?_
          rotate_left
          · (intro w hS; go_simp; try with_reducible rfl)
          try simp only [Act.put, List.setIfInBounds_toArray, List.set_cons_zero, List.set_cons_succ]
          refine wpAnyH_take (i := 3) (oi := ({ dst := some 16, op := Op.fieldAddr 39 (Operand.tmp 15) 0, type := 0, pos := _, after := #[{ on := 2, ground := Ground.data }], guard := none } : Oper)) (v := ?_) rfl (by kernel_rfl) (by kernel_rfl) (by kernel_rfl) (fun _ _ _ h => h) (Or.inl ⟨by rfl, ?_⟩) hHeld ?_
          rotate_left
          · (intro w hS; go_simp; try with_reducible rfl)
          try simp only [Act.put, List.setIfInBounds_toArray, List.set_cons_zero, List.set_cons_succ]
          refine wpAnyH_take (i := 4) (oi := ({ dst := some 17, op := Op.load 3 (Operand.tmp 16), type := 3, pos := _, after := #[{ on := 3, ground := Ground.data }], guard := none } : Oper)) (v := ?_) rfl (by kernel_rfl) (by kernel_rfl) (by kernel_rfl) (fun _ _ _ h => h) (Or.inl ⟨by rfl, ?_⟩) hHeld ?_
          rotate_left
          · (intro w hS; go_simp; try with_reducible rfl)
          try simp only [Act.put, List.setIfInBounds_toArray, List.set_cons_zero, List.set_cons_succ]
          refine wpAnyH_take (i := 5) (oi := ({ dst := some 18, op := Op.move (Operand.tmp 0), type := 26, pos := _, after := #[], guard := none } : Oper)) (v := ?_) rfl (by kernel_rfl) (by kernel_rfl) (by kernel_rfl) (fun _ _ _ h => h) (Or.inl ⟨by rfl, ?_⟩) hHeld ?_
          rotate_left
          · (intro w hS; go_simp; try with_reducible rfl)
          try simp only [Act.put, List.setIfInBounds_toArray, List.set_cons_zero, List.set_cons_succ]
          refine wpAnyH_ready (rs := [6]) (by kernel_rfl) (by simp) ?_
          refine AllReadyH.cons (o := ({ dst := some 19, op := Op.call { callee := Callee.value (Operand.func 19), args := #[Operand.tmp 18], argTypes := #[26] }, type := 3, pos := _, after := #[{ on := 5, ground := Ground.data }], guard := none } : Oper)) rfl (fun K hK => ?_) AllReadyH.nil
          refine step_call (hu) (enters_of Try.func19 (by kernel_rfl) rfl) _ _ rfl rfl rfl ?_
          rintro e w9 ⟨rfl, e9⟩
          rw [e9]
          clear e9
          refine ⟨_, rfl, hK.out _ _ q0 (fun hHeld => ?_)⟩
          clear hK K
          try simp only [Act.put, List.setIfInBounds_toArray, List.set_cons_zero, List.set_cons_succ]
          refine wpAnyH_take (i := 7) (oi := ({ dst := some 20, op := Op.binOp BinOp.sub 3 (Operand.tmp 17) (Operand.tmp 19) 3, type := 3, pos := _, after := #[{ on := 4, ground := Ground.data }, { on := 6, ground := Ground.data }], guard := none } : Oper)) (v := ?_) rfl (by kernel_rfl) (by kernel_rfl) (by kernel_rfl) (fun _ _ _ h => h) (Or.inl ⟨by rfl, ?_⟩) hHeld ?_
          rotate_left
          · (intro w hS; go_simp; try with_reducible rfl)
          try simp only [Act.put, List.setIfInBounds_toArray, List.set_cons_zero, List.set_cons_succ]
          try rw [hw]
          refine wpAnyH_take (i := 8) (oi := ({ dst := some 21, op := Op.binOp BinOp.gtr 3 (Operand.tmp 13) (Operand.tmp 20) 3, type := 4, pos := _, after := #[{ on := 0, ground := Ground.data }, { on := 7, ground := Ground.data }], guard := none } : Oper)) (v := ?_) rfl (by kernel_rfl) (by kernel_rfl) (by kernel_rfl) (fun _ _ _ h => h) (Or.inl ⟨by rfl, ?_⟩) hHeld ?_
          rotate_left
          · (intro w hS; go_simp; try with_reducible rfl)
          try simp only [Act.put, List.setIfInBounds_toArray, List.set_cons_zero, List.set_cons_succ]
          try rw [df]
          refine wpAnyH_done (by kernel_rfl) ?_ _
          skip
          have K2 : BK w.drew q #[.int .i64 room, .slice a L.length c] 39 := K1
          clear K1 q0 q1
          have p1 := K2.cell 1 _ rfl
          go_wp2_with fail
          refine hwith.mono ?_
          rintro e w3 ⟨a3, c3, rfl, E3, B3⟩
          rw [← HL.out] at E3 ⊢
          have R3 := HR.out.below B3 (Nat.le_refl _)
          obtain ⟨R4, b4⟩ := R3.set E3
          have K3 := K2.below B3 K2.lt
          have r1 := K3.cell 1 _ rfl
          have f1 := K3.frozen 1
          have HB4 : Hid (But q w.heap.size w (w3.setCell ⟨q, 1, none⟩ (.slice a3 (ins L (k, x)).length c3))) := (But.of ((Below.refl w.heap.size w).drew.trans B3)).trans (b4.mono B3.size)
          clear p1 hwith E3 B3 R3 b4
          go_wp2
          go_ret
          rw [HE.out.1, HE.out.2]
          exact ⟨rfl, R4, HB4.out⟩

set_option maxHeartbeats 4000000 in
theorem rchg_calls {w : World} {q : Nat} {L : List En} {room : Int} (h : RV w q L room) (ho : Ok L room) (hlen : L.length ≤ 999) (k x : Int) :
    Calls Try.prog 14 #[.pointer (some ⟨q, 0, none⟩), .int .i64 k, .int .i64 x] w fun e w' => e = .returned (.int .i64 (chgE L room k x)) ∧ RV w' q (chgL L room k x) room ∧ But q w.heap.size w w' := by
  by_cases h0 : x < 0
  · have d0 : decide (x < 0) = true := decide_eq_true h0
    have e1 : chgE L room k x = 1 := if_pos h0
    have HE : Hid (chgE L room k x = 1 ∧ RV w q (chgL L room k x) room) := ⟨e1, by unfold chgL; rw [if_neg (by omega)]; exact h⟩
    clear h h0 e1
    go_enter Try.func14, Try.ntmps14
    go_wp2
    go_ret
    exact ⟨by rw [HE.out.1]; rfl, HE.out.2, But.refl _ _ _⟩
  · have d0 : decide (x < 0) = false := decide_eq_false h0
    have hget := rget_calls h (by omega) k
    cases hb : getB L k with
    | false =>
      have e1 : chgE L room k x = 8 := by unfold chgE; rw [if_neg h0, if_pos hb]
      have HE : Hid (chgE L room k x = 8 ∧ RV w q (chgL L room k x) room) := ⟨e1, by unfold chgL; rw [if_neg (by omega)]; exact h⟩
      rw [hb] at hget
      clear h h0 e1 hb
      go_enter Try.func14, Try.ntmps14
      go_wp2_with fail
      refine hget.mono ?_
      rintro e w1 ⟨rfl, e1⟩
      rw [e1]
      clear e1
      go_wp2
      go_ret
      exact ⟨by rw [HE.out.1]; rfl, HE.out.2, But.refl _ _ _⟩
    | true =>
      rw [hb] at hget
      have hnn := ho.nn
      have hsum := ho.sum
      have hrm := ho.room
      obtain ⟨hg0, hg1⟩ := ho.get k
      have hu := rused_calls h.drew ho (by omega)
      obtain ⟨a, c, K1, E1⟩ := h.ex
      have q0 := K1.cell 0 _ rfl
      have hw : IntKind.i64.wrap (room - sumL L) = room - sumL L := by rw [IntKind.wrap_i64]; omega
      have hw2 : IntKind.i64.wrap (room - sumL L + getN L k) = room - sumL L + getN L k := by rw [IntKind.wrap_i64]; omega
      by_cases hf : x > room - (sumL L - getN L k)
      · have e1 : chgE L room k x = 9 := by unfold chgE; rw [if_neg h0, if_neg (by rw [hb]; decide), if_pos hf]
        have HE : Hid (chgE L room k x = 9 ∧ RV w.drew q (chgL L room k x) room) := ⟨e1, by unfold chgL; rw [if_neg (by omega)]; exact h.drew⟩
        have df : decide (room - sumL L + getN L k < x) = true := decide_eq_true (by omega)
        clear h h0 e1 hb ho hf hnn hsum hrm hg0 hg1
        go_enter Try.func14, Try.ntmps14
        go_wp2_with fail
        refine hget.mono ?_
        rintro e w1 ⟨rfl, e1⟩
        rw [e1]
        clear e1
        go_wp2_with fail
        refine wp_region_held_drew (S := (fun w' => w'.cell? ⟨q, 0, none⟩ = some (.int .i64 room))) (by kernel_rfl) q0 (fun hHeld => ?_)
        refine wpAnyH_take (i := 0) (oi := ({ dst := some 19, op := Op.move (Operand.tmp 2), type := 3, pos := _, after := #[], guard := none } : Oper)) (v := ?_) rfl (by kernel_rfl) (by kernel_rfl) (by kernel_rfl) (fun _ _ _ h => h) (Or.inl ⟨by rfl, ?_⟩) hHeld ?_
        rotate_left
        · (intro w hS; go_simp; try with_reducible rfl)
        try simp only [Act.put, List.setIfInBounds_toArray, List.set_cons_zero, List.set_cons_succ]
        refine wpAnyH_take (i := 1) (oi := ({ dst := some 20, op := Op.move (Operand.tmp 0), type := 26, pos := _, after := #[], guard := none } : Oper)) (v := ?_) rfl (by kernel_rfl) (by kernel_rfl) (by kernel_rfl) (fun _ _ _ h => h) (Or.inl ⟨by rfl, ?_⟩) hHeld ?_
        rotate_left
        · (intro w hS; go_simp; try with_reducible rfl)
        try simp only [Act.put, List.setIfInBounds_toArray, List.set_cons_zero, List.set_cons_succ]
        refine wpAnyH_take (i := 2) (oi := ({ dst := some 21, op := Op.nilCheck (Operand.tmp 20), type := 0, pos := _, after := #[{ on := 1, ground := Ground.data }], guard := none } : Oper)) (v := ?_) rfl (by kernel_rfl) (by kernel_rfl) (by kernel_rfl) (fun _ _ _ h => h) (Or.inl ⟨by rfl, ?_⟩) hHeld ?_
        rotate_left
        · (intro w hS; go_simp; try with_reducible rfl)
        try simp only [Act.put, List.setIfInBounds_toArray, List.set_cons_zero, List.set_cons_succ]
        refine wpAnyH_take (i := 3) (oi := ({ dst := some 22, op := Op.fieldAddr 39 (Operand.tmp 21) 0, type := 0, pos := _, after := #[{ on := 2, ground := Ground.data }], guard := none } : Oper)) (v := ?_) rfl (by kernel_rfl) (by kernel_rfl) (by kernel_rfl) (fun _ _ _ h => h) (Or.inl ⟨by rfl, ?_⟩) hHeld ?_
        rotate_left
        · (intro w hS; go_simp; try with_reducible rfl)
        try simp only [Act.put, List.setIfInBounds_toArray, List.set_cons_zero, List.set_cons_succ]
        refine wpAnyH_take (i := 4) (oi := ({ dst := some 23, op := Op.load 3 (Operand.tmp 22), type := 3, pos := _, after := #[{ on := 3, ground := Ground.data }], guard := none } : Oper)) (v := ?_) rfl (by kernel_rfl) (by kernel_rfl) (by kernel_rfl) (fun _ _ _ h => h) (Or.inl ⟨by rfl, ?_⟩) hHeld ?_
        rotate_left
        · (intro w hS; go_simp; try with_reducible rfl)
        try simp only [Act.put, List.setIfInBounds_toArray, List.set_cons_zero, List.set_cons_succ]
        refine wpAnyH_take (i := 5) (oi := ({ dst := some 24, op := Op.move (Operand.tmp 0), type := 26, pos := _, after := #[], guard := none } : Oper)) (v := ?_) rfl (by kernel_rfl) (by kernel_rfl) (by kernel_rfl) (fun _ _ _ h => h) (Or.inl ⟨by rfl, ?_⟩) hHeld ?_
        rotate_left
        · (intro w hS; go_simp; try with_reducible rfl)
        try simp only [Act.put, List.setIfInBounds_toArray, List.set_cons_zero, List.set_cons_succ]
        refine wpAnyH_take (i := 8) (oi := ({ dst := some 27, op := Op.move (Operand.tmp 7), type := 3, pos := _, after := #[], guard := none } : Oper)) (v := ?_) rfl (by kernel_rfl) (by kernel_rfl) (by kernel_rfl) (fun _ _ _ h => h) (Or.inl ⟨by rfl, ?_⟩) hHeld ?_
        rotate_left
        · (intro w hS; go_simp; try with_reducible rfl)
        try simp only [Act.put, List.setIfInBounds_toArray, List.set_cons_zero, List.set_cons_succ]
        refine wpAnyH_ready (rs := [6]) (by kernel_rfl) (by simp) ?_
        refine AllReadyH.cons (o := ({ dst := some 25, op := Op.call { callee := Callee.value (Operand.func 19), args := #[Operand.tmp 24], argTypes := #[26] }, type := 3, pos := _, after := #[{ on := 5, ground := Ground.data }], guard := none } : Oper)) rfl (fun K hK => ?_) AllReadyH.nil
        refine step_call (hu) (enters_of Try.func19 (by kernel_rfl) rfl) _ _ rfl rfl rfl ?_
        rintro e w9 ⟨rfl, e9⟩
        rw [e9]
        clear e9
        refine ⟨_, rfl, hK.out _ _ q0 (fun hHeld => ?_)⟩
        clear hK K
        try simp only [Act.put, List.setIfInBounds_toArray, List.set_cons_zero, List.set_cons_succ]
        refine wpAnyH_take (i := 7) (oi := ({ dst := some 26, op := Op.binOp BinOp.sub 3 (Operand.tmp 23) (Operand.tmp 25) 3, type := 3, pos := _, after := #[{ on := 4, ground := Ground.data }, { on := 6, ground := Ground.data }], guard := none } : Oper)) (v := ?_) rfl (by kernel_rfl) (by kernel_rfl) (by kernel_rfl) (fun _ _ _ h => h) (Or.inl ⟨by rfl, ?_⟩) hHeld ?_
        rotate_left
        · (intro w hS; go_simp; try with_reducible rfl)
        try simp only [Act.put, List.setIfInBounds_toArray, List.set_cons_zero, List.set_cons_succ]
        try rw [hw]
        refine wpAnyH_take (i := 9) (oi := ({ dst := some 28, op := Op.binOp BinOp.add 3 (Operand.tmp 26) (Operand.tmp 27) 3, type := 3, pos := _, after := #[{ on := 7, ground := Ground.data }, { on := 8, ground := Ground.data }], guard := none } : Oper)) (v := ?_) rfl (by kernel_rfl) (by kernel_rfl) (by kernel_rfl) (fun _ _ _ h => h) (Or.inl ⟨by rfl, ?_⟩) hHeld ?_
        rotate_left
        · (intro w hS; go_simp; try with_reducible rfl)
        try simp only [Act.put, List.setIfInBounds_toArray, List.set_cons_zero, List.set_cons_succ]
        try rw [hw2]
        refine wpAnyH_take (i := 10) (oi := ({ dst := some 29, op := Op.binOp BinOp.gtr 3 (Operand.tmp 19) (Operand.tmp 28) 3, type := 4, pos := _, after := #[{ on := 0, ground := Ground.data }, { on := 9, ground := Ground.data }], guard := none } : Oper)) (v := ?_) rfl (by kernel_rfl) (by kernel_rfl) (by kernel_rfl) (fun _ _ _ h => h) (Or.inl ⟨by rfl, ?_⟩) hHeld ?_
        rotate_left
        · (intro w hS; go_simp; try with_reducible rfl)
        try simp only [Act.put, List.setIfInBounds_toArray, List.set_cons_zero, List.set_cons_succ]
        try rw [df]
        refine wpAnyH_done (by kernel_rfl) ?_ _
        skip
        go_wp2
        go_ret
        exact ⟨by rw [HE.out.1]; rfl, HE.out.2, But.of (Below.refl _ _).drew⟩
      · have e1 : chgE L room k x = 0 := by unfold chgE; rw [if_neg h0, if_neg (by rw [hb]; decide), if_neg hf]
        have HE : Hid (chgE L room k x = 0 ∧ chgL L room k x = ins (del L k) (k, x)) := ⟨e1, by unfold chgL; rw [if_pos e1]; rfl⟩
        have df : decide (room - sumL L + getN L k < x) = false := decide_eq_false (by omega)
        have hdl : (del L k).length ≤ 1000 := by have := del_le L k; omega
        have HL : Hid ((ins (del L k) (k, x)).length = (del L k).length + 1) := ins_length _ _
        have HR : Hid (RV w.drew q L room) := h.drew
        have hwo := rwithout_calls h.drew (by omega) k
        clear h h0 e1 hb ho hf hnn hsum hrm E1 hg0 hg1
        go_enter Try.func14, Try.ntmps14
        go_wp2_with fail
        refine hget.mono ?_
        rintro e w1 ⟨rfl, e1⟩
        rw [e1]
        clear e1
        go_wp2_with fail
        refine wp_region_held_drew (S := (fun w' => w'.cell? ⟨q, 0, none⟩ = some (.int .i64 room))) (by kernel_rfl) q0 (fun hHeld => ?_)
        refine wpAnyH_take (i := 0) (oi := ({ dst := some 19, op := Op.move (Operand.tmp 2), type := 3, pos := _, after := #[], guard := none } : Oper)) (v := ?_) rfl (by kernel_rfl) (by kernel_rfl) (by kernel_rfl) (fun _ _ _ h => h) (Or.inl ⟨by rfl, ?_⟩) hHeld ?_
        rotate_left
        · (intro w hS; go_simp; try with_reducible rfl)
        try simp only [Act.put, List.setIfInBounds_toArray, List.set_cons_zero, List.set_cons_succ]
        refine wpAnyH_take (i := 1) (oi := ({ dst := some 20, op := Op.move (Operand.tmp 0), type := 26, pos := _, after := #[], guard := none } : Oper)) (v := ?_) rfl (by kernel_rfl) (by kernel_rfl) (by kernel_rfl) (fun _ _ _ h => h) (Or.inl ⟨by rfl, ?_⟩) hHeld ?_
        rotate_left
        · (intro w hS; go_simp; try with_reducible rfl)
        try simp only [Act.put, List.setIfInBounds_toArray, List.set_cons_zero, List.set_cons_succ]
        refine wpAnyH_take (i := 2) (oi := ({ dst := some 21, op := Op.nilCheck (Operand.tmp 20), type := 0, pos := _, after := #[{ on := 1, ground := Ground.data }], guard := none } : Oper)) (v := ?_) rfl (by kernel_rfl) (by kernel_rfl) (by kernel_rfl) (fun _ _ _ h => h) (Or.inl ⟨by rfl, ?_⟩) hHeld ?_
        rotate_left
        · (intro w hS; go_simp; try with_reducible rfl)
        try simp only [Act.put, List.setIfInBounds_toArray, List.set_cons_zero, List.set_cons_succ]
        refine wpAnyH_take (i := 3) (oi := ({ dst := some 22, op := Op.fieldAddr 39 (Operand.tmp 21) 0, type := 0, pos := _, after := #[{ on := 2, ground := Ground.data }], guard := none } : Oper)) (v := ?_) rfl (by kernel_rfl) (by kernel_rfl) (by kernel_rfl) (fun _ _ _ h => h) (Or.inl ⟨by rfl, ?_⟩) hHeld ?_
        rotate_left
        · (intro w hS; go_simp; try with_reducible rfl)
        try simp only [Act.put, List.setIfInBounds_toArray, List.set_cons_zero, List.set_cons_succ]
        refine wpAnyH_take (i := 4) (oi := ({ dst := some 23, op := Op.load 3 (Operand.tmp 22), type := 3, pos := _, after := #[{ on := 3, ground := Ground.data }], guard := none } : Oper)) (v := ?_) rfl (by kernel_rfl) (by kernel_rfl) (by kernel_rfl) (fun _ _ _ h => h) (Or.inl ⟨by rfl, ?_⟩) hHeld ?_
        rotate_left
        · (intro w hS; go_simp; try with_reducible rfl)
        try simp only [Act.put, List.setIfInBounds_toArray, List.set_cons_zero, List.set_cons_succ]
        refine wpAnyH_take (i := 5) (oi := ({ dst := some 24, op := Op.move (Operand.tmp 0), type := 26, pos := _, after := #[], guard := none } : Oper)) (v := ?_) rfl (by kernel_rfl) (by kernel_rfl) (by kernel_rfl) (fun _ _ _ h => h) (Or.inl ⟨by rfl, ?_⟩) hHeld ?_
        rotate_left
        · (intro w hS; go_simp; try with_reducible rfl)
        try simp only [Act.put, List.setIfInBounds_toArray, List.set_cons_zero, List.set_cons_succ]
        refine wpAnyH_take (i := 8) (oi := ({ dst := some 27, op := Op.move (Operand.tmp 7), type := 3, pos := _, after := #[], guard := none } : Oper)) (v := ?_) rfl (by kernel_rfl) (by kernel_rfl) (by kernel_rfl) (fun _ _ _ h => h) (Or.inl ⟨by rfl, ?_⟩) hHeld ?_
        rotate_left
        · (intro w hS; go_simp; try with_reducible rfl)
        try simp only [Act.put, List.setIfInBounds_toArray, List.set_cons_zero, List.set_cons_succ]
        refine wpAnyH_ready (rs := [6]) (by kernel_rfl) (by simp) ?_
        refine AllReadyH.cons (o := ({ dst := some 25, op := Op.call { callee := Callee.value (Operand.func 19), args := #[Operand.tmp 24], argTypes := #[26] }, type := 3, pos := _, after := #[{ on := 5, ground := Ground.data }], guard := none } : Oper)) rfl (fun K hK => ?_) AllReadyH.nil
        refine step_call (hu) (enters_of Try.func19 (by kernel_rfl) rfl) _ _ rfl rfl rfl ?_
        rintro e w9 ⟨rfl, e9⟩
        rw [e9]
        clear e9
        refine ⟨_, rfl, hK.out _ _ q0 (fun hHeld => ?_)⟩
        clear hK K
        try simp only [Act.put, List.setIfInBounds_toArray, List.set_cons_zero, List.set_cons_succ]
        refine wpAnyH_take (i := 7) (oi := ({ dst := some 26, op := Op.binOp BinOp.sub 3 (Operand.tmp 23) (Operand.tmp 25) 3, type := 3, pos := _, after := #[{ on := 4, ground := Ground.data }, { on := 6, ground := Ground.data }], guard := none } : Oper)) (v := ?_) rfl (by kernel_rfl) (by kernel_rfl) (by kernel_rfl) (fun _ _ _ h => h) (Or.inl ⟨by rfl, ?_⟩) hHeld ?_
        rotate_left
        · (intro w hS; go_simp; try with_reducible rfl)
        try simp only [Act.put, List.setIfInBounds_toArray, List.set_cons_zero, List.set_cons_succ]
        try rw [hw]
        refine wpAnyH_take (i := 9) (oi := ({ dst := some 28, op := Op.binOp BinOp.add 3 (Operand.tmp 26) (Operand.tmp 27) 3, type := 3, pos := _, after := #[{ on := 7, ground := Ground.data }, { on := 8, ground := Ground.data }], guard := none } : Oper)) (v := ?_) rfl (by kernel_rfl) (by kernel_rfl) (by kernel_rfl) (fun _ _ _ h => h) (Or.inl ⟨by rfl, ?_⟩) hHeld ?_
        rotate_left
        · (intro w hS; go_simp; try with_reducible rfl)
        try simp only [Act.put, List.setIfInBounds_toArray, List.set_cons_zero, List.set_cons_succ]
        try rw [hw2]
        refine wpAnyH_take (i := 10) (oi := ({ dst := some 29, op := Op.binOp BinOp.gtr 3 (Operand.tmp 19) (Operand.tmp 28) 3, type := 4, pos := _, after := #[{ on := 0, ground := Ground.data }, { on := 9, ground := Ground.data }], guard := none } : Oper)) (v := ?_) rfl (by kernel_rfl) (by kernel_rfl) (by kernel_rfl) (fun _ _ _ h => h) (Or.inl ⟨by rfl, ?_⟩) hHeld ?_
        rotate_left
        · (intro w hS; go_simp; try with_reducible rfl)
        try simp only [Act.put, List.setIfInBounds_toArray, List.set_cons_zero, List.set_cons_succ]
        try rw [df]
        refine wpAnyH_done (by kernel_rfl) ?_ _
        skip
        clear q0 K1 hu hget
        go_wp2_with fail
        refine hwo.mono ?_
        rintro e w2 ⟨a2, c2, rfl, E2, B2⟩
        have R2 := HR.out.below B2 (Nat.le_refl _)
        clear hwo
        go_wp2_with fail
        refine (rwith_calls E2.isE E2.cap hdl k x).mono ?_
        rintro e w3 ⟨a3, c3, rfl, E3, B3⟩
        rw [← HL.out] at E3 ⊢
        have R3 := R2.below B3 (Nat.le_refl _)
        obtain ⟨R4, b4⟩ := R3.set E3
        obtain ⟨a', c', K3, _⟩ := R3.ex
        have r1 := K3.cell 1 _ rfl
        have f1 := K3.frozen 1
        have B23 := B2.trans (B3.mono B2.size)
        have HB4 : Hid (But q w.heap.size w (w3.setCell ⟨q, 1, none⟩ (.slice a3 (ins (del L k) (k, x)).length c3))) := (But.of ((Below.refl w.heap.size w).drew.trans B23)).trans (b4.mono B23.size)
        clear E2 B2 R2 E3 B3 R3 b4 B23
        go_wp2
        go_ret
        rw [HE.out.1, HE.out.2]
        exact ⟨rfl, R4, HB4.out⟩
end Go.Proofs.Ytpljpndegadckaa
