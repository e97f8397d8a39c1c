/- Proved here: what cost.Need answers, of any contract. Conditions: as each theorem states them. -/
import Derived.Deep.RegionHeldLaw
import Derived.Test.YthmcnllkngheoaaCu
import Derived.Test.YthmcnllkngheoaaLd
namespace Go.Proofs.Ythmcnllkngheoaa
set_option linter.unusedSimpArgs false
set_option linter.unusedVariables false
open Go.RowKit Go.Shelf

set_option maxHeartbeats 1000000 in
theorem need_no (k p e w b l : Int) (h : okB k p e w b l = false) (W : World) : Calls Try.prog 11 #[cV k p e w b l] W fun x W' => x = .returned (.int .i64 0) ∧ Below W.heap.size W W' := by
  have H : Hid (okB k p e w b l = false) := h
  clear h
  go_enter Try.func11, Try.ntmps11
  go_wp2_with fail
  refine (right_no H.out _).mono ?_
  rintro x w1 ⟨E, rfl, hE, b1⟩
  rcases hE with rfl | rfl <;>
  · go_wp2
    go_ret
    exact ⟨rfl, below_box2 b1⟩

set_option maxHeartbeats 1000000 in
theorem need_zero (k p e w b l : Int) (h : okB k p e w b l = true) (hk : k = 6 ∨ k = 7) (W : World) : Calls Try.prog 11 #[cV k p e w b l] W fun x W' => x = .returned (.int .i64 0) ∧ Below W.heap.size W W' := by
  have H : Hid (okB k p e w b l = true) := h
  have C0 := cc_new W k p e w b l
  clear h
  rcases hk with rfl | rfl <;>
  · go_enter Try.func11, Try.ntmps11
    go_wp2_with fail
    refine (right_ok H.out _).mono ?_
    rintro x w1 ⟨rfl, b1⟩
    have C1 := C0.below b1 C0.lt
    obtain ⟨c0, c1, c2, c3, c4, c5⟩ := C1.facts
    go_wp2
    go_ret
    exact ⟨rfl, below_box2 b1⟩

set_option maxHeartbeats 1000000 in
theorem need_cbr (p e w b l : Int) (h : okB 1 p e w b l = true) (W : World) : Calls Try.prog 11 #[cV 1 p e w b l] W fun x W' => x = .returned (.int .i64 (perN p)) ∧ Below W.heap.size W W' := by
  have H : Hid (okB 1 p e w b l = true) := h
  have C0 := cc_new W 1 p e w b l
  clear h
  go_enter Try.func11, Try.ntmps11
  go_wp2_with fail
  refine (right_ok H.out _).mono ?_
  rintro x w1 ⟨rfl, b1⟩
  have C1 := C0.below b1 C0.lt
  obtain ⟨c0, c1, c2, c3, c4, c5⟩ := C1.facts
  go_wp2_with fail
  refine (per_calls _ _).mono ?_
  rintro x w2 ⟨rfl, rfl⟩
  go_wp2
  go_ret
  exact ⟨rfl, below_box2 b1⟩

set_option maxHeartbeats 1000000 in
theorem need_abr (p e w b l : Int) (h : okB 5 p e w b l = true) (W : World) : Calls Try.prog 11 #[cV 5 p e w b l] W fun x W' => x = .returned (.int .i64 (perN l)) ∧ Below W.heap.size W W' := by
  have H : Hid (okB 5 p e w b l = true) := h
  have C0 := cc_new W 5 p e w b l
  clear h
  go_enter Try.func11, Try.ntmps11
  go_wp2_with fail
  refine (right_ok H.out _).mono ?_
  rintro x w1 ⟨rfl, b1⟩
  have C1 := C0.below b1 C0.lt
  obtain ⟨c0, c1, c2, c3, c4, c5⟩ := C1.facts
  go_wp2_with fail
  refine (per_calls _ _).mono ?_
  rintro x w2 ⟨rfl, rfl⟩
  go_wp2
  go_ret
  exact ⟨rfl, below_box2 b1⟩

set_option maxHeartbeats 2000000 in
theorem need_vbr (k p e w b l : Int) (h : okB k p e w b l = true) (hk : k = 2 ∨ k = 3 ∨ k = 4) (W : World) : Calls Try.prog 11 #[cV k p e w b l] W fun x W' => x = .returned (.int .i64 (betN (perN w) (perN p) b)) ∧ Below W.heap.size W W' := by
  have hv : vbrB k = true := by rw [vbrB_iff]; omega
  have hb := (ok_vbr h hv).2.2
  have HB : Hid (∀ W, Calls Try.prog 19 #[.int .i64 (perN w), .int .i64 (perN p), .int .i64 b] W fun e w' => e = .returned (.int .i64 (betN (perN w) (perN p) b)) ∧ w' = W) := fun W => between_calls _ _ _ (perN_bounds w).1 (perN_bounds w).2 (perN_bounds p).1 (perN_bounds p).2 hb.1 hb.2 W
  clear hb hv
  have H : Hid (okB k p e w b l = true) := h
  have C0 := cc_new W k p e w b l
  clear h
  rcases hk with rfl | rfl | rfl <;>
  · go_enter Try.func11, Try.ntmps11
    go_wp2_with fail
    refine (right_ok H.out _).mono ?_
    rintro x w1 ⟨rfl, b1⟩
    have C1 := C0.below b1 C0.lt
    have b2 := below_box2 b1
    obtain ⟨c0, c1, c2, c3, c4, c5⟩ := C1.facts
    go_wp2_with fail
    refine wp_region_held_drew (S := (fun w' => Below w1.heap.size w1 w')) (by kernel_rfl) (Below.refl _ w1).drew (fun hHeld => ?_)
    refine wpAnyH_take (i := 0) (oi := ({ dst := some 17, op := Op.fieldAddr 23 (Operand.tmp 1) 3, type := 0, pos := _, after := #[], guard := none } : Oper)) (v := ?_) rfl (by kernel_rfl) (by kernel_rfl) (by kernel_rfl) (fun _ _ _ h => h) (Or.inl ⟨by rfl, ?_⟩) hHeld ?_
    rotate_left
    · (intro w hS; go_simp; try with_reducible rfl)
    try simp only [Act.put, List.setIfInBounds_toArray, List.set_cons_zero, List.set_cons_succ]
    refine wpAnyH_take (i := 1) (oi := ({ dst := some 18, op := Op.load 3 (Operand.tmp 17), type := 3, pos := _, after := #[{ on := 0, ground := Ground.data }], guard := none } : Oper))  rfl (by kernel_rfl) (by kernel_rfl) (by kernel_rfl) (fun _ _ _ h => h) (yields_ld rfl rfl rfl (fun w hS => load_int (C1.below hS C1.lt).facts.2.2.2.1)) hHeld ?_
    try simp only [Act.put, List.setIfInBounds_toArray, List.set_cons_zero, List.set_cons_succ]
    refine wpAnyH_take (i := 3) (oi := ({ dst := some 20, op := Op.fieldAddr 23 (Operand.tmp 1) 1, type := 0, pos := _, after := #[], guard := none } : Oper)) (v := ?_) rfl (by kernel_rfl) (by kernel_rfl) (by kernel_rfl) (fun _ _ _ h => h) (Or.inl ⟨by rfl, ?_⟩) hHeld ?_
    rotate_left
    · (intro w hS; go_simp; try with_reducible rfl)
    try simp only [Act.put, List.setIfInBounds_toArray, List.set_cons_zero, List.set_cons_succ]
    refine wpAnyH_take (i := 4) (oi := ({ dst := some 21, op := Op.load 3 (Operand.tmp 20), type := 3, pos := _, after := #[{ on := 3, ground := Ground.data }], guard := none } : Oper))  rfl (by kernel_rfl) (by kernel_rfl) (by kernel_rfl) (fun _ _ _ h => h) (yields_ld rfl rfl rfl (fun w hS => load_int (C1.below hS C1.lt).facts.2.1)) hHeld ?_
    try simp only [Act.put, List.setIfInBounds_toArray, List.set_cons_zero, List.set_cons_succ]
    refine wpAnyH_take (i := 6) (oi := ({ dst := some 23, op := Op.fieldAddr 23 (Operand.tmp 1) 4, type := 0, pos := _, after := #[], guard := none } : Oper)) (v := ?_) rfl (by kernel_rfl) (by kernel_rfl) (by kernel_rfl) (fun _ _ _ h => h) (Or.inl ⟨by rfl, ?_⟩) hHeld ?_
    rotate_left
    · (intro w hS; go_simp; try with_reducible rfl)
    try simp only [Act.put, List.setIfInBounds_toArray, List.set_cons_zero, List.set_cons_succ]
    refine wpAnyH_take (i := 7) (oi := ({ dst := some 24, op := Op.load 3 (Operand.tmp 23), type := 3, pos := _, after := #[{ on := 6, ground := Ground.data }], guard := none } : Oper))  rfl (by kernel_rfl) (by kernel_rfl) (by kernel_rfl) (fun _ _ _ h => h) (yields_ld rfl rfl rfl (fun w hS => load_int (C1.below hS C1.lt).facts.2.2.2.2.1)) hHeld ?_
    try simp only [Act.put, List.setIfInBounds_toArray, List.set_cons_zero, List.set_cons_succ]
    refine wpAnyH_ready (rs := [2]) (by kernel_rfl) (by simp) ?_
    refine AllReadyH.cons (o := ({ dst := some 19, op := Op.call { callee := Callee.value (Operand.func 13), args := #[Operand.tmp 18], argTypes := #[3] }, type := 3, pos := _, after := #[{ on := 1, ground := Ground.data }], guard := none } : Oper)) rfl (fun K hK => ?_) AllReadyH.nil
    refine step_call (per_calls w _) (enters_of Try.func13 (by kernel_rfl) rfl) _ _ rfl rfl rfl ?_
    rintro x w5 ⟨rfl, rfl⟩
    skip
    refine ⟨_, rfl, hK.out _ _ hHeld (fun hHeld => ?_)⟩
    clear hK K
    try simp only [Act.put, List.setIfInBounds_toArray, List.set_cons_zero, List.set_cons_succ]
    refine wpAnyH_ready (rs := [5]) (by kernel_rfl) (by simp) ?_
    refine AllReadyH.cons (o := ({ dst := some 22, op := Op.call { callee := Callee.value (Operand.func 13), args := #[Operand.tmp 21], argTypes := #[3] }, type := 3, pos := _, after := #[{ on := 4, ground := Ground.data }, { on := 2, ground := Ground.chain }], guard := none } : Oper)) rfl (fun K hK => ?_) AllReadyH.nil
    refine step_call (per_calls p _) (enters_of Try.func13 (by kernel_rfl) rfl) _ _ rfl rfl rfl ?_
    rintro x w6 ⟨rfl, rfl⟩
    skip
    refine ⟨_, rfl, hK.out _ _ hHeld (fun hHeld => ?_)⟩
    clear hK K
    try simp only [Act.put, List.setIfInBounds_toArray, List.set_cons_zero, List.set_cons_succ]
    refine wpAnyH_ready (rs := [8]) (by kernel_rfl) (by simp) ?_
    refine AllReadyH.cons (o := ({ dst := some 25, op := Op.call { callee := Callee.value (Operand.func 19), args := #[Operand.tmp 19, Operand.tmp 22, Operand.tmp 24], argTypes := #[3, 3, 3] }, type := 3, pos := _, after := #[{ on := 2, ground := Ground.data }, { on := 5, ground := Ground.data }, { on := 7, ground := Ground.data }, { on := 5, ground := Ground.chain }], guard := none } : Oper)) rfl (fun K hK => ?_) AllReadyH.nil
    refine step_call (HB.out _) (enters_of Try.func19 (by kernel_rfl) rfl) _ _ rfl rfl rfl ?_
    rintro x w7 ⟨rfl, rfl⟩
    skip
    refine ⟨_, rfl, hK.out _ _ hHeld (fun hHeld => ?_)⟩
    clear hK K
    try simp only [Act.put, List.setIfInBounds_toArray, List.set_cons_zero, List.set_cons_succ]
    refine wpAnyH_take (i := 9) (oi := ({ dst := some 2, op := Op.assign (Operand.tmp 25), type := 3, pos := _, after := #[{ on := 8, ground := Ground.data }, { on := 8, ground := Ground.chain }, { on := 0, ground := Ground.phase }, { on := 1, ground := Ground.phase }, { on := 2, ground := Ground.phase }, { on := 3, ground := Ground.phase }, { on := 4, ground := Ground.phase }, { on := 5, ground := Ground.phase }, { on := 6, ground := Ground.phase }, { on := 7, ground := Ground.phase }, { on := 8, ground := Ground.phase }], guard := none } : Oper)) (v := ?_) rfl (by kernel_rfl) (by kernel_rfl) (by kernel_rfl) (fun _ _ _ h => h) (Or.inl ⟨by rfl, ?_⟩) hHeld ?_
    rotate_left
    · (intro w hS; go_simp; try with_reducible rfl)
    try simp only [Act.put, List.setIfInBounds_toArray, List.set_cons_zero, List.set_cons_succ]
    refine wpAnyH_done (by kernel_rfl) ?_ _
    go_wp2_with fail
    go_ret
    exact ⟨rfl, b2.trans (hHeld.mono b2.size)⟩

theorem need_calls (k p e w b l : Int) (W : World) : Calls Try.prog 11 #[cV k p e w b l] W fun x W' => x = .returned (.int .i64 (needN k p e w b l)) ∧ Below W.heap.size W W' := by
  cases h : okB k p e w b l
  · rw [needN_no h]; exact need_no k p e w b l h W
  · have hk := (okB_iff.1 h).1
    by_cases h1 : k = 1
    · subst h1; rw [needN_one h]; exact need_cbr p e w b l h W
    · by_cases h5 : k = 5
      · subst h5; rw [needN_five h]; exact need_abr p e w b l h W
      · cases hv : vbrB k
        · rw [needN_other h1 h5 hv]; rw [vbrB_not] at hv; exact need_zero k p e w b l h (by omega) W
        · rw [needN_vbr h hv]; rw [vbrB_iff] at hv; exact need_vbr k p e w b l h (by omega) W
end Go.Proofs.Ythmcnllkngheoaa
