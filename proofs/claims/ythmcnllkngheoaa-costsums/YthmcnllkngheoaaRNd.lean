/- Proved here: what the document's Need answers, of any contract. Conditions: as each theorem states them. -/
import Derived.Deep.RegionHeldLaw
import Derived.Test.YthmcnllkngheoaaCu
import Derived.Test.YthmcnllkngheoaaRefC
import Derived.Test.YthmcnllkngheoaaLd
namespace Go.Proofs.Ythmcnllkngheoaa
set_option linter.unusedSimpArgs false
set_option linter.unusedVariables false
open Go.RowKit Go.Shelf

theorem wrap_id {x : Int} (h0 : -9223372036854775808 ≤ x) (h1 : x < 9223372036854775808) : IntKind.i64.wrap x = x := by
  unfold IntKind.wrap
  simp [IntKind.bits, IntKind.signed]
  omega
theorem refright_ok {k p e w b l : Int} (h : okB k p e w b l = true) (W : World) : Calls Try.prog 18 #[cV k p e w b l] W fun x W' => x = .returned (.int .i64 0) ∧ Below W.heap.size W W' := by
  have := refright_calls k p e w b l W
  rwa [okB_err h] at this
theorem refright_no {k p e w b l : Int} (h : okB k p e w b l = false) (W : World) : Calls Try.prog 18 #[cV k p e w b l] W fun x W' => ∃ E : Int, x = .returned (.int .i64 E) ∧ (E = 11 ∨ E = 12) ∧ Below W.heap.size W W' := by
  refine (refright_calls k p e w b l W).mono ?_
  rintro x W' ⟨rfl, hb⟩
  exact ⟨_, rfl, okB_no h, hb⟩

set_option maxHeartbeats 1000000 in
theorem refneed_no (k p e w b l : Int) (h : okB k p e w b l = false) (W : World) : Calls Try.prog 12 #[cV k p e w b l] W fun x W' => x = .returned (.int .i64 0) ∧ Below W.heap.size W W' := by
  have H : Hid (okB k p e w b l = false) := h
  clear h
  go_enter Try.func12, Try.ntmps12
  go_wp2_with fail
  refine (refright_no H.out _).mono ?_
  rintro x w1 ⟨E, rfl, hE, b1⟩
  rcases hE with rfl | rfl <;>
  · go_wp2
    go_ret
    exact ⟨rfl, below_box2 b1⟩

set_option maxHeartbeats 1000000 in
theorem refneed_zero (k p e w b l : Int) (h : okB k p e w b l = true) (hk : k = 6 ∨ k = 7) (W : World) : Calls Try.prog 12 #[cV k p e w b l] W fun x W' => x = .returned (.int .i64 0) ∧ Below W.heap.size W W' := by
  have H : Hid (okB k p e w b l = true) := h
  have C0 := cc_new W k p e w b l
  clear h
  rcases hk with rfl | rfl <;>
  · go_enter Try.func12, Try.ntmps12
    go_wp2_with fail
    refine (refright_ok H.out _).mono ?_
    rintro x w1 ⟨rfl, b1⟩
    have C1 := C0.below b1 C0.lt
    obtain ⟨c0, c1, c2, c3, c4, c5⟩ := C1.facts
    go_wp2
    go_ret
    exact ⟨rfl, below_box2 b1⟩

set_option maxHeartbeats 1000000 in
theorem refneed_cbr (p e w b l : Int) (h : okB 1 p e w b l = true) (W : World) : Calls Try.prog 12 #[cV 1 p e w b l] W fun x W' => x = .returned (.int .i64 (perN p)) ∧ Below W.heap.size W W' := by
  have H : Hid (okB 1 p e w b l = true) := h
  have C0 := cc_new W 1 p e w b l
  clear h
  go_enter Try.func12, Try.ntmps12
  go_wp2_with fail
  refine (refright_ok H.out _).mono ?_
  rintro x w1 ⟨rfl, b1⟩
  have C1 := C0.below b1 C0.lt
  obtain ⟨c0, c1, c2, c3, c4, c5⟩ := C1.facts
  go_wp2_with fail
  refine (refper_calls _ _).mono ?_
  rintro x w2 ⟨rfl, rfl⟩
  go_wp2
  go_ret
  exact ⟨rfl, below_box2 b1⟩

set_option maxHeartbeats 1000000 in
theorem refneed_abr (p e w b l : Int) (h : okB 5 p e w b l = true) (W : World) : Calls Try.prog 12 #[cV 5 p e w b l] W fun x W' => x = .returned (.int .i64 (perN l)) ∧ Below W.heap.size W W' := by
  have H : Hid (okB 5 p e w b l = true) := h
  have C0 := cc_new W 5 p e w b l
  clear h
  go_enter Try.func12, Try.ntmps12
  go_wp2_with fail
  refine (refright_ok H.out _).mono ?_
  rintro x w1 ⟨rfl, b1⟩
  have C1 := C0.below b1 C0.lt
  obtain ⟨c0, c1, c2, c3, c4, c5⟩ := C1.facts
  go_wp2_with fail
  refine (refper_calls _ _).mono ?_
  rintro x w2 ⟨rfl, rfl⟩
  go_wp2
  go_ret
  exact ⟨rfl, below_box2 b1⟩

set_option maxHeartbeats 4000000 in
theorem refneed_vbr (k p e w b l : Int) (h : okB k p e w b l = true) (hk : k = 2 ∨ k = 3 ∨ k = 4) (W : World) : Calls Try.prog 12 #[cV k p e w b l] W fun x W' => x = .returned (.int .i64 (betN (perN w) (perN p) b)) ∧ Below W.heap.size W W' := by
  have hv : vbrB k = true := by rw [vbrB_iff]; omega
  have hb := (ok_vbr h hv).2.2
  obtain ⟨u0, u1⟩ := perN_bounds w
  obtain ⟨v0, v1⟩ := perN_bounds p
  obtain ⟨m0, m1⟩ := bet_arg u0 u1 v0 v1 hb.1 hb.2
  obtain ⟨b0, b9⟩ := hb
  unfold betN
  obtain ⟨u, hu⟩ : ∃ u, perN w = u := ⟨_, rfl⟩
  obtain ⟨v, hv'⟩ : ∃ v, perN p = v := ⟨_, rfl⟩
  have HU : Hid (perN w = u) := hu
  have HV : Hid (perN p = v) := hv'
  rw [hu] at u0 u1 ⊢
  rw [hv'] at v0 v1 m0 m1 ⊢
  obtain ⟨m, hm⟩ : ∃ m, v * b = m := ⟨_, rfl⟩
  rw [hm] at m0 m1 ⊢
  have W1 : Hid (IntKind.i64.wrap (u * 4096) = u * 4096) := wrap_id (by omega) (by omega)
  have W2 : Hid (IntKind.i64.wrap m = m) := wrap_id (by omega) (by omega)
  have W3 : Hid (IntKind.i64.wrap (u * 4096 + m) = u * 4096 + m) := wrap_id (by omega) (by omega)
  have W4 : Hid (IntKind.i64.wrap (b + 4096) = b + 4096) := wrap_id (by omega) (by omega)
  have HB : Hid (∀ W, Calls Try.prog 20 #[.int .i64 (u * 4096 + m), .int .i64 (b + 4096)] W fun e w' => e = .returned (.int .i64 (upN (u * 4096 + m) (b + 4096))) ∧ w' = W) := fun W => refup_calls _ _ (by omega) (by omega) (by omega) W
  clear hu hv'
  have H : Hid (okB k p e w b l = true) := h
  have C0 := cc_new W k p e w b l
  clear h hv
  rcases hk with rfl | rfl | rfl <;>
  · go_enter Try.func12, Try.ntmps12
    go_wp2_with fail
    refine (refright_ok H.out _).mono ?_
    rintro x w1 ⟨rfl, b1⟩
    have C1 := C0.below b1 C0.lt
    have b2 := below_box2 b1
    obtain ⟨c0, c1, c2, c3, c4, c5⟩ := C1.facts
    go_wp2_with fail
    refine wp_region_held_drew (S := (fun w' => Below w1.heap.size w1 w')) (by kernel_rfl) (Below.refl _ w1).drew (fun hHeld => ?_)
    refine wpAnyH_take (i := 0) (oi := ({ dst := some 21, op := Op.fieldAddr 23 (Operand.tmp 1) 3, type := 0, pos := _, after := #[], guard := none } : Oper)) (v := ?_) rfl (by kernel_rfl) (by kernel_rfl) (by kernel_rfl) (fun _ _ _ h => h) (Or.inl ⟨by rfl, ?_⟩) hHeld ?_
    rotate_left
    · (intro w hS; go_simp; try with_reducible rfl)
    try simp only [Act.put, List.setIfInBounds_toArray, List.set_cons_zero, List.set_cons_succ]
    refine wpAnyH_take (i := 1) (oi := ({ dst := some 22, op := Op.load 3 (Operand.tmp 21), type := 3, pos := _, after := #[{ on := 0, ground := Ground.data }], guard := none } : Oper))  rfl (by kernel_rfl) (by kernel_rfl) (by kernel_rfl) (fun _ _ _ h => h) (yields_ld rfl rfl rfl (fun w hS => load_int (C1.below hS C1.lt).facts.2.2.2.1)) hHeld ?_
    try simp only [Act.put, List.setIfInBounds_toArray, List.set_cons_zero, List.set_cons_succ]
    refine wpAnyH_take (i := 4) (oi := ({ dst := some 25, op := Op.fieldAddr 23 (Operand.tmp 1) 1, type := 0, pos := _, after := #[], guard := none } : Oper)) (v := ?_) rfl (by kernel_rfl) (by kernel_rfl) (by kernel_rfl) (fun _ _ _ h => h) (Or.inl ⟨by rfl, ?_⟩) hHeld ?_
    rotate_left
    · (intro w hS; go_simp; try with_reducible rfl)
    try simp only [Act.put, List.setIfInBounds_toArray, List.set_cons_zero, List.set_cons_succ]
    refine wpAnyH_take (i := 5) (oi := ({ dst := some 26, op := Op.load 3 (Operand.tmp 25), type := 3, pos := _, after := #[{ on := 4, ground := Ground.data }], guard := none } : Oper))  rfl (by kernel_rfl) (by kernel_rfl) (by kernel_rfl) (fun _ _ _ h => h) (yields_ld rfl rfl rfl (fun w hS => load_int (C1.below hS C1.lt).facts.2.1)) hHeld ?_
    try simp only [Act.put, List.setIfInBounds_toArray, List.set_cons_zero, List.set_cons_succ]
    refine wpAnyH_take (i := 7) (oi := ({ dst := some 28, op := Op.fieldAddr 23 (Operand.tmp 1) 4, type := 0, pos := _, after := #[], guard := none } : Oper)) (v := ?_) rfl (by kernel_rfl) (by kernel_rfl) (by kernel_rfl) (fun _ _ _ h => h) (Or.inl ⟨by rfl, ?_⟩) hHeld ?_
    rotate_left
    · (intro w hS; go_simp; try with_reducible rfl)
    try simp only [Act.put, List.setIfInBounds_toArray, List.set_cons_zero, List.set_cons_succ]
    refine wpAnyH_take (i := 8) (oi := ({ dst := some 29, op := Op.load 3 (Operand.tmp 28), type := 3, pos := _, after := #[{ on := 7, ground := Ground.data }], guard := none } : Oper))  rfl (by kernel_rfl) (by kernel_rfl) (by kernel_rfl) (fun _ _ _ h => h) (yields_ld rfl rfl rfl (fun w hS => load_int (C1.below hS C1.lt).facts.2.2.2.2.1)) hHeld ?_
    try simp only [Act.put, List.setIfInBounds_toArray, List.set_cons_zero, List.set_cons_succ]
    refine wpAnyH_take (i := 11) (oi := ({ dst := some 32, op := Op.fieldAddr 23 (Operand.tmp 1) 4, type := 0, pos := _, after := #[], guard := none } : Oper)) (v := ?_) rfl (by kernel_rfl) (by kernel_rfl) (by kernel_rfl) (fun _ _ _ h => h) (Or.inl ⟨by rfl, ?_⟩) hHeld ?_
    rotate_left
    · (intro w hS; go_simp; try with_reducible rfl)
    try simp only [Act.put, List.setIfInBounds_toArray, List.set_cons_zero, List.set_cons_succ]
    refine wpAnyH_take (i := 12) (oi := ({ dst := some 33, op := Op.load 3 (Operand.tmp 32), type := 3, pos := _, after := #[{ on := 11, ground := Ground.data }], guard := none } : Oper))  rfl (by kernel_rfl) (by kernel_rfl) (by kernel_rfl) (fun _ _ _ h => h) (yields_ld rfl rfl rfl (fun w hS => load_int (C1.below hS C1.lt).facts.2.2.2.2.1)) hHeld ?_
    try simp only [Act.put, List.setIfInBounds_toArray, List.set_cons_zero, List.set_cons_succ]
    refine wpAnyH_take (i := 13) (oi := ({ dst := some 34, op := Op.binOp BinOp.add 3 (Operand.tmp 33) (Operand.const (Value.int IntKind.i64 4096)) 3, type := 3, pos := _, after := #[{ on := 12, ground := Ground.data }], guard := none } : Oper)) (v := ?_) rfl (by kernel_rfl) (by kernel_rfl) (by kernel_rfl) (fun _ _ _ h => h) (Or.inl ⟨by rfl, ?_⟩) hHeld ?_
    rotate_left
    · (intro w hS; go_simp; try with_reducible rfl)
    try simp only [Act.put, List.setIfInBounds_toArray, List.set_cons_zero, List.set_cons_succ]
    rw [W4.out]
    refine wpAnyH_ready (rs := [2]) (by kernel_rfl) (by simp) ?_
    refine AllReadyH.cons (o := ({ dst := some 23, op := Op.call { callee := Callee.value (Operand.func 14), args := #[Operand.tmp 22], argTypes := #[3] }, type := 3, pos := _, after := #[{ on := 1, ground := Ground.data }], guard := none } : Oper)) rfl (fun K hK => ?_) AllReadyH.nil
    refine step_call (refper_calls w _) (enters_of Try.func14 (by kernel_rfl) rfl) _ _ rfl rfl rfl ?_
    rintro x w5 ⟨rfl, rfl⟩
    rw [HU.out]
    refine ⟨_, rfl, hK.out _ _ hHeld (fun hHeld => ?_)⟩
    clear hK K
    try simp only [Act.put, List.setIfInBounds_toArray, List.set_cons_zero, List.set_cons_succ]
    refine wpAnyH_take (i := 3) (oi := ({ dst := some 24, op := Op.binOp BinOp.mul 3 (Operand.tmp 23) (Operand.const (Value.int IntKind.i64 4096)) 3, type := 3, pos := _, after := #[{ on := 2, ground := Ground.data }], guard := none } : Oper)) (v := ?_) rfl (by kernel_rfl) (by kernel_rfl) (by kernel_rfl) (fun _ _ _ h => h) (Or.inl ⟨by rfl, ?_⟩) hHeld ?_
    rotate_left
    · (intro w hS; go_simp; try with_reducible rfl)
    try simp only [Act.put, List.setIfInBounds_toArray, List.set_cons_zero, List.set_cons_succ]
    rw [W1.out]
    refine wpAnyH_ready (rs := [6]) (by kernel_rfl) (by simp) ?_
    refine AllReadyH.cons (o := ({ dst := some 27, op := Op.call { callee := Callee.value (Operand.func 14), args := #[Operand.tmp 26], argTypes := #[3] }, type := 3, pos := _, after := #[{ on := 5, ground := Ground.data }, { on := 2, ground := Ground.chain }], guard := none } : Oper)) rfl (fun K hK => ?_) AllReadyH.nil
    refine step_call (refper_calls p _) (enters_of Try.func14 (by kernel_rfl) rfl) _ _ rfl rfl rfl ?_
    rintro x w6 ⟨rfl, rfl⟩
    rw [HV.out]
    refine ⟨_, rfl, hK.out _ _ hHeld (fun hHeld => ?_)⟩
    clear hK K
    try simp only [Act.put, List.setIfInBounds_toArray, List.set_cons_zero, List.set_cons_succ]
    refine wpAnyH_take (i := 9) (oi := ({ dst := some 30, op := Op.binOp BinOp.mul 3 (Operand.tmp 27) (Operand.tmp 29) 3, type := 3, pos := _, after := #[{ on := 6, ground := Ground.data }, { on := 8, ground := Ground.data }], guard := none } : Oper)) (v := ?_) rfl (by kernel_rfl) (by kernel_rfl) (by kernel_rfl) (fun _ _ _ h => h) (Or.inl ⟨by rfl, ?_⟩) hHeld ?_
    rotate_left
    · (intro w hS; go_simp; try with_reducible rfl)
    try simp only [Act.put, List.setIfInBounds_toArray, List.set_cons_zero, List.set_cons_succ]
    rw [W2.out]
    refine wpAnyH_take (i := 10) (oi := ({ dst := some 31, op := Op.binOp BinOp.add 3 (Operand.tmp 24) (Operand.tmp 30) 3, type := 3, pos := _, after := #[{ on := 3, ground := Ground.data }, { on := 9, ground := Ground.data }], guard := none } : Oper)) (v := ?_) rfl (by kernel_rfl) (by kernel_rfl) (by kernel_rfl) (fun _ _ _ h => h) (Or.inl ⟨by rfl, ?_⟩) hHeld ?_
    rotate_left
    · (intro w hS; go_simp; try with_reducible rfl)
    try simp only [Act.put, List.setIfInBounds_toArray, List.set_cons_zero, List.set_cons_succ]
    rw [W3.out]
    refine wpAnyH_ready (rs := [14]) (by kernel_rfl) (by simp) ?_
    refine AllReadyH.cons (o := ({ dst := some 35, op := Op.call { callee := Callee.value (Operand.func 20), args := #[Operand.tmp 31, Operand.tmp 34], argTypes := #[3, 3] }, type := 3, pos := _, after := #[{ on := 10, ground := Ground.data }, { on := 13, ground := Ground.data }, { on := 6, ground := Ground.chain }], guard := none } : Oper)) rfl (fun K hK => ?_) AllReadyH.nil
    refine step_call (HB.out _) (enters_of Try.func20 (by kernel_rfl) rfl) _ _ rfl rfl rfl ?_
    rintro x w7 ⟨rfl, rfl⟩
    skip
    refine ⟨_, rfl, hK.out _ _ hHeld (fun hHeld => ?_)⟩
    clear hK K
    try simp only [Act.put, List.setIfInBounds_toArray, List.set_cons_zero, List.set_cons_succ]
    refine wpAnyH_take (i := 15) (oi := ({ dst := some 2, op := Op.assign (Operand.tmp 35), type := 3, pos := _, after := #[{ on := 14, ground := Ground.data }, { on := 14, ground := Ground.chain }, { on := 0, ground := Ground.phase }, { on := 1, ground := Ground.phase }, { on := 2, ground := Ground.phase }, { on := 3, ground := Ground.phase }, { on := 4, ground := Ground.phase }, { on := 5, ground := Ground.phase }, { on := 6, ground := Ground.phase }, { on := 7, ground := Ground.phase }, { on := 8, ground := Ground.phase }, { on := 9, ground := Ground.phase }, { on := 10, ground := Ground.phase }, { on := 11, ground := Ground.phase }, { on := 12, ground := Ground.phase }, { on := 13, ground := Ground.phase }, { on := 14, ground := Ground.phase }], guard := none } : Oper)) (v := ?_) rfl (by kernel_rfl) (by kernel_rfl) (by kernel_rfl) (fun _ _ _ h => h) (Or.inl ⟨by rfl, ?_⟩) hHeld ?_
    rotate_left
    · (intro w hS; go_simp; try with_reducible rfl)
    try simp only [Act.put, List.setIfInBounds_toArray, List.set_cons_zero, List.set_cons_succ]
    refine wpAnyH_done (by kernel_rfl) ?_ _
    go_wp2_with fail
    go_ret
    exact ⟨rfl, b2.trans (hHeld.mono b2.size)⟩

theorem refneed_calls (k p e w b l : Int) (W : World) : Calls Try.prog 12 #[cV k p e w b l] W fun x W' => x = .returned (.int .i64 (needN k p e w b l)) ∧ Below W.heap.size W W' := by
  cases h : okB k p e w b l
  · rw [needN_no h]; exact refneed_no k p e w b l h W
  · have hk := (okB_iff.1 h).1
    by_cases h1 : k = 1
    · subst h1; rw [needN_one h]; exact refneed_cbr p e w b l h W
    · by_cases h5 : k = 5
      · subst h5; rw [needN_five h]; exact refneed_abr p e w b l h W
      · cases hv : vbrB k
        · rw [needN_other h1 h5 hv]; rw [vbrB_not] at hv; exact refneed_zero k p e w b l h (by omega) W
        · rw [needN_vbr h hv]; rw [vbrB_iff] at hv; exact refneed_vbr k p e w b l h (by omega) W
end Go.Proofs.Ythmcnllkngheoaa
