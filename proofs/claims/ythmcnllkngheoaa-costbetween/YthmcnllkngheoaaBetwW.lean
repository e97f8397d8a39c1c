/- Proved here: the walk of CostBetween. Conditions: as each theorem states them. -/
import Derived.Deep.DeepCutAuto
import Derived.Test.YthmcnllkngheoaaAw
namespace Go.Proofs.Ythmcnllkngheoaa
set_option linter.unusedSimpArgs false
set_option linter.unusedVariables false
open Go.RowKit Go.Shelf

theorem no_alike {k p e w b l : Int} : okB k p e w b l = false → Hid (needN k p e w b l = 0) := fun h => needN_no h

set_option maxHeartbeats 4000000 in
theorem betw_no (k p e w b l : Int) (h : okB k p e w b l = false) (W : World) :
    Calls Try.prog 4 #[cV k p e w b l] W fun e w' => e = .returned (.bool true) ∧ Below W.heap.size W w' := by
  have H : Hid (okB k p e w b l = false) := h
  have HN := no_alike h
  clear h
  have C0 := cc_new W k p e w b l
  go_enter Try.func4, Try.ntmps4
  go_wp2_with fail
  refine (awake_calls _).mono ?_
  rintro x w1 ⟨rfl, b1⟩
  have C1 := C0.below b1 C0.lt
  have B1 := below_box2 b1
  clear C0 b1
  obtain ⟨c0, c1, c2, c3, c4, c5⟩ := C1.facts
  go_wp2_with fail
  refine (need_calls k p e w b l _).mono ?_
  rintro x w2 ⟨rfl, b2⟩
  rw [HN.out]
  have C2 := C1.below b2 C1.lt
  have B2 := B1.trans (b2.mono B1.size)
  clear C1 b2 B1 c0 c1 c2 c3 c4 c5
  obtain ⟨c0, c1, c2, c3, c4, c5⟩ := C2.facts
  go_wp2_with fail
  refine (right_no H.out _).mono ?_
  rintro x w3 ⟨E, rfl, hE, b3⟩
  have B3 := B2.trans (b3.mono B2.size)
  clear B2 b3 C2 c0 c1 c2 c3 c4 c5
  rcases hE with rfl | rfl <;>
  · go_wp2
    go_ret
    exact ⟨rfl, B3⟩

set_option maxHeartbeats 4000000 in
theorem betw_plain (k p e w b l : Int) (h : okB k p e w b l = true) (hv : k < 2 ∨ 4 < k) (W : World) :
    Calls Try.prog 4 #[cV k p e w b l] W fun e w' => e = .returned (.bool true) ∧ Below W.heap.size W w' := by
  obtain ⟨n0, n1⟩ := need_le h
  obtain ⟨n, hn⟩ : ∃ n, needN k p e w b l = n := ⟨_, rfl⟩
  obtain ⟨m, hm⟩ : ∃ m, perN p = m := ⟨_, rfl⟩
  rw [hn] at n0 n1
  rw [hm] at n1
  have HN : Hid (needN k p e w b l = n) := hn
  have HM : Hid (perN p = m) := hm
  have H : Hid (okB k p e w b l = true) := h
  clear h hn hm
  have C0 := cc_new W k p e w b l
  go_enter Try.func4, Try.ntmps4
  go_wp2_with fail
  refine (awake_calls _).mono ?_
  rintro x w1 ⟨rfl, b1⟩
  have C1 := C0.below b1 C0.lt
  have B1 := below_box2 b1
  clear C0 b1
  obtain ⟨c0, c1, c2, c3, c4, c5⟩ := C1.facts
  go_wp2_with fail
  refine (need_calls k p e w b l _).mono ?_
  rintro x w2 ⟨rfl, b2⟩
  rw [HN.out]
  have C2 := C1.below b2 C1.lt
  have B2 := B1.trans (b2.mono B1.size)
  clear C1 b2 B1 c0 c1 c2 c3 c4 c5
  obtain ⟨c0, c1, c2, c3, c4, c5⟩ := C2.facts
  go_wp2_with fail
  refine (right_ok H.out _).mono ?_
  rintro x w3 ⟨rfl, b3⟩
  have C3 := C2.below b3 C2.lt
  have B3 := B2.trans (b3.mono B2.size)
  clear B2 b3 C2 c0 c1 c2 c3 c4 c5
  obtain ⟨c0, c1, c2, c3, c4, c5⟩ := C3.facts
  go_wp2_with fail
  refine (per_calls p _).mono ?_
  rintro x w4 ⟨rfl, rfl⟩
  rw [HM.out]
  rcases hv with hv | hv
  · go_wp2
    go_ret
    exact ⟨rfl, B3⟩
  · have hv2 : ¬ k < 2 := by omega
    go_wp2
    go_ret
    exact ⟨rfl, B3⟩

set_option maxHeartbeats 8000000 in
theorem betw_vbr (k p e w b l : Int) (h : okB k p e w b l = true) (k2 : 2 ≤ k) (k4 : k ≤ 4) (W : World) :
    Calls Try.prog 4 #[cV k p e w b l] W fun e w' => e = .returned (.bool true) ∧ Below W.heap.size W w' := by
  have hv : vbrB k = true := by rw [vbrB_iff]; omega
  have hp := ok_pers h hv
  have ho := ok_vbr h hv
  have h2 : okB k p e w 0 l = true := by
    have hh := okB_iff.1 h
    rw [canB_vbr hv] at hh
    rw [okB_iff, canB_vbr hv]
    omega
  have hz : needN k p e w 0 l = perN w := by rw [needN_vbr h2 hv]; exact betN_zero hp.1 (by omega)
  obtain ⟨n0, n1⟩ := need_le h
  have n2 : perN w ≤ needN k p e w b l := by rw [needN_vbr h hv]; exact (betN_bounds hp.1 hp.2.1 ho.2.2.1).1
  obtain ⟨n, hn⟩ : ∃ n, needN k p e w b l = n := ⟨_, rfl⟩
  obtain ⟨m, hm⟩ : ∃ m, perN p = m := ⟨_, rfl⟩
  obtain ⟨u, hu⟩ : ∃ u, perN w = u := ⟨_, rfl⟩
  rw [hn] at n0 n1 n2
  rw [hm] at n1
  rw [hu] at n2 hz
  have HN : Hid (needN k p e w b l = n) := hn
  have HZ : Hid (needN k p e w 0 l = u) := hz
  have HM : Hid (perN p = m) := hm
  have HU : Hid (perN w = u) := hu
  have H : Hid (okB k p e w b l = true) := h
  have HG : Hid (decide (u ≤ n) = true) := decide_eq_true n2
  clear h hn hm hz hu h2 ho hp hv n2
  have C0 := cc_new W k p e w b l
  go_enter Try.func4, Try.ntmps4
  go_wp2_with fail
  refine (awake_calls _).mono ?_
  rintro x w1 ⟨rfl, b1⟩
  have C1 := C0.below b1 C0.lt
  have B1 := below_box2 b1
  clear C0 b1
  obtain ⟨c0, c1, c2, c3, c4, c5⟩ := C1.facts
  go_wp2_with fail
  refine (need_calls _ p e w b l _).mono ?_
  rintro x w2 ⟨rfl, b2⟩
  rw [HN.out]
  have C2 := C1.below b2 C1.lt
  have B2 := B1.trans (b2.mono B1.size)
  clear C1 b2 B1 c0 c1 c2 c3 c4 c5
  obtain ⟨c0, c1, c2, c3, c4, c5⟩ := C2.facts
  go_wp2_with fail
  refine (right_ok H.out _).mono ?_
  rintro x w3 ⟨rfl, b3⟩
  have C3 := C2.below b3 C2.lt
  have B3 := B2.trans (b3.mono B2.size)
  clear B2 b3 C2 c0 c1 c2 c3 c4 c5
  obtain ⟨c0, c1, c2, c3, c4, c5⟩ := C3.facts
  go_wp2_with fail
  refine (per_calls p _).mono ?_
  rintro x w4 ⟨rfl, rfl⟩
  rw [HM.out]
  go_wp2_with fail
  have D0 := cc_new w4 k p e w 0 l
  have C4 := C3.below (below_box w4 (.cells #[.int .i64 k, .int .i64 p, .int .i64 e, .int .i64 w, .int .i64 0, .int .i64 l] 23)) C3.lt
  have B4 := B3.trans ((below_box w4 (.cells #[.int .i64 k, .int .i64 p, .int .i64 e, .int .i64 w, .int .i64 0, .int .i64 l] 23)).mono B3.size)
  generalize w4.alloc (.cells #[.int .i64 k, .int .i64 p, .int .i64 e, .int .i64 w, .int .i64 0, .int .i64 l] 23) = w5 at *
  clear C3 B3 c0 c1 c2 c3 c4 c5
  refine wp_region_held_drew (S := (fun w' => Below w5.heap.size w5 w')) (by kernel_rfl) (Below.refl _ w5).drew (fun hHeld => ?_)
  refine wpAnyH_take (i := 0) (oi := ({ dst := some 33, op := Op.move (Operand.tmp 3), type := 3, pos := _, after := #[], guard := none } : Oper)) (v := ?_) rfl (by kernel_rfl) (by kernel_rfl) (by kernel_rfl) (fun _ _ _ h => h) (Or.inl ⟨by rfl, ?_⟩) hHeld ?_
  rotate_left
  · (intro w hS; go_simp; try with_reducible rfl)
  try simp only [Act.put, List.setIfInBounds_toArray, List.set_cons_zero, List.set_cons_succ]
  refine wpAnyH_take (i := 1) (oi := ({ dst := some 34, op := Op.fieldAddr 23 (Operand.tmp 1) 3, type := 0, pos := _, after := #[], guard := none } : Oper)) (v := ?_) rfl (by kernel_rfl) (by kernel_rfl) (by kernel_rfl) (fun _ _ _ h => h) (Or.inl ⟨by rfl, ?_⟩) hHeld ?_
  rotate_left
  · (intro w hS; go_simp; try with_reducible rfl)
  try simp only [Act.put, List.setIfInBounds_toArray, List.set_cons_zero, List.set_cons_succ]
  refine wpAnyH_take (i := 2) (oi := ({ dst := some 35, op := Op.load 3 (Operand.tmp 34), type := 3, pos := _, after := #[{ on := 1, ground := Ground.data }], guard := none } : Oper))  rfl (by kernel_rfl) (by kernel_rfl) (by kernel_rfl) (fun _ _ _ h => h) (yields_ld rfl rfl rfl (fun w hS => load_int (C4.below hS C4.lt).facts.2.2.2.1)) hHeld ?_
  try simp only [Act.put, List.setIfInBounds_toArray, List.set_cons_zero, List.set_cons_succ]
  refine wpAnyH_ready (rs := [3]) (by kernel_rfl) (by simp) ?_
  refine AllReadyH.cons (o := ({ dst := some 36, op := Op.call { callee := Callee.value (Operand.func 13), args := #[Operand.tmp 35], argTypes := #[3] }, type := 3, pos := _, after := #[{ on := 2, ground := Ground.data }], guard := none } : Oper)) rfl (fun K hK => ?_) AllReadyH.nil
  refine step_call (per_calls w _) (enters_of Try.func13 (by kernel_rfl) rfl) _ _ rfl rfl rfl ?_
  rintro x w6 ⟨rfl, rfl⟩
  rw [HU.out]
  refine ⟨_, rfl, hK.out _ _ hHeld (fun hHeld => ?_)⟩
  clear hK K
  try simp only [Act.put, List.setIfInBounds_toArray, List.set_cons_zero, List.set_cons_succ]
  refine wpAnyH_take (i := 4) (oi := ({ dst := some 37, op := Op.binOp BinOp.geq 3 (Operand.tmp 33) (Operand.tmp 36) 3, type := 4, pos := _, after := #[{ on := 0, ground := Ground.data }, { on := 3, ground := Ground.data }], guard := none } : Oper)) (v := ?_) rfl (by kernel_rfl) (by kernel_rfl) (by kernel_rfl) (fun _ _ _ h => h) (Or.inl ⟨by rfl, ?_⟩) hHeld ?_
  rotate_left
  · (intro w hS; go_simp; try with_reducible rfl)
  try simp only [Act.put, List.setIfInBounds_toArray, List.set_cons_zero, List.set_cons_succ]
  rw [HG.out]
  refine wpAnyH_take (i := 5) (oi := ({ dst := some 38, op := Op.move (Operand.tmp 37), type := 4, pos := _, after := #[{ on := 4, ground := Ground.data }, { on := 3, ground := Ground.chain }], guard := none } : Oper)) (v := ?_) rfl (by kernel_rfl) (by kernel_rfl) (by kernel_rfl) (fun _ _ _ h => h) (Or.inl ⟨by rfl, ?_⟩) hHeld ?_
  rotate_left
  · (intro w hS; go_simp; try with_reducible rfl)
  try simp only [Act.put, List.setIfInBounds_toArray, List.set_cons_zero, List.set_cons_succ]
  refine wpAnyH_take (i := 6) (oi := ({ dst := some 39, op := Op.load 23 (Operand.tmp 4), type := 23, pos := _, after := #[{ on := 5, ground := Ground.guard }], guard := some (5, true) } : Oper))  rfl (by kernel_rfl) (by kernel_rfl) (by kernel_rfl) (fun _ _ _ h => h) (yields_ld rfl rfl rfl (fun w hS => (D0.below hS D0.lt).load)) hHeld ?_
  try simp only [Act.put, List.setIfInBounds_toArray, List.set_cons_zero, List.set_cons_succ]
  refine wpAnyH_take (i := 8) (oi := ({ dst := some 41, op := Op.fieldAddr 23 (Operand.tmp 1) 3, type := 0, pos := _, after := #[{ on := 5, ground := Ground.guard }], guard := some (5, true) } : Oper)) (v := ?_) rfl (by kernel_rfl) (by kernel_rfl) (by kernel_rfl) (fun _ _ _ h => h) (Or.inl ⟨by rfl, ?_⟩) hHeld ?_
  rotate_left
  · (intro w hS; go_simp; try with_reducible rfl)
  try simp only [Act.put, List.setIfInBounds_toArray, List.set_cons_zero, List.set_cons_succ]
  refine wpAnyH_take (i := 9) (oi := ({ dst := some 42, op := Op.load 3 (Operand.tmp 41), type := 3, pos := _, after := #[{ on := 8, ground := Ground.data }, { on := 5, ground := Ground.guard }], guard := some (5, true) } : Oper))  rfl (by kernel_rfl) (by kernel_rfl) (by kernel_rfl) (fun _ _ _ h => h) (yields_ld rfl rfl rfl (fun w hS => load_int (C4.below hS C4.lt).facts.2.2.2.1)) hHeld ?_
  try simp only [Act.put, List.setIfInBounds_toArray, List.set_cons_zero, List.set_cons_succ]
  refine wpAnyH_ready (rs := [7]) (by kernel_rfl) (by simp) ?_
  refine AllReadyH.cons (o := ({ dst := some 40, op := Op.call { callee := Callee.value (Operand.func 11), args := #[Operand.tmp 39], argTypes := #[23] }, type := 3, pos := _, after := #[{ on := 6, ground := Ground.data }, { on := 5, ground := Ground.chain }, { on := 5, ground := Ground.guard }], guard := some (5, true) } : Oper)) rfl (fun K hK => ?_) AllReadyH.nil
  refine step_call (need_calls k p e w 0 l _) (enters_of Try.func11 (by kernel_rfl) rfl) _ _ rfl rfl rfl ?_
  rintro x w7 ⟨rfl, b7⟩
  rw [HZ.out]
  refine ⟨_, rfl, hK.out _ _ (hHeld.trans (b7.mono hHeld.size)) (fun hHeld => ?_)⟩
  clear hK K
  try simp only [Act.put, List.setIfInBounds_toArray, List.set_cons_zero, List.set_cons_succ]
  refine wpAnyH_ready (rs := [10]) (by kernel_rfl) (by simp) ?_
  refine AllReadyH.cons (o := ({ dst := some 43, op := Op.call { callee := Callee.value (Operand.func 13), args := #[Operand.tmp 42], argTypes := #[3] }, type := 3, pos := _, after := #[{ on := 9, ground := Ground.data }, { on := 7, ground := Ground.chain }, { on := 5, ground := Ground.guard }], guard := some (5, true) } : Oper)) rfl (fun K hK => ?_) AllReadyH.nil
  refine step_call (per_calls w _) (enters_of Try.func13 (by kernel_rfl) rfl) _ _ rfl rfl rfl ?_
  rintro x w8 ⟨rfl, rfl⟩
  rw [HU.out]
  refine ⟨_, rfl, hK.out _ _ hHeld (fun hHeld => ?_)⟩
  clear hK K
  try simp only [Act.put, List.setIfInBounds_toArray, List.set_cons_zero, List.set_cons_succ]
  refine wpAnyH_take (i := 11) (oi := ({ dst := some 44, op := Op.binOp BinOp.eql 3 (Operand.tmp 40) (Operand.tmp 43) 3, type := 4, pos := _, after := #[{ on := 7, ground := Ground.data }, { on := 10, ground := Ground.data }, { on := 5, ground := Ground.guard }], guard := some (5, true) } : Oper)) (v := ?_) rfl (by kernel_rfl) (by kernel_rfl) (by kernel_rfl) (fun _ _ _ h => h) (Or.inl ⟨by rfl, ?_⟩) hHeld ?_
  rotate_left
  · (intro w hS; go_simp; try with_reducible rfl)
  try simp only [Act.put, List.setIfInBounds_toArray, List.set_cons_zero, List.set_cons_succ]
  try simp only [beq_self_eq_true]
  refine wpAnyH_take (i := 12) (oi := ({ dst := some 45, op := Op.pick (Operand.tmp 38) (Operand.tmp 44) (Operand.const (Value.bool false)), type := 4, pos := _, after := #[{ on := 5, ground := Ground.data }, { on := 11, ground := Ground.data }], guard := none } : Oper)) (v := ?_) rfl (by kernel_rfl) (by kernel_rfl) (by kernel_rfl) (fun _ _ _ h => h) (Or.inl ⟨by rfl, ?_⟩) hHeld ?_
  rotate_left
  · (intro w hS; go_simp; try with_reducible rfl)
  try simp only [Act.put, List.setIfInBounds_toArray, List.set_cons_zero, List.set_cons_succ]
  refine wpAnyH_take (i := 13) (oi := ({ dst := some 2, op := Op.assign (Operand.tmp 45), type := 4, pos := _, after := #[{ on := 12, ground := Ground.data }, { on := 10, ground := Ground.chain }, { on := 0, ground := Ground.phase }, { on := 1, ground := Ground.phase }, { on := 2, ground := Ground.phase }, { on := 3, ground := Ground.phase }, { on := 4, ground := Ground.phase }, { on := 5, ground := Ground.phase }, { on := 6, ground := Ground.phase }, { on := 7, ground := Ground.phase }, { on := 8, ground := Ground.phase }, { on := 9, ground := Ground.phase }, { on := 10, ground := Ground.phase }, { on := 11, ground := Ground.phase }, { on := 12, ground := Ground.phase }], guard := none } : Oper)) (v := ?_) rfl (by kernel_rfl) (by kernel_rfl) (by kernel_rfl) (fun _ _ _ h => h) (Or.inl ⟨by rfl, ?_⟩) hHeld ?_
  rotate_left
  · (intro w hS; go_simp; try with_reducible rfl)
  try simp only [Act.put, List.setIfInBounds_toArray, List.set_cons_zero, List.set_cons_succ]
  refine wpAnyH_done (by kernel_rfl) ?_ _
  go_wp2_with fail
  go_ret
  exact ⟨rfl, B4.trans (hHeld.mono B4.size)⟩

theorem betw_walk (k p e w b l : Int) (W : World) :
    Calls Try.prog 4 #[cV k p e w b l] W fun e w' => e = .returned (.bool true) ∧ Below W.heap.size W w' := by
  cases h : okB k p e w b l
  · exact betw_no k p e w b l h W
  · by_cases hk : 2 ≤ k ∧ k ≤ 4
    · exact betw_vbr k p e w b l h hk.1 hk.2 W
    · exact betw_plain k p e w b l h (by omega) W
end Go.Proofs.Ythmcnllkngheoaa
