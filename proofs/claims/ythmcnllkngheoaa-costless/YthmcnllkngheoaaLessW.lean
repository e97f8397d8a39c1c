/- Proved here: the walk of CostLess. Conditions: as each theorem states them. -/
import Derived.Test.YthmcnllkngheoaaAw
namespace Go.Proofs.Ythmcnllkngheoaa
set_option linter.unusedSimpArgs false
set_option linter.unusedVariables false
open Go.RowKit Go.Shelf

set_option maxHeartbeats 4000000 in
theorem less_walk (k p e w b l k2 p2 e2 w2 b2 l2 : Int) (W : World) :
    Calls Try.prog 5 #[cV k p e w b l, cV k2 p2 e2 w2 b2 l2] W fun e w' => e = .returned (.bool true) ∧ Below W.heap.size W w' := by
  have C0 := cc_new W k p e w b l
  have D0 := cc_new (W.alloc (.cells #[.int .i64 k, .int .i64 p, .int .i64 e, .int .i64 w, .int .i64 b, .int .i64 l] 23)) k2 p2 e2 w2 b2 l2
  have A0 := C0.below (below_box _ (.cells #[.int .i64 k2, .int .i64 p2, .int .i64 e2, .int .i64 w2, .int .i64 b2, .int .i64 l2] 23)) C0.lt
  have B0 := (below_box W (.cells #[.int .i64 k, .int .i64 p, .int .i64 e, .int .i64 w, .int .i64 b, .int .i64 l] 23)).trans ((below_box (W.alloc (.cells #[.int .i64 k, .int .i64 p, .int .i64 e, .int .i64 w, .int .i64 b, .int .i64 l] 23)) (.cells #[.int .i64 k2, .int .i64 p2, .int .i64 e2, .int .i64 w2, .int .i64 b2, .int .i64 l2] 23)).mono (by simp))
  rw [size_box] at D0
  have HA : Hid (CC _ _ k p e w b l) := A0
  have HD : Hid (CC _ _ k2 p2 e2 w2 b2 l2) := D0
  have HB : Hid (Below _ W _) := B0
  clear C0 D0 A0 B0
  have hfew := @need_few k p e w b l k2 p2 e2 w2 b2 l2
  obtain ⟨F, hF⟩ : ∃ F, fewB k p e w b l k2 p2 e2 w2 b2 l2 = F := ⟨_, rfl⟩
  obtain ⟨n, hn⟩ : ∃ n, needN k p e w b l = n := ⟨_, rfl⟩
  obtain ⟨m, hm⟩ : ∃ m, needN k2 p2 e2 w2 b2 l2 = m := ⟨_, rfl⟩
  rw [hF, hn, hm] at hfew
  have HF : Hid (fewB k p e w b l k2 p2 e2 w2 b2 l2 = F) := hF
  have HN : Hid (needN k p e w b l = n) := hn
  have HM : Hid (needN k2 p2 e2 w2 b2 l2 = m) := hm
  clear hF hn hm
  go_enter Try.func5, Try.ntmps5
  go_wp2_with fail
  refine (awake_calls _).mono ?_
  rintro x w1 ⟨rfl, b1⟩
  have C1 := HA.out.below b1 HA.out.lt
  have D1 := HD.out.below b1 HD.out.lt
  have B1 := HB.out.trans (b1.mono HB.out.size)
  clear HA HD HB b1
  go_wp2_with fail
  cases F
  · clear hfew
    refine wp_region_held_drew (S := (fun w' => Below w1.heap.size w1 w')) (by kernel_rfl) (Below.refl _ w1).drew (fun hHeld => ?_)
    refine wpAnyH_take (i := 0) (oi := ({ dst := some 7, op := Op.load 23 (Operand.tmp 2), type := 23, pos := _, after := #[], guard := none } : Oper))  rfl (by kernel_rfl) (by kernel_rfl) (by kernel_rfl) (fun _ _ _ h => h) (yields_ld rfl rfl rfl (fun w hS => (C1.below hS C1.lt).load)) hHeld ?_
    try simp only [Act.put, List.setIfInBounds_toArray, List.set_cons_zero, List.set_cons_succ]
    refine wpAnyH_take (i := 1) (oi := ({ dst := some 8, op := Op.load 23 (Operand.tmp 3), type := 23, pos := _, after := #[], guard := none } : Oper))  rfl (by kernel_rfl) (by kernel_rfl) (by kernel_rfl) (fun _ _ _ h => h) (yields_ld rfl rfl rfl (fun w hS => (D1.below hS D1.lt).load)) hHeld ?_
    try simp only [Act.put, List.setIfInBounds_toArray, List.set_cons_zero, List.set_cons_succ]
    refine wpAnyH_ready (rs := [2]) (by kernel_rfl) (by simp) ?_
    refine AllReadyH.cons (o := ({ dst := some 9, op := Op.call { callee := Callee.value (Operand.func 16), args := #[Operand.tmp 7, Operand.tmp 8], argTypes := #[23, 23] }, type := 4, pos := _, after := #[{ on := 0, ground := Ground.data }, { on := 1, ground := Ground.data }], guard := none } : Oper)) rfl (fun K hK => ?_) AllReadyH.nil
    refine step_call (fewer_calls k p e w b l k2 p2 e2 w2 b2 l2 _) (enters_of Try.func16 (by kernel_rfl) rfl) _ _ rfl rfl rfl ?_
    rintro x w3 ⟨rfl, b3⟩
    rw [HF.out]
    refine ⟨_, rfl, hK.out _ _ (hHeld.trans (b3.mono hHeld.size)) (fun hHeld => ?_)⟩
    clear hK K
    try simp only [Act.put, List.setIfInBounds_toArray, List.set_cons_zero, List.set_cons_succ]
    refine wpAnyH_take (i := 3) (oi := ({ dst := some 10, op := Op.unOp UnOp.not 4 (Operand.tmp 9), type := 4, pos := _, after := #[{ on := 2, ground := Ground.data }], guard := none } : Oper)) (v := ?_) rfl (by kernel_rfl) (by kernel_rfl) (by kernel_rfl) (fun _ _ _ h => h) (Or.inl ⟨by rfl, ?_⟩) hHeld ?_
    rotate_left
    · (intro w hS; go_simp; try with_reducible rfl)
    try simp only [Act.put, List.setIfInBounds_toArray, List.set_cons_zero, List.set_cons_succ]
    refine wpAnyH_take (i := 4) (oi := ({ dst := some 11, op := Op.move (Operand.tmp 10), type := 4, pos := _, after := #[{ on := 3, ground := Ground.data }, { on := 2, ground := Ground.chain }], guard := none } : Oper)) (v := ?_) rfl (by kernel_rfl) (by kernel_rfl) (by kernel_rfl) (fun _ _ _ h => h) (Or.inl ⟨by rfl, ?_⟩) hHeld ?_
    rotate_left
    · (intro w hS; go_simp; try with_reducible rfl)
    try simp only [Act.put, List.setIfInBounds_toArray, List.set_cons_zero, List.set_cons_succ]
    refine wpAnyH_take (i := 5) (oi := ({ dst := some 12, op := Op.load 23 (Operand.tmp 2), type := 23, pos := _, after := #[{ on := 4, ground := Ground.guard }], guard := some (4, false) } : Oper)) (v := undef) rfl (by kernel_rfl) (by kernel_rfl) (by kernel_rfl) (fun _ _ _ h => h) (Or.inr ⟨by rfl, rfl⟩) hHeld ?_
    try simp only [Act.put, List.setIfInBounds_toArray, List.set_cons_zero, List.set_cons_succ]
    refine wpAnyH_take (i := 6) (oi := ({ dst := some 13, op := Op.call { callee := Callee.value (Operand.func 11), args := #[Operand.tmp 12], argTypes := #[23] }, type := 3, pos := _, after := #[{ on := 5, ground := Ground.data }, { on := 4, ground := Ground.chain }, { on := 4, ground := Ground.guard }], guard := some (4, false) } : Oper)) (v := undef) rfl (by kernel_rfl) (by kernel_rfl) (by kernel_rfl) (fun _ _ _ h => h) (Or.inr ⟨by rfl, rfl⟩) hHeld ?_
    try simp only [Act.put, List.setIfInBounds_toArray, List.set_cons_zero, List.set_cons_succ]
    refine wpAnyH_take (i := 7) (oi := ({ dst := some 14, op := Op.load 23 (Operand.tmp 3), type := 23, pos := _, after := #[{ on := 4, ground := Ground.guard }], guard := some (4, false) } : Oper)) (v := undef) rfl (by kernel_rfl) (by kernel_rfl) (by kernel_rfl) (fun _ _ _ h => h) (Or.inr ⟨by rfl, rfl⟩) hHeld ?_
    try simp only [Act.put, List.setIfInBounds_toArray, List.set_cons_zero, List.set_cons_succ]
    refine wpAnyH_take (i := 8) (oi := ({ dst := some 15, op := Op.call { callee := Callee.value (Operand.func 11), args := #[Operand.tmp 14], argTypes := #[23] }, type := 3, pos := _, after := #[{ on := 7, ground := Ground.data }, { on := 6, ground := Ground.chain }, { on := 4, ground := Ground.guard }], guard := some (4, false) } : Oper)) (v := undef) rfl (by kernel_rfl) (by kernel_rfl) (by kernel_rfl) (fun _ _ _ h => h) (Or.inr ⟨by rfl, rfl⟩) hHeld ?_
    try simp only [Act.put, List.setIfInBounds_toArray, List.set_cons_zero, List.set_cons_succ]
    refine wpAnyH_take (i := 9) (oi := ({ dst := some 16, op := Op.binOp BinOp.leq 3 (Operand.tmp 13) (Operand.tmp 15) 3, type := 4, pos := _, after := #[{ on := 6, ground := Ground.data }, { on := 8, ground := Ground.data }, { on := 4, ground := Ground.guard }], guard := some (4, false) } : Oper)) (v := undef) rfl (by kernel_rfl) (by kernel_rfl) (by kernel_rfl) (fun _ _ _ h => h) (Or.inr ⟨by rfl, rfl⟩) hHeld ?_
    try simp only [Act.put, List.setIfInBounds_toArray, List.set_cons_zero, List.set_cons_succ]
    refine wpAnyH_take (i := 10) (oi := ({ dst := some 17, op := Op.pick (Operand.tmp 11) (Operand.const (Value.bool true)) (Operand.tmp 16), type := 4, pos := _, after := #[{ on := 4, ground := Ground.data }, { on := 9, ground := Ground.data }], guard := none } : Oper)) (v := ?_) rfl (by kernel_rfl) (by kernel_rfl) (by kernel_rfl) (fun _ _ _ h => h) (Or.inl ⟨by rfl, ?_⟩) hHeld ?_
    rotate_left
    · (intro w hS; go_simp; try with_reducible rfl)
    try simp only [Act.put, List.setIfInBounds_toArray, List.set_cons_zero, List.set_cons_succ]
    refine wpAnyH_take (i := 11) (oi := ({ dst := some 4, op := Op.assign (Operand.tmp 17), type := 4, pos := _, after := #[{ on := 10, ground := Ground.data }, { on := 8, ground := Ground.chain }, { on := 0, ground := Ground.phase }, { on := 1, ground := Ground.phase }, { on := 2, ground := Ground.phase }, { on := 3, ground := Ground.phase }, { on := 4, ground := Ground.phase }, { on := 5, ground := Ground.phase }, { on := 6, ground := Ground.phase }, { on := 7, ground := Ground.phase }, { on := 8, ground := Ground.phase }, { on := 9, ground := Ground.phase }, { on := 10, ground := Ground.phase }], guard := none } : Oper)) (v := ?_) rfl (by kernel_rfl) (by kernel_rfl) (by kernel_rfl) (fun _ _ _ h => h) (Or.inl ⟨by rfl, ?_⟩) hHeld ?_
    rotate_left
    · (intro w hS; go_simp; try with_reducible rfl)
    try simp only [Act.put, List.setIfInBounds_toArray, List.set_cons_zero, List.set_cons_succ]
    refine wpAnyH_done (by kernel_rfl) ?_ _
    go_wp2_with fail
    go_ret
    exact ⟨rfl, B1.trans (hHeld.mono B1.size)⟩
  · have hle : decide (n ≤ m) = true := decide_eq_true (hfew rfl)
    have HL : Hid (decide (n ≤ m) = true) := hle
    clear hfew hle
    refine wp_region_held_drew (S := (fun w' => Below w1.heap.size w1 w')) (by kernel_rfl) (Below.refl _ w1).drew (fun hHeld => ?_)
    refine wpAnyH_take (i := 0) (oi := ({ dst := some 7, op := Op.load 23 (Operand.tmp 2), type := 23, pos := _, after := #[], guard := none } : Oper))  rfl (by kernel_rfl) (by kernel_rfl) (by kernel_rfl) (fun _ _ _ h => h) (yields_ld rfl rfl rfl (fun w hS => (C1.below hS C1.lt).load)) hHeld ?_
    try simp only [Act.put, List.setIfInBounds_toArray, List.set_cons_zero, List.set_cons_succ]
    refine wpAnyH_take (i := 1) (oi := ({ dst := some 8, op := Op.load 23 (Operand.tmp 3), type := 23, pos := _, after := #[], guard := none } : Oper))  rfl (by kernel_rfl) (by kernel_rfl) (by kernel_rfl) (fun _ _ _ h => h) (yields_ld rfl rfl rfl (fun w hS => (D1.below hS D1.lt).load)) hHeld ?_
    try simp only [Act.put, List.setIfInBounds_toArray, List.set_cons_zero, List.set_cons_succ]
    refine wpAnyH_ready (rs := [2]) (by kernel_rfl) (by simp) ?_
    refine AllReadyH.cons (o := ({ dst := some 9, op := Op.call { callee := Callee.value (Operand.func 16), args := #[Operand.tmp 7, Operand.tmp 8], argTypes := #[23, 23] }, type := 4, pos := _, after := #[{ on := 0, ground := Ground.data }, { on := 1, ground := Ground.data }], guard := none } : Oper)) rfl (fun K hK => ?_) AllReadyH.nil
    refine step_call (fewer_calls k p e w b l k2 p2 e2 w2 b2 l2 _) (enters_of Try.func16 (by kernel_rfl) rfl) _ _ rfl rfl rfl ?_
    rintro x w3 ⟨rfl, b3⟩
    rw [HF.out]
    refine ⟨_, rfl, hK.out _ _ (hHeld.trans (b3.mono hHeld.size)) (fun hHeld => ?_)⟩
    clear hK K
    try simp only [Act.put, List.setIfInBounds_toArray, List.set_cons_zero, List.set_cons_succ]
    refine wpAnyH_take (i := 3) (oi := ({ dst := some 10, op := Op.unOp UnOp.not 4 (Operand.tmp 9), type := 4, pos := _, after := #[{ on := 2, ground := Ground.data }], guard := none } : Oper)) (v := ?_) rfl (by kernel_rfl) (by kernel_rfl) (by kernel_rfl) (fun _ _ _ h => h) (Or.inl ⟨by rfl, ?_⟩) hHeld ?_
    rotate_left
    · (intro w hS; go_simp; try with_reducible rfl)
    try simp only [Act.put, List.setIfInBounds_toArray, List.set_cons_zero, List.set_cons_succ]
    refine wpAnyH_take (i := 4) (oi := ({ dst := some 11, op := Op.move (Operand.tmp 10), type := 4, pos := _, after := #[{ on := 3, ground := Ground.data }, { on := 2, ground := Ground.chain }], guard := none } : Oper)) (v := ?_) rfl (by kernel_rfl) (by kernel_rfl) (by kernel_rfl) (fun _ _ _ h => h) (Or.inl ⟨by rfl, ?_⟩) hHeld ?_
    rotate_left
    · (intro w hS; go_simp; try with_reducible rfl)
    try simp only [Act.put, List.setIfInBounds_toArray, List.set_cons_zero, List.set_cons_succ]
    refine wpAnyH_take (i := 5) (oi := ({ dst := some 12, op := Op.load 23 (Operand.tmp 2), type := 23, pos := _, after := #[{ on := 4, ground := Ground.guard }], guard := some (4, false) } : Oper))  rfl (by kernel_rfl) (by kernel_rfl) (by kernel_rfl) (fun _ _ _ h => h) (yields_ld rfl rfl rfl (fun w hS => (C1.below hS C1.lt).load)) hHeld ?_
    try simp only [Act.put, List.setIfInBounds_toArray, List.set_cons_zero, List.set_cons_succ]
    refine wpAnyH_take (i := 7) (oi := ({ dst := some 14, op := Op.load 23 (Operand.tmp 3), type := 23, pos := _, after := #[{ on := 4, ground := Ground.guard }], guard := some (4, false) } : Oper))  rfl (by kernel_rfl) (by kernel_rfl) (by kernel_rfl) (fun _ _ _ h => h) (yields_ld rfl rfl rfl (fun w hS => (D1.below hS D1.lt).load)) hHeld ?_
    try simp only [Act.put, List.setIfInBounds_toArray, List.set_cons_zero, List.set_cons_succ]
    refine wpAnyH_ready (rs := [6]) (by kernel_rfl) (by simp) ?_
    refine AllReadyH.cons (o := ({ dst := some 13, op := Op.call { callee := Callee.value (Operand.func 11), args := #[Operand.tmp 12], argTypes := #[23] }, type := 3, pos := _, after := #[{ on := 5, ground := Ground.data }, { on := 4, ground := Ground.chain }, { on := 4, ground := Ground.guard }], guard := some (4, false) } : Oper)) rfl (fun K hK => ?_) AllReadyH.nil
    refine step_call (need_calls k p e w b l _) (enters_of Try.func11 (by kernel_rfl) rfl) _ _ rfl rfl rfl ?_
    rintro x w4 ⟨rfl, b4⟩
    rw [HN.out]
    refine ⟨_, rfl, hK.out _ _ (hHeld.trans (b4.mono hHeld.size)) (fun hHeld => ?_)⟩
    clear hK K
    try simp only [Act.put, List.setIfInBounds_toArray, List.set_cons_zero, List.set_cons_succ]
    refine wpAnyH_ready (rs := [8]) (by kernel_rfl) (by simp) ?_
    refine AllReadyH.cons (o := ({ dst := some 15, op := Op.call { callee := Callee.value (Operand.func 11), args := #[Operand.tmp 14], argTypes := #[23] }, type := 3, pos := _, after := #[{ on := 7, ground := Ground.data }, { on := 6, ground := Ground.chain }, { on := 4, ground := Ground.guard }], guard := some (4, false) } : Oper)) rfl (fun K hK => ?_) AllReadyH.nil
    refine step_call (need_calls k2 p2 e2 w2 b2 l2 _) (enters_of Try.func11 (by kernel_rfl) rfl) _ _ rfl rfl rfl ?_
    rintro x w5 ⟨rfl, b5⟩
    rw [HM.out]
    refine ⟨_, rfl, hK.out _ _ (hHeld.trans (b5.mono hHeld.size)) (fun hHeld => ?_)⟩
    clear hK K
    try simp only [Act.put, List.setIfInBounds_toArray, List.set_cons_zero, List.set_cons_succ]
    refine wpAnyH_take (i := 9) (oi := ({ dst := some 16, op := Op.binOp BinOp.leq 3 (Operand.tmp 13) (Operand.tmp 15) 3, type := 4, pos := _, after := #[{ on := 6, ground := Ground.data }, { on := 8, ground := Ground.data }, { on := 4, ground := Ground.guard }], guard := some (4, false) } : Oper)) (v := ?_) rfl (by kernel_rfl) (by kernel_rfl) (by kernel_rfl) (fun _ _ _ h => h) (Or.inl ⟨by rfl, ?_⟩) hHeld ?_
    rotate_left
    · (intro w hS; go_simp; try with_reducible rfl)
    try simp only [Act.put, List.setIfInBounds_toArray, List.set_cons_zero, List.set_cons_succ]
    rw [HL.out]
    refine wpAnyH_take (i := 10) (oi := ({ dst := some 17, op := Op.pick (Operand.tmp 11) (Operand.const (Value.bool true)) (Operand.tmp 16), type := 4, pos := _, after := #[{ on := 4, ground := Ground.data }, { on := 9, ground := Ground.data }], guard := none } : Oper)) (v := ?_) rfl (by kernel_rfl) (by kernel_rfl) (by kernel_rfl) (fun _ _ _ h => h) (Or.inl ⟨by rfl, ?_⟩) hHeld ?_
    rotate_left
    · (intro w hS; go_simp; try with_reducible rfl)
    try simp only [Act.put, List.setIfInBounds_toArray, List.set_cons_zero, List.set_cons_succ]
    refine wpAnyH_take (i := 11) (oi := ({ dst := some 4, op := Op.assign (Operand.tmp 17), type := 4, pos := _, after := #[{ on := 10, ground := Ground.data }, { on := 8, ground := Ground.chain }, { on := 0, ground := Ground.phase }, { on := 1, ground := Ground.phase }, { on := 2, ground := Ground.phase }, { on := 3, ground := Ground.phase }, { on := 4, ground := Ground.phase }, { on := 5, ground := Ground.phase }, { on := 6, ground := Ground.phase }, { on := 7, ground := Ground.phase }, { on := 8, ground := Ground.phase }, { on := 9, ground := Ground.phase }, { on := 10, ground := Ground.phase }], guard := none } : Oper)) (v := ?_) rfl (by kernel_rfl) (by kernel_rfl) (by kernel_rfl) (fun _ _ _ h => h) (Or.inl ⟨by rfl, ?_⟩) hHeld ?_
    rotate_left
    · (intro w hS; go_simp; try with_reducible rfl)
    try simp only [Act.put, List.setIfInBounds_toArray, List.set_cons_zero, List.set_cons_succ]
    refine wpAnyH_done (by kernel_rfl) ?_ _
    go_wp2_with fail
    go_ret
    exact ⟨rfl, B1.trans (hHeld.mono B1.size)⟩
end Go.Proofs.Ythmcnllkngheoaa
