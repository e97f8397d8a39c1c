/- Proved here: the bytes of what a kind has, and a tag's number. Conditions: as each theorem states them. -/
import Derived.Deep.DeepCutAuto
import Derived.BigQuiet
import Derived.Deep.QuietTactic
import Derived.Test.YtpjlcmdidhdbcaaStp
import Derived.Test.YtpjlcmdidhdbcaaCSeal
namespace Go.Proofs.Ytpjlcmdidhdbcaa
set_option linter.unusedSimpArgs false
set_option linter.unusedVariables false
open Go.RowKit

theorem ret_u8 {a b : Int} (h : a = b) : Ending.returned (.int .u8 a) = .returned (.int .u8 b) := by rw [h]
set_option maxHeartbeats 2000000 in
theorem asks_calls (o : Om) (w : World) : Calls Try.prog 36 #[.agg (omV o)] w fun e w' => e = .returned (.int .u8 ((askN o.a).toNat : Int)) ∧ Below w.heap.size w w' := by
  have A0 : Below w.heap.size w (w.alloc (.cells (omV o) 31)) := (Below.refl _ w).alloc (Nat.le_refl _) _
  have K0 := bk_new w (omV o) 31
  obtain ⟨c0, c1, c2, c3⟩ := K0.om
  cases ha : o.a
  · rw [ha] at c2
    clear ha
    go_enter Try.func36, Try.ntmps36
    go_wp2
    go_ret
    exact ⟨rfl, A0⟩
  · rw [ha] at c2
    clear ha
    go_enter Try.func36, Try.ntmps36
    go_wp2
    go_ret
    exact ⟨rfl, A0⟩

theorem shr_bytes (t : Nat) (h : t < 4294967296) : ∃ x3 x2 x1 x0 : UInt8, be4 t = [x3, x2, x1, x0] ∧ IntKind.u8.wrap ((t : Int) / 16777216) = (x3.toNat : Int) ∧ IntKind.u8.wrap ((t : Int) / 65536) = (x2.toNat : Int) ∧ IntKind.u8.wrap ((t : Int) / 256) = (x1.toNat : Int) ∧ IntKind.u8.wrap (t : Int) = (x0.toNat : Int) := by
  refine ⟨_, _, _, _, rfl, ?_, ?_, ?_, ?_⟩ <;> (rw [byteN, IntKind.wrap_u8]; omega)

set_option maxHeartbeats 4000000 in
theorem told_one (o : Om) (h : o.Ok) (hk : o.k = 0 ∨ o.k = 1) (w : World) : Calls Try.prog 31 #[.agg (omV o)] w fun e w' => ∃ a c, e = .returned (.slice a 17 c) ∧ IsB w'.heap.size w' a 17 (toldN o) ∧ (a = none → c = 0) ∧ Below w.heap.size w w' := by
  have A0 : Below w.heap.size w (w.alloc (.cells (omV o) 31)) := (Below.refl _ w).alloc (Nat.le_refl _) _
  have K0 := bk_new w (omV o) 31
  have e1 : toldN o = [o.d] ++ o.p := by unfold toldN; rw [if_neg (by omega), if_neg (by omega)]; rfl
  have z0 : (w.alloc (.cells (omV o) 31)).heap.size = w.heap.size + 1 := by simp
  obtain ⟨c0, c1, c2, c3⟩ := K0.om
  have HE : Hid (toldN o = [o.d] ++ o.p) := e1
  clear e1
  rcases hk with hk | hk <;> rw [hk] at c0 <;> clear hk <;> (
    go_enter Try.func31, Try.ntmps31
    go_wp2
    refine wp_region_held_drew (S := (fun w' => BK w' w.heap.size (omV o) 31 ∧ Below w.heap.size w w' ∧ w.heap.size + 1 ≤ w'.heap.size)) (by kernel_rfl) ⟨K0.drew, A0.drew, Nat.le_of_eq z0.symm⟩ (fun hHeld => ?_)
    refine wpAnyH_take (i := 0) (oi := ({ dst := some 9, op := Op.fieldAddr 31 (Operand.tmp 1) 1, type := 0, pos := _, after := #[], guard := none } : Oper)) (v := ?_) rfl (by kernel_rfl) (by kernel_rfl) (by kernel_rfl) (fun _ _ _ h => h) (Or.inl ⟨by rfl, ?_⟩) hHeld ?_
    rotate_left
    · (intro w hS; go_simp; try with_reducible rfl)
    try simp only [Act.put, List.setIfInBounds_toArray, List.set_cons_zero, List.set_cons_succ]
    refine wpAnyH_take (i := 1) (oi := ({ dst := some 10, op := Op.load 5 (Operand.tmp 9), type := 5, pos := _, after := #[{ on := 0, ground := Ground.data }], guard := none } : Oper)) (v := ?_) rfl (by kernel_rfl) (by kernel_rfl) (by kernel_rfl) (fun _ _ _ h => h) (Or.inl ⟨by rfl, ?_⟩) hHeld ?_
    rotate_left
    · (intro w hS; obtain ⟨d0, d1, d2, d3⟩ := hS.1.om; go_simp; try with_reducible rfl)
    try simp only [Act.put, List.setIfInBounds_toArray, List.set_cons_zero, List.set_cons_succ]
    refine wpAnyH_take (i := 3) (oi := ({ dst := some 12, op := Op.fieldAddr 31 (Operand.tmp 1) 4, type := 0, pos := _, after := #[], guard := none } : Oper)) (v := ?_) rfl (by kernel_rfl) (by kernel_rfl) (by kernel_rfl) (fun _ _ _ h => h) (Or.inl ⟨by rfl, ?_⟩) hHeld ?_
    rotate_left
    · (intro w hS; go_simp; try with_reducible rfl)
    try simp only [Act.put, List.setIfInBounds_toArray, List.set_cons_zero, List.set_cons_succ]
    refine wpAnyH_take (i := 4) (oi := ({ dst := some 13, op := Op.slice 23 (Operand.tmp 12) none none none, type := 32, pos := _, after := #[{ on := 3, ground := Ground.data }], guard := none } : Oper)) (v := ?_) rfl (by kernel_rfl) (by kernel_rfl) (by kernel_rfl) (fun _ _ _ h => h) (Or.inl ⟨by rfl, ?_⟩) hHeld ?_
    rotate_left
    · (intro w hS; go_simp; try with_reducible rfl)
    try simp only [Act.put, List.setIfInBounds_toArray, List.set_cons_zero, List.set_cons_succ]
    refine wpAnyH_ready (rs := [2]) (by kernel_rfl) (by simp) ?_
    refine AllReadyH.cons (o := ({ dst := some 11, op := Op.buildSlice 32 1 #[(0, Operand.tmp 10)], type := 32, pos := _, after := #[{ on := 1, ground := Ground.data }], guard := none } : Oper)) rfl (fun K hK => ?_) AllReadyH.nil
    refine step_slB (zs := [o.d]) (vs := [(0, .int .u8 (o.d.toNat : Int))]) (by rfl) (w.heap.size + 1) (by rfl) (by rfl) (run_sl1 _) rfl (by decide) hHeld.2.2 ?_
    intro b5 w5 hb5 o5 d5
    refine hK.out _ _ ⟨hHeld.1.below d5 hHeld.1.lt, hHeld.2.1.trans (d5.mono hHeld.2.1.size), Nat.le_trans hHeld.2.2 d5.size⟩ (fun hHeld => ?_)
    clear hK K
    try simp only [Act.put, List.setIfInBounds_toArray, List.set_cons_zero, List.set_cons_succ]
    refine wpAnyH_ready (rs := [5]) (by kernel_rfl) (by simp) ?_
    refine AllReadyH.cons (o := ({ dst := some 14, op := Op.call { callee := Callee.builtin Builtin.append, args := #[Operand.tmp 11, Operand.tmp 13], argTypes := #[32, 32] }, type := 32, pos := _, after := #[{ on := 2, ground := Ground.data }, { on := 4, ground := Ground.data }], guard := none } : Oper)) rfl (fun K hK => ?_) AllReadyH.nil
    refine step_appB (N := 17) (by rfl) (by rfl) (by rfl) (by rfl) o5 (hHeld.1.place h) (by intro h; cases h) (by decide) hHeld.2.2 rfl ?_
    intro a6 c6 w6 o6 d6
    refine hK.out _ _ ⟨hHeld.1.below d6 (by omega), hHeld.2.1.trans (d6.mono (by omega)), Nat.le_trans hHeld.2.2 d6.size⟩ (fun hHeld => ?_)
    clear hK K
    try simp only [Act.put, List.setIfInBounds_toArray, List.set_cons_zero, List.set_cons_succ]
    refine wpAnyH_take (i := 6) (oi := ({ dst := some 2, op := Op.assign (Operand.tmp 14), type := 32, pos := _, after := #[{ on := 5, ground := Ground.data }, { on := 5, ground := Ground.chain }, { on := 0, ground := Ground.phase }, { on := 1, ground := Ground.phase }, { on := 2, ground := Ground.phase }, { on := 3, ground := Ground.phase }, { on := 4, ground := Ground.phase }, { on := 5, ground := Ground.phase }], guard := none } : Oper)) (v := ?_) rfl (by kernel_rfl) (by kernel_rfl) (by kernel_rfl) (fun _ _ _ h => h) (Or.inl ⟨by rfl, ?_⟩) hHeld ?_
    rotate_left
    · (intro w hS; go_simp; try with_reducible rfl)
    try simp only [Act.put, List.setIfInBounds_toArray, List.set_cons_zero, List.set_cons_succ]
    refine wpAnyH_done (by kernel_rfl) ?_ _
    skip
    go_wp2
    go_ret
    exact ⟨_, _, rfl, by rw [HE.out]; exact o6.isB.1, o6.isB.2.1, hHeld.2.1⟩)

set_option maxHeartbeats 4000000 in
theorem told_check (o : Om) (hk : o.k = 4) (w : World) : Calls Try.prog 31 #[.agg (omV o)] w fun e w' => e = .returned (.slice none 0 0) ∧ Below w.heap.size w w' := by
  have A0 : Below w.heap.size w (w.alloc (.cells (omV o) 31)) := (Below.refl _ w).alloc (Nat.le_refl _) _
  have K0 := bk_new w (omV o) 31
  obtain ⟨c0, c1, c2, c3⟩ := K0.om
  rw [hk] at c0
  clear hk
  go_enter Try.func31, Try.ntmps31
  go_wp2
  go_ret
  exact ⟨rfl, A0⟩

set_option maxHeartbeats 8000000 in
theorem told_loop (o : Om) (h : o.Ok) (hk : o.k = 8) (w : World) : Calls Try.prog 31 #[.agg (omV o)] w fun e w' => ∃ a c, e = .returned (.slice a 37 c) ∧ IsB w'.heap.size w' a 37 (toldN o) ∧ (a = none → c = 0) ∧ Below w.heap.size w w' := by
  have A0 : Below w.heap.size w (w.alloc (.cells (omV o) 31)) := (Below.refl _ w).alloc (Nat.le_refl _) _
  have K0 := bk_new w (omV o) 31
  have e1 : toldN o = ([askN o.a] ++ be4 o.t) ++ o.p ++ o.s := by unfold toldN; rw [if_pos hk]; simp
  have z0 : (w.alloc (.cells (omV o) 31)).heap.size = w.heap.size + 1 := by simp
  obtain ⟨c0, c1, c2, c3⟩ := K0.om
  rw [hk] at c0
  obtain ⟨x3, x2, x1, x0, hbe, s3, s2, s1, s0⟩ := shr_bytes o.t h.t
  rw [hbe] at e1
  have HE : Hid (toldN o = ([askN o.a] ++ [x3, x2, x1, x0]) ++ o.p ++ o.s) := e1
  have HA := fun w => asks_calls o w
  have ht := h.t
  have ht2 : (o.t : Int) ≤ 4294967295 := by omega
  clear e1 hk hbe
  go_enter Try.func31, Try.ntmps31
  go_upto_region 6 with fail
  go_cut [3] (fun s wx => ∃ a c, s = .slice a 5 c ∧ OwnB (w.heap.size + 1) wx a 5 c ([askN o.a] ++ [x3, x2, x1, x0]) ∧ BK wx w.heap.size (omV o) 31 ∧ Below w.heap.size w wx ∧ w.heap.size + 1 ≤ wx.heap.size)
  case first =>
    refine wp_region_held_drew (S := (fun w' => BK w' w.heap.size (omV o) 31 ∧ Below w.heap.size w w' ∧ w.heap.size + 1 ≤ w'.heap.size)) (by kernel_rfl) ⟨K0.drew, A0.drew, Nat.le_of_eq z0.symm⟩ (fun hHeld => ?_)
    refine wpAnyH_take (i := 0) (oi := ({ dst := some 17, op := Op.load 31 (Operand.tmp 1), type := 31, pos := _, after := #[], guard := none } : Oper))  rfl (by kernel_rfl) (by kernel_rfl) (by kernel_rfl) (fun _ _ _ h => h) (yields_ld rfl rfl rfl (fun w hS => run_ldA w _ _ _ hS.1 h)) hHeld ?_
    try simp only [Act.put, List.setIfInBounds_toArray, List.set_cons_zero, List.set_cons_succ]
    refine wpAnyH_take (i := 3) (oi := ({ dst := some 20, op := Op.fieldAddr 31 (Operand.tmp 1) 3, type := 0, pos := _, after := #[], guard := none } : Oper)) (v := ?_) rfl (by kernel_rfl) (by kernel_rfl) (by kernel_rfl) (fun _ _ _ h => h) (Or.inl ⟨by rfl, ?_⟩) hHeld ?_
    rotate_left
    · (intro w hS; go_simp; try with_reducible rfl)
    try simp only [Act.put, List.setIfInBounds_toArray, List.set_cons_zero, List.set_cons_succ]
    refine wpAnyH_take (i := 4) (oi := ({ dst := some 21, op := Op.load 22 (Operand.tmp 20), type := 22, pos := _, after := #[{ on := 3, ground := Ground.data }], guard := none } : Oper)) (v := ?_) rfl (by kernel_rfl) (by kernel_rfl) (by kernel_rfl) (fun _ _ _ h => h) (Or.inl ⟨by rfl, ?_⟩) hHeld ?_
    rotate_left
    · (intro w hS; obtain ⟨d0, d1, d2, d3⟩ := hS.1.om; go_simp; try with_reducible rfl)
    try simp only [Act.put, List.setIfInBounds_toArray, List.set_cons_zero, List.set_cons_succ]
    refine wpAnyH_take (i := 5) (oi := ({ dst := some 22, op := Op.binOp BinOp.shr 22 (Operand.tmp 21) (Operand.const (Value.int IntKind.u64 24)) 63, type := 22, pos := _, after := #[{ on := 4, ground := Ground.data }], guard := none } : Oper)) (v := ?_) rfl (by kernel_rfl) (by kernel_rfl) (by kernel_rfl) (fun _ _ _ h => h) (Or.inl ⟨by rfl, ?_⟩) hHeld ?_
    rotate_left
    · (intro w hS; go_simp; try with_reducible rfl)
    try simp only [Act.put, List.setIfInBounds_toArray, List.set_cons_zero, List.set_cons_succ]
    refine wpAnyH_take (i := 6) (oi := ({ dst := some 23, op := Op.convert 22 5 (Operand.tmp 22), type := 5, pos := _, after := #[{ on := 5, ground := Ground.data }], guard := none } : Oper)) (v := ?_) rfl (by kernel_rfl) (by kernel_rfl) (by kernel_rfl) (fun _ _ _ h => h) (Or.inl ⟨by rfl, ?_⟩) hHeld ?_
    rotate_left
    · (intro w hS; go_simp; try with_reducible rfl)
    try simp only [Act.put, List.setIfInBounds_toArray, List.set_cons_zero, List.set_cons_succ]
    refine wpAnyH_take (i := 7) (oi := ({ dst := some 24, op := Op.fieldAddr 31 (Operand.tmp 1) 3, type := 0, pos := _, after := #[], guard := none } : Oper)) (v := ?_) rfl (by kernel_rfl) (by kernel_rfl) (by kernel_rfl) (fun _ _ _ h => h) (Or.inl ⟨by rfl, ?_⟩) hHeld ?_
    rotate_left
    · (intro w hS; go_simp; try with_reducible rfl)
    try simp only [Act.put, List.setIfInBounds_toArray, List.set_cons_zero, List.set_cons_succ]
    refine wpAnyH_take (i := 8) (oi := ({ dst := some 25, op := Op.load 22 (Operand.tmp 24), type := 22, pos := _, after := #[{ on := 7, ground := Ground.data }], guard := none } : Oper)) (v := ?_) rfl (by kernel_rfl) (by kernel_rfl) (by kernel_rfl) (fun _ _ _ h => h) (Or.inl ⟨by rfl, ?_⟩) hHeld ?_
    rotate_left
    · (intro w hS; obtain ⟨d0, d1, d2, d3⟩ := hS.1.om; go_simp; try with_reducible rfl)
    try simp only [Act.put, List.setIfInBounds_toArray, List.set_cons_zero, List.set_cons_succ]
    refine wpAnyH_take (i := 9) (oi := ({ dst := some 26, op := Op.binOp BinOp.shr 22 (Operand.tmp 25) (Operand.const (Value.int IntKind.u64 16)) 63, type := 22, pos := _, after := #[{ on := 8, ground := Ground.data }], guard := none } : Oper)) (v := ?_) rfl (by kernel_rfl) (by kernel_rfl) (by kernel_rfl) (fun _ _ _ h => h) (Or.inl ⟨by rfl, ?_⟩) hHeld ?_
    rotate_left
    · (intro w hS; go_simp; try with_reducible rfl)
    try simp only [Act.put, List.setIfInBounds_toArray, List.set_cons_zero, List.set_cons_succ]
    refine wpAnyH_take (i := 10) (oi := ({ dst := some 27, op := Op.convert 22 5 (Operand.tmp 26), type := 5, pos := _, after := #[{ on := 9, ground := Ground.data }], guard := none } : Oper)) (v := ?_) rfl (by kernel_rfl) (by kernel_rfl) (by kernel_rfl) (fun _ _ _ h => h) (Or.inl ⟨by rfl, ?_⟩) hHeld ?_
    rotate_left
    · (intro w hS; go_simp; try with_reducible rfl)
    try simp only [Act.put, List.setIfInBounds_toArray, List.set_cons_zero, List.set_cons_succ]
    refine wpAnyH_take (i := 11) (oi := ({ dst := some 28, op := Op.fieldAddr 31 (Operand.tmp 1) 3, type := 0, pos := _, after := #[], guard := none } : Oper)) (v := ?_) rfl (by kernel_rfl) (by kernel_rfl) (by kernel_rfl) (fun _ _ _ h => h) (Or.inl ⟨by rfl, ?_⟩) hHeld ?_
    rotate_left
    · (intro w hS; go_simp; try with_reducible rfl)
    try simp only [Act.put, List.setIfInBounds_toArray, List.set_cons_zero, List.set_cons_succ]
    refine wpAnyH_take (i := 12) (oi := ({ dst := some 29, op := Op.load 22 (Operand.tmp 28), type := 22, pos := _, after := #[{ on := 11, ground := Ground.data }], guard := none } : Oper)) (v := ?_) rfl (by kernel_rfl) (by kernel_rfl) (by kernel_rfl) (fun _ _ _ h => h) (Or.inl ⟨by rfl, ?_⟩) hHeld ?_
    rotate_left
    · (intro w hS; obtain ⟨d0, d1, d2, d3⟩ := hS.1.om; go_simp; try with_reducible rfl)
    try simp only [Act.put, List.setIfInBounds_toArray, List.set_cons_zero, List.set_cons_succ]
    refine wpAnyH_take (i := 13) (oi := ({ dst := some 30, op := Op.binOp BinOp.shr 22 (Operand.tmp 29) (Operand.const (Value.int IntKind.u64 8)) 63, type := 22, pos := _, after := #[{ on := 12, ground := Ground.data }], guard := none } : Oper)) (v := ?_) rfl (by kernel_rfl) (by kernel_rfl) (by kernel_rfl) (fun _ _ _ h => h) (Or.inl ⟨by rfl, ?_⟩) hHeld ?_
    rotate_left
    · (intro w hS; go_simp; try with_reducible rfl)
    try simp only [Act.put, List.setIfInBounds_toArray, List.set_cons_zero, List.set_cons_succ]
    refine wpAnyH_take (i := 14) (oi := ({ dst := some 31, op := Op.convert 22 5 (Operand.tmp 30), type := 5, pos := _, after := #[{ on := 13, ground := Ground.data }], guard := none } : Oper)) (v := ?_) rfl (by kernel_rfl) (by kernel_rfl) (by kernel_rfl) (fun _ _ _ h => h) (Or.inl ⟨by rfl, ?_⟩) hHeld ?_
    rotate_left
    · (intro w hS; go_simp; try with_reducible rfl)
    try simp only [Act.put, List.setIfInBounds_toArray, List.set_cons_zero, List.set_cons_succ]
    refine wpAnyH_take (i := 15) (oi := ({ dst := some 32, op := Op.fieldAddr 31 (Operand.tmp 1) 3, type := 0, pos := _, after := #[], guard := none } : Oper)) (v := ?_) rfl (by kernel_rfl) (by kernel_rfl) (by kernel_rfl) (fun _ _ _ h => h) (Or.inl ⟨by rfl, ?_⟩) hHeld ?_
    rotate_left
    · (intro w hS; go_simp; try with_reducible rfl)
    try simp only [Act.put, List.setIfInBounds_toArray, List.set_cons_zero, List.set_cons_succ]
    refine wpAnyH_take (i := 16) (oi := ({ dst := some 33, op := Op.load 22 (Operand.tmp 32), type := 22, pos := _, after := #[{ on := 15, ground := Ground.data }], guard := none } : Oper)) (v := ?_) rfl (by kernel_rfl) (by kernel_rfl) (by kernel_rfl) (fun _ _ _ h => h) (Or.inl ⟨by rfl, ?_⟩) hHeld ?_
    rotate_left
    · (intro w hS; obtain ⟨d0, d1, d2, d3⟩ := hS.1.om; go_simp; try with_reducible rfl)
    try simp only [Act.put, List.setIfInBounds_toArray, List.set_cons_zero, List.set_cons_succ]
    refine wpAnyH_take (i := 17) (oi := ({ dst := some 34, op := Op.convert 22 5 (Operand.tmp 33), type := 5, pos := _, after := #[{ on := 16, ground := Ground.data }], guard := none } : Oper)) (v := ?_) rfl (by kernel_rfl) (by kernel_rfl) (by kernel_rfl) (fun _ _ _ h => h) (Or.inl ⟨by rfl, ?_⟩) hHeld ?_
    rotate_left
    · (intro w hS; go_simp; try with_reducible rfl)
    try simp only [Act.put, List.setIfInBounds_toArray, List.set_cons_zero, List.set_cons_succ]
    refine wpAnyH_ready (rs := [1, 18]) (by kernel_rfl) (by simp) ?_
    refine AllReadyH.cons (o := ({ dst := some 18, op := Op.call { callee := Callee.value (Operand.func 36), args := #[Operand.tmp 17], argTypes := #[31] }, type := 5, pos := _, after := #[{ on := 0, ground := Ground.data }], guard := none } : Oper)) rfl (fun K hK => ?_) (AllReadyH.cons (o := ({ dst := some 35, op := Op.buildSlice 32 4 #[(0, Operand.tmp 23), (1, Operand.tmp 27), (2, Operand.tmp 31), (3, Operand.tmp 34)], type := 32, pos := _, after := #[{ on := 6, ground := Ground.data }, { on := 10, ground := Ground.data }, { on := 14, ground := Ground.data }, { on := 17, ground := Ground.data }], guard := none } : Oper)) rfl (fun K hK => ?_) (AllReadyH.nil))
    · refine step_call (HA _) (enters_of Try.func36 (by kernel_rfl) rfl) _ _ rfl rfl rfl ?_
      rintro e v1 ⟨rfl, d1⟩
      try (have o4 := o4.below d1 (Nat.le_refl _))
      refine ⟨_, rfl, hK.out _ _ ⟨hHeld.1.below d1 hHeld.1.lt, hHeld.2.1.trans (d1.mono hHeld.2.1.size), Nat.le_trans hHeld.2.2 d1.size⟩ (fun hHeld => ?_)⟩
      clear hK K
      try simp only [Act.put, List.setIfInBounds_toArray, List.set_cons_zero, List.set_cons_succ]
      refine wpAnyH_ready (rs := [2, 18]) (by kernel_rfl) (by simp) ?_
      refine AllReadyH.cons (o := ({ dst := some 19, op := Op.buildSlice 32 1 #[(0, Operand.tmp 18)], type := 32, pos := _, after := #[{ on := 1, ground := Ground.data }], guard := none } : Oper)) rfl (fun K hK => ?_) (AllReadyH.cons (o := ({ dst := some 35, op := Op.buildSlice 32 4 #[(0, Operand.tmp 23), (1, Operand.tmp 27), (2, Operand.tmp 31), (3, Operand.tmp 34)], type := 32, pos := _, after := #[{ on := 6, ground := Ground.data }, { on := 10, ground := Ground.data }, { on := 14, ground := Ground.data }, { on := 17, ground := Ground.data }], guard := none } : Oper)) rfl (fun K hK => ?_) (AllReadyH.nil))
      · refine step_slB (zs := [askN o.a]) (vs := [(0, .int .u8 ((askN o.a).toNat : Int))]) (by rfl) (w.heap.size + 1) (by rfl) (by rfl) (run_sl1 _) rfl (by decide) hHeld.2.2 ?_
        intro b5 w5 hb5 o5 d5
        try (have o4 := o4.below d5 (Nat.le_refl _))
        refine hK.out _ _ ⟨hHeld.1.below d5 hHeld.1.lt, hHeld.2.1.trans (d5.mono hHeld.2.1.size), Nat.le_trans hHeld.2.2 d5.size⟩ (fun hHeld => ?_)
        clear hK K
        try simp only [Act.put, List.setIfInBounds_toArray, List.set_cons_zero, List.set_cons_succ]
        refine wpAnyH_ready (rs := [18]) (by kernel_rfl) (by simp) ?_
        refine AllReadyH.cons (o := ({ dst := some 35, op := Op.buildSlice 32 4 #[(0, Operand.tmp 23), (1, Operand.tmp 27), (2, Operand.tmp 31), (3, Operand.tmp 34)], type := 32, pos := _, after := #[{ on := 6, ground := Ground.data }, { on := 10, ground := Ground.data }, { on := 14, ground := Ground.data }, { on := 17, ground := Ground.data }], guard := none } : Oper)) rfl (fun K hK => ?_) AllReadyH.nil
        refine step_slB (zs := [x3, x2, x1, x0]) (vs := [(0, .int .u8 (x3.toNat : Int)), (1, .int .u8 (x2.toNat : Int)), (2, .int .u8 (x1.toNat : Int)), (3, .int .u8 (x0.toNat : Int))]) (by rfl) (w.heap.size + 1) (by rfl) (by rfl) (run_sl4 _ _ _ _) rfl (by decide) hHeld.2.2 ?_
        intro b4 w4 hb4 o4 d4
        try (have o5 := o5.below d4 (Nat.le_refl _))
        refine hK.out _ _ ⟨hHeld.1.below d4 hHeld.1.lt, hHeld.2.1.trans (d4.mono hHeld.2.1.size), Nat.le_trans hHeld.2.2 d4.size⟩ (fun hHeld => ?_)
        clear hK K
        try simp only [Act.put, List.setIfInBounds_toArray, List.set_cons_zero, List.set_cons_succ]
        refine wpAnyH_ready (rs := [19]) (by kernel_rfl) (by simp) ?_
        refine AllReadyH.cons (o := ({ dst := some 36, op := Op.call { callee := Callee.builtin Builtin.append, args := #[Operand.tmp 19, Operand.tmp 35], argTypes := #[32, 32] }, type := 32, pos := _, after := #[{ on := 2, ground := Ground.data }, { on := 18, ground := Ground.data }, { on := 1, ground := Ground.chain }], guard := none } : Oper)) rfl (fun K hK => ?_) AllReadyH.nil
        refine step_appB (N := 5) (by rfl) (by rfl) (by rfl) (by rfl) o5 o4.isB.1 (by intro h; cases h) (by decide) hHeld.2.2 rfl ?_
        intro a6 c6 w6 o6 d6
        refine hK.out _ _ ⟨hHeld.1.below d6 (by omega), hHeld.2.1.trans (d6.mono (by omega)), Nat.le_trans hHeld.2.2 d6.size⟩ (fun hHeld => ?_)
        clear hK K
        try simp only [Act.put, List.setIfInBounds_toArray, List.set_cons_zero, List.set_cons_succ]
        refine wpAnyH_take (i := 20) (oi := ({ dst := some 3, op := Op.assign (Operand.tmp 36), type := 32, pos := _, after := #[{ on := 19, ground := Ground.data }, { on := 19, ground := Ground.chain }, { on := 0, ground := Ground.phase }, { on := 1, ground := Ground.phase }, { on := 2, ground := Ground.phase }, { on := 3, ground := Ground.phase }, { on := 4, ground := Ground.phase }, { on := 5, ground := Ground.phase }, { on := 6, ground := Ground.phase }, { on := 7, ground := Ground.phase }, { on := 8, ground := Ground.phase }, { on := 9, ground := Ground.phase }, { on := 10, ground := Ground.phase }, { on := 11, ground := Ground.phase }, { on := 12, ground := Ground.phase }, { on := 13, ground := Ground.phase }, { on := 14, ground := Ground.phase }, { on := 15, ground := Ground.phase }, { on := 16, ground := Ground.phase }, { on := 17, ground := Ground.phase }, { on := 18, ground := Ground.phase }, { on := 19, ground := Ground.phase }], guard := none } : Oper)) (v := ?_) rfl (by kernel_rfl) (by kernel_rfl) (by kernel_rfl) (fun _ _ _ h => h) (Or.inl ⟨by rfl, ?_⟩) hHeld ?_
        rotate_left
        · (intro w hS; go_simp; try with_reducible rfl)
        try simp only [Act.put, List.setIfInBounds_toArray, List.set_cons_zero, List.set_cons_succ]
        refine wpAnyH_done (by kernel_rfl) ?_ _
        go_wp2
        go_meet
        exact ⟨_, _, rfl, o6, hHeld.1, hHeld.2.1, hHeld.2.2⟩
      · refine step_slB (zs := [x3, x2, x1, x0]) (vs := [(0, .int .u8 (x3.toNat : Int)), (1, .int .u8 (x2.toNat : Int)), (2, .int .u8 (x1.toNat : Int)), (3, .int .u8 (x0.toNat : Int))]) (by rfl) (w.heap.size + 1) (by rfl) (by rfl) (run_sl4 _ _ _ _) rfl (by decide) hHeld.2.2 ?_
        intro b4 w4 hb4 o4 d4
        try (have o5 := o5.below d4 (Nat.le_refl _))
        refine hK.out _ _ ⟨hHeld.1.below d4 hHeld.1.lt, hHeld.2.1.trans (d4.mono hHeld.2.1.size), Nat.le_trans hHeld.2.2 d4.size⟩ (fun hHeld => ?_)
        clear hK K
        try simp only [Act.put, List.setIfInBounds_toArray, List.set_cons_zero, List.set_cons_succ]
        refine wpAnyH_ready (rs := [2]) (by kernel_rfl) (by simp) ?_
        refine AllReadyH.cons (o := ({ dst := some 19, op := Op.buildSlice 32 1 #[(0, Operand.tmp 18)], type := 32, pos := _, after := #[{ on := 1, ground := Ground.data }], guard := none } : Oper)) rfl (fun K hK => ?_) AllReadyH.nil
        refine step_slB (zs := [askN o.a]) (vs := [(0, .int .u8 ((askN o.a).toNat : Int))]) (by rfl) (w.heap.size + 1) (by rfl) (by rfl) (run_sl1 _) rfl (by decide) hHeld.2.2 ?_
        intro b5 w5 hb5 o5 d5
        try (have o4 := o4.below d5 (Nat.le_refl _))
        refine hK.out _ _ ⟨hHeld.1.below d5 hHeld.1.lt, hHeld.2.1.trans (d5.mono hHeld.2.1.size), Nat.le_trans hHeld.2.2 d5.size⟩ (fun hHeld => ?_)
        clear hK K
        try simp only [Act.put, List.setIfInBounds_toArray, List.set_cons_zero, List.set_cons_succ]
        refine wpAnyH_ready (rs := [19]) (by kernel_rfl) (by simp) ?_
        refine AllReadyH.cons (o := ({ dst := some 36, op := Op.call { callee := Callee.builtin Builtin.append, args := #[Operand.tmp 19, Operand.tmp 35], argTypes := #[32, 32] }, type := 32, pos := _, after := #[{ on := 2, ground := Ground.data }, { on := 18, ground := Ground.data }, { on := 1, ground := Ground.chain }], guard := none } : Oper)) rfl (fun K hK => ?_) AllReadyH.nil
        refine step_appB (N := 5) (by rfl) (by rfl) (by rfl) (by rfl) o5 o4.isB.1 (by intro h; cases h) (by decide) hHeld.2.2 rfl ?_
        intro a6 c6 w6 o6 d6
        refine hK.out _ _ ⟨hHeld.1.below d6 (by omega), hHeld.2.1.trans (d6.mono (by omega)), Nat.le_trans hHeld.2.2 d6.size⟩ (fun hHeld => ?_)
        clear hK K
        try simp only [Act.put, List.setIfInBounds_toArray, List.set_cons_zero, List.set_cons_succ]
        refine wpAnyH_take (i := 20) (oi := ({ dst := some 3, op := Op.assign (Operand.tmp 36), type := 32, pos := _, after := #[{ on := 19, ground := Ground.data }, { on := 19, ground := Ground.chain }, { on := 0, ground := Ground.phase }, { on := 1, ground := Ground.phase }, { on := 2, ground := Ground.phase }, { on := 3, ground := Ground.phase }, { on := 4, ground := Ground.phase }, { on := 5, ground := Ground.phase }, { on := 6, ground := Ground.phase }, { on := 7, ground := Ground.phase }, { on := 8, ground := Ground.phase }, { on := 9, ground := Ground.phase }, { on := 10, ground := Ground.phase }, { on := 11, ground := Ground.phase }, { on := 12, ground := Ground.phase }, { on := 13, ground := Ground.phase }, { on := 14, ground := Ground.phase }, { on := 15, ground := Ground.phase }, { on := 16, ground := Ground.phase }, { on := 17, ground := Ground.phase }, { on := 18, ground := Ground.phase }, { on := 19, ground := Ground.phase }], guard := none } : Oper)) (v := ?_) rfl (by kernel_rfl) (by kernel_rfl) (by kernel_rfl) (fun _ _ _ h => h) (Or.inl ⟨by rfl, ?_⟩) hHeld ?_
        rotate_left
        · (intro w hS; go_simp; try with_reducible rfl)
        try simp only [Act.put, List.setIfInBounds_toArray, List.set_cons_zero, List.set_cons_succ]
        refine wpAnyH_done (by kernel_rfl) ?_ _
        go_wp2
        go_meet
        exact ⟨_, _, rfl, o6, hHeld.1, hHeld.2.1, hHeld.2.2⟩
    · refine step_slB (zs := [x3, x2, x1, x0]) (vs := [(0, .int .u8 (x3.toNat : Int)), (1, .int .u8 (x2.toNat : Int)), (2, .int .u8 (x1.toNat : Int)), (3, .int .u8 (x0.toNat : Int))]) (by rfl) (w.heap.size + 1) (by rfl) (by rfl) (run_sl4 _ _ _ _) rfl (by decide) hHeld.2.2 ?_
      intro b4 w4 hb4 o4 d4
      try (have o5 := o5.below d4 (Nat.le_refl _))
      refine hK.out _ _ ⟨hHeld.1.below d4 hHeld.1.lt, hHeld.2.1.trans (d4.mono hHeld.2.1.size), Nat.le_trans hHeld.2.2 d4.size⟩ (fun hHeld => ?_)
      clear hK K
      try simp only [Act.put, List.setIfInBounds_toArray, List.set_cons_zero, List.set_cons_succ]
      refine wpAnyH_ready (rs := [1]) (by kernel_rfl) (by simp) ?_
      refine AllReadyH.cons (o := ({ dst := some 18, op := Op.call { callee := Callee.value (Operand.func 36), args := #[Operand.tmp 17], argTypes := #[31] }, type := 5, pos := _, after := #[{ on := 0, ground := Ground.data }], guard := none } : Oper)) rfl (fun K hK => ?_) AllReadyH.nil
      refine step_call (HA _) (enters_of Try.func36 (by kernel_rfl) rfl) _ _ rfl rfl rfl ?_
      rintro e v1 ⟨rfl, d1⟩
      try (have o4 := o4.below d1 (Nat.le_refl _))
      refine ⟨_, rfl, hK.out _ _ ⟨hHeld.1.below d1 hHeld.1.lt, hHeld.2.1.trans (d1.mono hHeld.2.1.size), Nat.le_trans hHeld.2.2 d1.size⟩ (fun hHeld => ?_)⟩
      clear hK K
      try simp only [Act.put, List.setIfInBounds_toArray, List.set_cons_zero, List.set_cons_succ]
      refine wpAnyH_ready (rs := [2]) (by kernel_rfl) (by simp) ?_
      refine AllReadyH.cons (o := ({ dst := some 19, op := Op.buildSlice 32 1 #[(0, Operand.tmp 18)], type := 32, pos := _, after := #[{ on := 1, ground := Ground.data }], guard := none } : Oper)) rfl (fun K hK => ?_) AllReadyH.nil
      refine step_slB (zs := [askN o.a]) (vs := [(0, .int .u8 ((askN o.a).toNat : Int))]) (by rfl) (w.heap.size + 1) (by rfl) (by rfl) (run_sl1 _) rfl (by decide) hHeld.2.2 ?_
      intro b5 w5 hb5 o5 d5
      try (have o4 := o4.below d5 (Nat.le_refl _))
      refine hK.out _ _ ⟨hHeld.1.below d5 hHeld.1.lt, hHeld.2.1.trans (d5.mono hHeld.2.1.size), Nat.le_trans hHeld.2.2 d5.size⟩ (fun hHeld => ?_)
      clear hK K
      try simp only [Act.put, List.setIfInBounds_toArray, List.set_cons_zero, List.set_cons_succ]
      refine wpAnyH_ready (rs := [19]) (by kernel_rfl) (by simp) ?_
      refine AllReadyH.cons (o := ({ dst := some 36, op := Op.call { callee := Callee.builtin Builtin.append, args := #[Operand.tmp 19, Operand.tmp 35], argTypes := #[32, 32] }, type := 32, pos := _, after := #[{ on := 2, ground := Ground.data }, { on := 18, ground := Ground.data }, { on := 1, ground := Ground.chain }], guard := none } : Oper)) rfl (fun K hK => ?_) AllReadyH.nil
      refine step_appB (N := 5) (by rfl) (by rfl) (by rfl) (by rfl) o5 o4.isB.1 (by intro h; cases h) (by decide) hHeld.2.2 rfl ?_
      intro a6 c6 w6 o6 d6
      refine hK.out _ _ ⟨hHeld.1.below d6 (by omega), hHeld.2.1.trans (d6.mono (by omega)), Nat.le_trans hHeld.2.2 d6.size⟩ (fun hHeld => ?_)
      clear hK K
      try simp only [Act.put, List.setIfInBounds_toArray, List.set_cons_zero, List.set_cons_succ]
      refine wpAnyH_take (i := 20) (oi := ({ dst := some 3, op := Op.assign (Operand.tmp 36), type := 32, pos := _, after := #[{ on := 19, ground := Ground.data }, { on := 19, ground := Ground.chain }, { on := 0, ground := Ground.phase }, { on := 1, ground := Ground.phase }, { on := 2, ground := Ground.phase }, { on := 3, ground := Ground.phase }, { on := 4, ground := Ground.phase }, { on := 5, ground := Ground.phase }, { on := 6, ground := Ground.phase }, { on := 7, ground := Ground.phase }, { on := 8, ground := Ground.phase }, { on := 9, ground := Ground.phase }, { on := 10, ground := Ground.phase }, { on := 11, ground := Ground.phase }, { on := 12, ground := Ground.phase }, { on := 13, ground := Ground.phase }, { on := 14, ground := Ground.phase }, { on := 15, ground := Ground.phase }, { on := 16, ground := Ground.phase }, { on := 17, ground := Ground.phase }, { on := 18, ground := Ground.phase }, { on := 19, ground := Ground.phase }], guard := none } : Oper)) (v := ?_) rfl (by kernel_rfl) (by kernel_rfl) (by kernel_rfl) (fun _ _ _ h => h) (Or.inl ⟨by rfl, ?_⟩) hHeld ?_
      rotate_left
      · (intro w hS; go_simp; try with_reducible rfl)
      try simp only [Act.put, List.setIfInBounds_toArray, List.set_cons_zero, List.set_cons_succ]
      refine wpAnyH_done (by kernel_rfl) ?_ _
      go_wp2
      go_meet
      exact ⟨_, _, rfl, o6, hHeld.1, hHeld.2.1, hHeld.2.2⟩
  case rest =>
  obtain ⟨a6, c6, rfl, o6, K6, B6, Z6⟩ := hcut
  obtain ⟨wd, hwd⟩ : ∃ z, z = wc := ⟨_, rfl⟩
  subst hwd
  clear s0 s1 s2 s3 HA K0 A0 z0 c0 c1 c2 c3
  have P6 := K6.place h
  go_wp2_with (at_builtin; first | (refine wpList_appB (N := 21) rfl rfl rfl rfl o6 P6 (by intro h; cases h) (by decide) Z6 rfl ?_; intro a7 c7 w7 o7 d7; have K7 := K6.below d7 (by omega); have B7 := B6.trans (d7.mono (by omega)); have Z7 := Nat.le_trans Z6 d7.size; have P7 := K7.source h) | (refine wpList_appB (N := 37) rfl rfl rfl rfl o7 P7 (by intro h; cases h) (by decide) Z7 rfl ?_; intro a8 c8 w8 o8 d8))
  go_ret
  exact ⟨_, _, rfl, by rw [HE.out]; exact o8.isB.1, o8.isB.2.1, B7.trans (d8.mono (by omega))⟩
end Go.Proofs.Ytpjlcmdidhdbcaa
