/- Proved here: the walk of RmcellMarks. Conditions: as each theorem states them. -/
import Derived.Test.YtfkikbnokjbnhaaAw
import Derived.Test.YtfkikbnokjbnhaaOp
import Derived.Test.YtfkikbnokjbnhaaRNx
namespace Go.Proofs.Ytfkikbnokjbnhaa
set_option linter.unusedSimpArgs false
set_option linter.unusedVariables false
open Go.RowKit

set_option maxRecDepth 100000 in
set_option maxHeartbeats 8000000 in
theorem marks_walk (r : Rm) (hr : r.Ok) (er : Nat) (her : er < 65536) (ci ni : Bool) (now peak least : Nat) (h1 : now < 65536) (h2 : peak < 65536) (h3 : least < 65536) (w : World) :
    Calls Try.prog 4 #[.agg (rmV r), .int .u16 (er : Int), .bool ci, .bool ni, .int .u16 (now : Int), .int .u16 (peak : Int), .int .u16 (least : Int)] w fun e w' => e = .returned (.bool true) ∧ Below w.heap.size w w' := by
  have K0 := bk_new w (rmV r) 25
  have A0 : Below w.heap.size w (w.alloc (.cells (rmV r) 25)) := (Below.refl _ w).alloc (Nat.le_refl _) _
  have HA := awake_calls (w.alloc (.cells (rmV r) 25))
  have M1 := fun w => mark_calls r hr er her ci ni w
  have M2 := fun w => refmark_calls r hr er her ci ni w
  have N1 := fun w => next_calls now peak least h1 h2 h3 (markN r er ci ni) (mark_ok hr er ci ni) w
  have N2 := fun w => refnext_calls now peak least h1 h2 h3 (markN r er ci ni) (mark_ok hr er ci ni) w
  have he : ∀ w, (binOp .eql 25 (.agg (rmV (markN r er ci ni))) (.agg (rmV (markN r er ci ni)))).run Try.prog w = .ok (.bool true) w := by
    intro w
    have := eqlB (markN r er ci ni) (markN r er ci ni) w
    rwa [eqB_self] at this
  generalize markN r er ci ni = m at *
  clear hr h1 h2 h3
  go_enter Try.func4, Try.ntmps4
  go_wp2_with fail
  refine HA.mono ?_
  rintro e w1 ⟨rfl, b1⟩
  have K1 := K0.below b1 K0.lt
  have B1 : Below w.heap.size w w1 := A0.trans (b1.mono (by simp))
  clear K0 A0 b1 HA
  go_wp2_with ((with_reducible show wpList _ _ _ (Oper.mk _ (Op.load 25 _) _ _ _ _ :: _) _ _; refine wpList_ld rfl rfl rfl (run_ldB _ _ _ _ (by assumption)) ?_; (try simp only [Act.put, List.setIfInBounds_toArray, List.set_cons_zero, List.set_cons_succ, World.size_alloc])))
  refine (M1 _).mono ?_
  rintro e w2 ⟨rfl, b2⟩
  have K2 := K1.below b2 K1.lt
  have B2 : Below w.heap.size w w2 := B1.trans (b2.mono B1.size)
  have X3 := bk_new w2 (rmV m) 31
  have K3 := K2.alloc (.cells (rmV m) 31)
  have B3 := B2.alloc B2.size (.cells (rmV m) 31)
  clear K1 B1 b2 K2 M1
  go_wp2_with (first | (with_reducible show wpList _ _ _ (Oper.mk _ (Op.alloc 31) _ _ _ _ :: Oper.mk _ (Op.store 31 _ _) _ _ _ _ :: _) _ _; refine wpList_def rfl rfl rfl rfl rfl zeroA (by rw [rmV_size]; exact sizeA) (by first | (with_reducible rfl) | rw [rmV_size, rmV_size]) (rmV_one _) rfl ?_; (try simp only [Act.put, List.setIfInBounds_toArray, List.set_cons_zero, List.set_cons_succ, World.size_alloc])) | (with_reducible show wpList _ _ _ (Oper.mk _ (Op.load 25 _) _ _ _ _ :: _) _ _; refine wpList_ld rfl rfl rfl (run_ldB _ _ _ _ (by assumption)) ?_; (try simp only [Act.put, List.setIfInBounds_toArray, List.set_cons_zero, List.set_cons_succ, World.size_alloc])))
  refine (M2 _).mono ?_
  rintro e w4 ⟨rfl, b4⟩
  have X4 := X3.below b4 X3.lt
  have B4 : Below w.heap.size w w4 := B3.trans (b4.mono B3.size)
  have Y5 := bk_new w4 (rmV m) 25
  have X5 := X4.alloc (.cells (rmV m) 25)
  have B5 := B4.alloc B4.size (.cells (rmV m) 25)
  clear X3 K3 B3 b4 X4 M2
  go_wp2_with ((with_reducible show wpList _ _ _ (Oper.mk _ (Op.alloc 25) _ _ _ _ :: Oper.mk _ (Op.store 25 _ _) _ _ _ _ :: _) _ _; refine wpList_def rfl rfl rfl rfl rfl zeroB (by rw [rmV_size]; exact sizeB) (by first | (with_reducible rfl) | rw [rmV_size, rmV_size]) (rmV_one _) rfl ?_; (try simp only [Act.put, List.setIfInBounds_toArray, List.set_cons_zero, List.set_cons_succ, World.size_alloc])))
  refine wp_region_held_drew (S := (fun w' => BK w' w2.heap.size (rmV m) 31 ∧ BK w' w4.heap.size (rmV m) 25 ∧ Below w.heap.size w w')) (by kernel_rfl) ⟨X5.drew, Y5.drew, B5.drew⟩ (fun hHeld => ?_)
  refine wpAnyH_take (i := 0) (oi := ({ dst := some 29, op := Op.load 31 (Operand.tmp 15), type := 31, pos := _, after := #[], guard := none } : Oper))  rfl (by kernel_rfl) (by kernel_rfl) (by kernel_rfl) (fun _ _ _ h => h) (yields_ld rfl rfl rfl (fun w hS => run_ldA w _ _ _ hS.1)) hHeld ?_
  try simp only [Act.put, List.setIfInBounds_toArray, List.set_cons_zero, List.set_cons_succ]
  refine wpAnyH_take (i := 1) (oi := ({ dst := some 30, op := Op.load 25 (Operand.tmp 16), type := 25, pos := _, after := #[], guard := none } : Oper))  rfl (by kernel_rfl) (by kernel_rfl) (by kernel_rfl) (fun _ _ _ h => h) (yields_ld rfl rfl rfl (fun w hS => run_ldB w _ _ _ hS.2.1)) hHeld ?_
  try simp only [Act.put, List.setIfInBounds_toArray, List.set_cons_zero, List.set_cons_succ]
  refine wpAnyH_take (i := 2) (oi := ({ dst := some 31, op := Op.binOp BinOp.eql 25 (Operand.tmp 29) (Operand.tmp 30) 25, type := 4, pos := _, after := #[{ on := 0, ground := Ground.data }, { on := 1, ground := Ground.data }], guard := none } : Oper)) (v := ?_) rfl (by kernel_rfl) (by kernel_rfl) (by kernel_rfl) (fun _ _ _ h => h) (Or.inl ⟨by rfl, ?_⟩) hHeld ?_
  rotate_left
  · (intro w hS; go_simp; try with_reducible rfl)
  try simp only [Act.put, List.setIfInBounds_toArray, List.set_cons_zero, List.set_cons_succ]
  refine wpAnyH_take (i := 3) (oi := ({ dst := some 32, op := Op.move (Operand.tmp 31), type := 4, pos := _, after := #[{ on := 2, ground := Ground.data }], guard := none } : Oper)) (v := ?_) rfl (by kernel_rfl) (by kernel_rfl) (by kernel_rfl) (fun _ _ _ h => h) (Or.inl ⟨by rfl, ?_⟩) hHeld ?_
  rotate_left
  · (intro w hS; go_simp; try with_reducible rfl)
  try simp only [Act.put, List.setIfInBounds_toArray, List.set_cons_zero, List.set_cons_succ]
  refine wpAnyH_take (i := 4) (oi := ({ dst := some 33, op := Op.move (Operand.tmp 4), type := 22, pos := _, after := #[{ on := 3, ground := Ground.guard }], guard := some (3, true) } : Oper)) (v := ?_) rfl (by kernel_rfl) (by kernel_rfl) (by kernel_rfl) (fun _ _ _ h => h) (Or.inl ⟨by rfl, ?_⟩) hHeld ?_
  rotate_left
  · (intro w hS; go_simp; try with_reducible rfl)
  try simp only [Act.put, List.setIfInBounds_toArray, List.set_cons_zero, List.set_cons_succ]
  refine wpAnyH_take (i := 5) (oi := ({ dst := some 34, op := Op.move (Operand.tmp 5), type := 22, pos := _, after := #[{ on := 3, ground := Ground.guard }], guard := some (3, true) } : Oper)) (v := ?_) rfl (by kernel_rfl) (by kernel_rfl) (by kernel_rfl) (fun _ _ _ h => h) (Or.inl ⟨by rfl, ?_⟩) hHeld ?_
  rotate_left
  · (intro w hS; go_simp; try with_reducible rfl)
  try simp only [Act.put, List.setIfInBounds_toArray, List.set_cons_zero, List.set_cons_succ]
  refine wpAnyH_take (i := 6) (oi := ({ dst := some 35, op := Op.move (Operand.tmp 6), type := 22, pos := _, after := #[{ on := 3, ground := Ground.guard }], guard := some (3, true) } : Oper)) (v := ?_) rfl (by kernel_rfl) (by kernel_rfl) (by kernel_rfl) (fun _ _ _ h => h) (Or.inl ⟨by rfl, ?_⟩) hHeld ?_
  rotate_left
  · (intro w hS; go_simp; try with_reducible rfl)
  try simp only [Act.put, List.setIfInBounds_toArray, List.set_cons_zero, List.set_cons_succ]
  refine wpAnyH_take (i := 7) (oi := ({ dst := some 36, op := Op.load 31 (Operand.tmp 15), type := 31, pos := _, after := #[{ on := 3, ground := Ground.guard }], guard := some (3, true) } : Oper))  rfl (by kernel_rfl) (by kernel_rfl) (by kernel_rfl) (fun _ _ _ h => h) (yields_ld rfl rfl rfl (fun w hS => run_ldA w _ _ _ hS.1)) hHeld ?_
  try simp only [Act.put, List.setIfInBounds_toArray, List.set_cons_zero, List.set_cons_succ]
  refine wpAnyH_take (i := 10) (oi := ({ dst := some 39, op := Op.move (Operand.tmp 4), type := 22, pos := _, after := #[{ on := 3, ground := Ground.guard }], guard := some (3, true) } : Oper)) (v := ?_) rfl (by kernel_rfl) (by kernel_rfl) (by kernel_rfl) (fun _ _ _ h => h) (Or.inl ⟨by rfl, ?_⟩) hHeld ?_
  rotate_left
  · (intro w hS; go_simp; try with_reducible rfl)
  try simp only [Act.put, List.setIfInBounds_toArray, List.set_cons_zero, List.set_cons_succ]
  refine wpAnyH_take (i := 11) (oi := ({ dst := some 40, op := Op.move (Operand.tmp 5), type := 22, pos := _, after := #[{ on := 3, ground := Ground.guard }], guard := some (3, true) } : Oper)) (v := ?_) rfl (by kernel_rfl) (by kernel_rfl) (by kernel_rfl) (fun _ _ _ h => h) (Or.inl ⟨by rfl, ?_⟩) hHeld ?_
  rotate_left
  · (intro w hS; go_simp; try with_reducible rfl)
  try simp only [Act.put, List.setIfInBounds_toArray, List.set_cons_zero, List.set_cons_succ]
  refine wpAnyH_take (i := 12) (oi := ({ dst := some 41, op := Op.move (Operand.tmp 6), type := 22, pos := _, after := #[{ on := 3, ground := Ground.guard }], guard := some (3, true) } : Oper)) (v := ?_) rfl (by kernel_rfl) (by kernel_rfl) (by kernel_rfl) (fun _ _ _ h => h) (Or.inl ⟨by rfl, ?_⟩) hHeld ?_
  rotate_left
  · (intro w hS; go_simp; try with_reducible rfl)
  try simp only [Act.put, List.setIfInBounds_toArray, List.set_cons_zero, List.set_cons_succ]
  refine wpAnyH_take (i := 13) (oi := ({ dst := some 42, op := Op.load 25 (Operand.tmp 16), type := 25, pos := _, after := #[{ on := 3, ground := Ground.guard }], guard := some (3, true) } : Oper))  rfl (by kernel_rfl) (by kernel_rfl) (by kernel_rfl) (fun _ _ _ h => h) (yields_ld rfl rfl rfl (fun w hS => run_ldB w _ _ _ hS.2.1)) hHeld ?_
  try simp only [Act.put, List.setIfInBounds_toArray, List.set_cons_zero, List.set_cons_succ]
  refine wpAnyH_ready (rs := [8]) (by kernel_rfl) (by simp) ?_
  refine AllReadyH.cons (o := ({ dst := some 37, op := Op.call { callee := Callee.value (Operand.func 17), args := #[Operand.tmp 33, Operand.tmp 34, Operand.tmp 35, Operand.tmp 36], argTypes := #[22, 22, 22, 31] }, type := 22, pos := _, after := #[{ on := 4, ground := Ground.data }, { on := 5, ground := Ground.data }, { on := 6, ground := Ground.data }, { on := 7, ground := Ground.data }, { on := 3, ground := Ground.chain }, { on := 3, ground := Ground.guard }], guard := some (3, true) } : Oper)) rfl (fun K hK => ?_) AllReadyH.nil
  refine step_call (N1 _) (enters_of Try.func17 (by kernel_rfl) rfl) _ _ rfl rfl rfl ?_
  rintro e w6 ⟨⟨c, rfl, hc⟩, b6⟩
  have HC : Hid (IsN (nextN now peak least m) c) := hc
  have hc2 := (isN_right hc).2
  have hw : IntKind.i64.wrap (c : Int) = (c : Int) := wraps_i64 _ (by omega) (by omega)
  clear hc
  refine ⟨_, rfl, hK.out _ _ ⟨hHeld.1.below b6 hHeld.1.lt, hHeld.2.1.below b6 hHeld.2.1.lt, hHeld.2.2.trans (b6.mono hHeld.2.2.size)⟩ (fun hHeld => ?_)⟩
  clear hK K
  try simp only [Act.put, List.setIfInBounds_toArray, List.set_cons_zero, List.set_cons_succ]
  refine wpAnyH_take (i := 9) (oi := ({ dst := some 38, op := Op.convert 22 3 (Operand.tmp 37), type := 3, pos := _, after := #[{ on := 8, ground := Ground.data }, { on := 3, ground := Ground.guard }], guard := some (3, true) } : Oper)) (v := ?_) rfl (by kernel_rfl) (by kernel_rfl) (by kernel_rfl) (fun _ _ _ h => h) (Or.inl ⟨by rfl, ?_⟩) hHeld ?_
  rotate_left
  · (intro w hS; go_simp; try with_reducible rfl)
  try simp only [Act.put, List.setIfInBounds_toArray, List.set_cons_zero, List.set_cons_succ]
  refine wpAnyH_ready (rs := [14]) (by kernel_rfl) (by simp) ?_
  refine AllReadyH.cons (o := ({ dst := some 43, op := Op.call { callee := Callee.value (Operand.func 18), args := #[Operand.tmp 39, Operand.tmp 40, Operand.tmp 41, Operand.tmp 42], argTypes := #[22, 22, 22, 25] }, type := 3, pos := _, after := #[{ on := 10, ground := Ground.data }, { on := 11, ground := Ground.data }, { on := 12, ground := Ground.data }, { on := 13, ground := Ground.data }, { on := 8, ground := Ground.chain }, { on := 3, ground := Ground.guard }], guard := some (3, true) } : Oper)) rfl (fun K hK => ?_) AllReadyH.nil
  refine step_call (N2 _) (enters_of Try.func18 (by kernel_rfl) rfl) _ _ rfl rfl rfl ?_
  rintro e w7 ⟨⟨d, rfl, hd⟩, b7⟩
  obtain rfl := isN_unique HC.out hd
  refine ⟨_, rfl, hK.out _ _ ⟨hHeld.1.below b7 hHeld.1.lt, hHeld.2.1.below b7 hHeld.2.1.lt, hHeld.2.2.trans (b7.mono hHeld.2.2.size)⟩ (fun hHeld => ?_)⟩
  clear hK K
  try simp only [Act.put, List.setIfInBounds_toArray, List.set_cons_zero, List.set_cons_succ]
  refine wpAnyH_take (i := 15) (oi := ({ dst := some 44, op := Op.binOp BinOp.eql 3 (Operand.tmp 38) (Operand.tmp 43) 3, type := 4, pos := _, after := #[{ on := 9, ground := Ground.data }, { on := 14, ground := Ground.data }, { on := 3, ground := Ground.guard }], guard := some (3, true) } : Oper)) (v := ?_) rfl (by kernel_rfl) (by kernel_rfl) (by kernel_rfl) (fun _ _ _ h => h) (Or.inl ⟨by rfl, ?_⟩) hHeld ?_
  rotate_left
  · (intro w hS; go_simp; try with_reducible rfl)
  try simp only [Act.put, List.setIfInBounds_toArray, List.set_cons_zero, List.set_cons_succ]
  refine wpAnyH_take (i := 16) (oi := ({ dst := some 45, op := Op.pick (Operand.tmp 32) (Operand.tmp 44) (Operand.const (Value.bool false)), type := 4, pos := _, after := #[{ on := 3, ground := Ground.data }, { on := 15, ground := Ground.data }], guard := none } : Oper)) (v := ?_) rfl (by kernel_rfl) (by kernel_rfl) (by kernel_rfl) (fun _ _ _ h => h) (Or.inl ⟨by rfl, ?_⟩) hHeld ?_
  rotate_left
  · (intro w hS; go_simp; try with_reducible rfl)
  try simp only [Act.put, List.setIfInBounds_toArray, List.set_cons_zero, List.set_cons_succ]
  refine wpAnyH_take (i := 17) (oi := ({ dst := some 14, op := Op.assign (Operand.tmp 45), type := 4, pos := _, after := #[{ on := 16, ground := Ground.data }, { on := 14, ground := Ground.chain }, { on := 0, ground := Ground.phase }, { on := 1, ground := Ground.phase }, { on := 2, ground := Ground.phase }, { on := 3, ground := Ground.phase }, { on := 4, ground := Ground.phase }, { on := 5, ground := Ground.phase }, { on := 6, ground := Ground.phase }, { on := 7, ground := Ground.phase }, { on := 8, ground := Ground.phase }, { on := 9, ground := Ground.phase }, { on := 10, ground := Ground.phase }, { on := 11, ground := Ground.phase }, { on := 12, ground := Ground.phase }, { on := 13, ground := Ground.phase }, { on := 14, ground := Ground.phase }, { on := 15, ground := Ground.phase }, { on := 16, ground := Ground.phase }], guard := none } : Oper)) (v := ?_) rfl (by kernel_rfl) (by kernel_rfl) (by kernel_rfl) (fun _ _ _ h => h) (Or.inl ⟨by rfl, ?_⟩) hHeld ?_
  rotate_left
  · (intro w hS; go_simp; try with_reducible rfl)
  try simp only [Act.put, List.setIfInBounds_toArray, List.set_cons_zero, List.set_cons_succ]
  refine wpAnyH_done (by kernel_rfl) ?_ _
  skip
  go_wp2
  go_ret
  exact ⟨rfl, hHeld.2.2⟩
end Go.Proofs.Ytfkikbnokjbnhaa
