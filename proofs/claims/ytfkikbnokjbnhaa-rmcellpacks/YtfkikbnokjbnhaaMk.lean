/- Proved here: what is marked, and sent back, by the code's and by the document's functions. Conditions: as each theorem states them. -/
import Derived.Test.YtfkikbnokjbnhaaPt
import Derived.Test.YtfkikbnokjbnhaaRf
namespace Go.Proofs.Ytfkikbnokjbnhaa
set_option linter.unusedSimpArgs false
set_option linter.unusedVariables false
open Go.RowKit

set_option maxHeartbeats 4000000 in
theorem mark_calls (r : Rm) (h : r.Ok) (er : Nat) (her : er < 65536) (ci ni : Bool) (w : World) : Calls Try.prog 15 #[.agg (rmV r), .int .u16 er, .bool ci, .bool ni] w fun e w' => e = .returned (.agg (rmV (markN r er ci ni))) ∧ Below w.heap.size w w' := by
  have K0 := (bk_new w (rmV r) 31).alloc (.cells (rmV rm0) 31)
  have R0 := bk_new (w.alloc (.cells (rmV r) 31)) (rmV rm0) 31
  rw [World.size_alloc] at R0
  have A0 : Below w.heap.size w ((w.alloc (.cells (rmV r) 31)).alloc (.cells (rmV rm0) 31)) := ((Below.refl _ w).alloc (Nat.le_refl _) _).alloc (by simp) _
  have HR := fun w => right_calls er her w
  have hm : Hid (markN r er ci ni = ⟨r.bk, r.nr, r.ci || ci, r.ni || ni, r.ra, if riB er = true then min r.er er else r.er, r.cc, r.mc, r.ql, r.sn⟩) := rfl
  generalize markN r er ci ni = q at *
  have hb := h.er
  clear h
  go_enter Try.func15, Try.ntmps15
  go_wp2_with ((with_reducible show wpList _ _ _ (Oper.mk _ (Op.alloc 31) _ _ _ _ :: _) _ _; refine wpList_al rfl rfl zeroA ?_; (try simp only [Act.put, List.setIfInBounds_toArray, List.set_cons_zero, List.set_cons_succ, World.size_alloc])))
  refine (HR _).mono ?_
  rintro e w1 ⟨rfl, rfl⟩
  generalize (w.alloc (.cells (rmV r) 31)).alloc (.cells (rmV rm0) 31) = W at *
  obtain ⟨c0, c1, c2, c3, c4, c5, c6, c7, c8, c9⟩ := K0.rm
  have f2 := K0.frozen 2
  have f3 := K0.frozen 3
  have f5 := K0.frozen 5
  have ne : w.heap.size + 1 ≠ w.heap.size := by omega
  cases hr : riB er with
  | true =>
    rw [hr, if_pos rfl] at hm
    have KT : BK (((W.setCell ⟨w.heap.size, 5, none⟩ (.int .u16 (min r.er er : Nat))).setCell ⟨w.heap.size, 2, none⟩ (.bool (r.ci || ci))).setCell ⟨w.heap.size, 3, none⟩ (.bool (r.ni || ni))) w.heap.size (rmV q) 31 := by rw [hm.out]; exact ((K0.set 5 (.int .u16 (min r.er er : Nat))).set 2 (.bool (r.ci || ci))).set 3 (.bool (r.ni || ni))
    have RT := ((R0.setOther (p := ⟨w.heap.size, 5, none⟩) ne (.int .u16 (min r.er er : Nat))).setOther (p := ⟨w.heap.size, 2, none⟩) ne (.bool (r.ci || ci))).setOther (p := ⟨w.heap.size, 3, none⟩) ne (.bool (r.ni || ni))
    have BT := ((A0.setCell (p := ⟨w.heap.size, 5, none⟩) (Nat.le_refl _) (.int .u16 (min r.er er : Nat))).setCell (p := ⟨w.heap.size, 2, none⟩) (Nat.le_refl _) (.bool (r.ci || ci))).setCell (p := ⟨w.heap.size, 3, none⟩) (Nat.le_refl _) (.bool (r.ni || ni))
    clear hr hm K0 R0 A0 ne HR
    rcases Nat.lt_or_ge er r.er with hl | hl
    · rw [Nat.min_eq_right (Nat.le_of_lt hl)] at KT RT BT
      cases hci : r.ci <;> cases hni : r.ni <;> rw [hci] at c2 KT RT BT <;> rw [hni] at c3 KT RT BT <;> simp only [Bool.true_or, Bool.false_or] at KT RT BT <;> (
      clear hci hni
      go_wp2_with (first | (with_reducible show wpList _ _ _ (Oper.mk _ (Op.load 31 _) _ _ _ _ :: _) _ _; refine wpList_ld rfl rfl rfl (run_ldA _ _ _ _ (by assumption)) ?_; (try simp only [Act.put, List.setIfInBounds_toArray, List.set_cons_zero, List.set_cons_succ, World.size_alloc])) | ((with_reducible show wpList _ _ _ (Oper.mk _ (Op.store 31 _ _) _ _ _ _ :: _) _ _; refine wpList_st rfl rfl rfl rfl (by assumption) (by rw [rmV_size]; exact sizeA) (by first | (with_reducible rfl) | rw [rmV_size, rmV_size]) (rmV_one _) ?_); intro w4 K4 b4 but4 z4))
      refine bodyPost_ret (v := .agg (rmV q)) (results_cell_row Try.results15 _ _ _ _ _ _ _ rfl K4 Try.underlying31 rfl sizeA) rfl ⟨rfl, ?_⟩
      exact BT.trans (b4 _ (Nat.le_succ _)))
    · rw [Nat.min_eq_left hl] at KT RT BT
      cases hci : r.ci <;> cases hni : r.ni <;> rw [hci] at c2 KT RT BT <;> rw [hni] at c3 KT RT BT <;> simp only [Bool.true_or, Bool.false_or] at KT RT BT <;> (
      clear hci hni
      go_wp2_with (first | (with_reducible show wpList _ _ _ (Oper.mk _ (Op.load 31 _) _ _ _ _ :: _) _ _; refine wpList_ld rfl rfl rfl (run_ldA _ _ _ _ (by assumption)) ?_; (try simp only [Act.put, List.setIfInBounds_toArray, List.set_cons_zero, List.set_cons_succ, World.size_alloc])) | ((with_reducible show wpList _ _ _ (Oper.mk _ (Op.store 31 _ _) _ _ _ _ :: _) _ _; refine wpList_st rfl rfl rfl rfl (by assumption) (by rw [rmV_size]; exact sizeA) (by first | (with_reducible rfl) | rw [rmV_size, rmV_size]) (rmV_one _) ?_); intro w4 K4 b4 but4 z4))
      refine bodyPost_ret (v := .agg (rmV q)) (results_cell_row Try.results15 _ _ _ _ _ _ _ rfl K4 Try.underlying31 rfl sizeA) rfl ⟨rfl, ?_⟩
      exact BT.trans (b4 _ (Nat.le_succ _)))
  | false =>
    rw [hr, if_neg (by decide)] at hm
    have KT : BK ((W.setCell ⟨w.heap.size, 2, none⟩ (.bool (r.ci || ci))).setCell ⟨w.heap.size, 3, none⟩ (.bool (r.ni || ni))) w.heap.size (rmV q) 31 := by rw [hm.out]; exact (K0.set 2 (.bool (r.ci || ci))).set 3 (.bool (r.ni || ni))
    have RT := (R0.setOther (p := ⟨w.heap.size, 2, none⟩) ne (.bool (r.ci || ci))).setOther (p := ⟨w.heap.size, 3, none⟩) ne (.bool (r.ni || ni))
    have BT := (A0.setCell (p := ⟨w.heap.size, 2, none⟩) (Nat.le_refl _) (.bool (r.ci || ci))).setCell (p := ⟨w.heap.size, 3, none⟩) (Nat.le_refl _) (.bool (r.ni || ni))
    clear hr hm K0 R0 A0 ne HR
    cases hci : r.ci <;> cases hni : r.ni <;> rw [hci] at c2 KT RT BT <;> rw [hni] at c3 KT RT BT <;> simp only [Bool.true_or, Bool.false_or] at KT RT BT <;> (
      clear hci hni
      go_wp2_with (first | (with_reducible show wpList _ _ _ (Oper.mk _ (Op.load 31 _) _ _ _ _ :: _) _ _; refine wpList_ld rfl rfl rfl (run_ldA _ _ _ _ (by assumption)) ?_; (try simp only [Act.put, List.setIfInBounds_toArray, List.set_cons_zero, List.set_cons_succ, World.size_alloc])) | ((with_reducible show wpList _ _ _ (Oper.mk _ (Op.store 31 _ _) _ _ _ _ :: _) _ _; refine wpList_st rfl rfl rfl rfl (by assumption) (by rw [rmV_size]; exact sizeA) (by first | (with_reducible rfl) | rw [rmV_size, rmV_size]) (rmV_one _) ?_); intro w4 K4 b4 but4 z4))
      refine bodyPost_ret (v := .agg (rmV q)) (results_cell_row Try.results15 _ _ _ _ _ _ _ rfl K4 Try.underlying31 rfl sizeA) rfl ⟨rfl, ?_⟩
      exact BT.trans (b4 _ (Nat.le_succ _)))

set_option maxHeartbeats 4000000 in
theorem refmark_calls (r : Rm) (h : r.Ok) (er : Nat) (her : er < 65536) (ci ni : Bool) (w : World) : Calls Try.prog 16 #[.agg (rmV r), .int .u16 er, .bool ci, .bool ni] w fun e w' => e = .returned (.agg (rmV (markN r er ci ni))) ∧ Below w.heap.size w w' := by
  have K0 := (bk_new w (rmV r) 25).alloc (.cells (rmV rm0) 25)
  have R0 := bk_new (w.alloc (.cells (rmV r) 25)) (rmV rm0) 25
  rw [World.size_alloc] at R0
  have A0 : Below w.heap.size w ((w.alloc (.cells (rmV r) 25)).alloc (.cells (rmV rm0) 25)) := ((Below.refl _ w).alloc (Nat.le_refl _) _).alloc (by simp) _
  have HR := fun w => refright_calls er her w
  have hm : Hid (markN r er ci ni = ⟨r.bk, r.nr, r.ci || ci, r.ni || ni, r.ra, if riB er = true then min r.er er else r.er, r.cc, r.mc, r.ql, r.sn⟩) := rfl
  generalize markN r er ci ni = q at *
  have hb := h.er
  clear h
  go_enter Try.func16, Try.ntmps16
  go_wp2_with ((with_reducible show wpList _ _ _ (Oper.mk _ (Op.alloc 25) _ _ _ _ :: _) _ _; refine wpList_al rfl rfl zeroB ?_; (try simp only [Act.put, List.setIfInBounds_toArray, List.set_cons_zero, List.set_cons_succ, World.size_alloc])))
  refine (HR _).mono ?_
  rintro e w1 ⟨rfl, rfl⟩
  generalize (w.alloc (.cells (rmV r) 25)).alloc (.cells (rmV rm0) 25) = W at *
  obtain ⟨c0, c1, c2, c3, c4, c5, c6, c7, c8, c9⟩ := K0.rm
  have f2 := K0.frozen 2
  have f3 := K0.frozen 3
  have f5 := K0.frozen 5
  have ne : w.heap.size + 1 ≠ w.heap.size := by omega
  cases hr : riB er with
  | true =>
    rw [hr, if_pos rfl] at hm
    have KT : BK (((W.setCell ⟨w.heap.size, 5, none⟩ (.int .u16 (min r.er er : Nat))).setCell ⟨w.heap.size, 2, none⟩ (.bool (r.ci || ci))).setCell ⟨w.heap.size, 3, none⟩ (.bool (r.ni || ni))) w.heap.size (rmV q) 25 := by rw [hm.out]; exact ((K0.set 5 (.int .u16 (min r.er er : Nat))).set 2 (.bool (r.ci || ci))).set 3 (.bool (r.ni || ni))
    have RT := ((R0.setOther (p := ⟨w.heap.size, 5, none⟩) ne (.int .u16 (min r.er er : Nat))).setOther (p := ⟨w.heap.size, 2, none⟩) ne (.bool (r.ci || ci))).setOther (p := ⟨w.heap.size, 3, none⟩) ne (.bool (r.ni || ni))
    have BT := ((A0.setCell (p := ⟨w.heap.size, 5, none⟩) (Nat.le_refl _) (.int .u16 (min r.er er : Nat))).setCell (p := ⟨w.heap.size, 2, none⟩) (Nat.le_refl _) (.bool (r.ci || ci))).setCell (p := ⟨w.heap.size, 3, none⟩) (Nat.le_refl _) (.bool (r.ni || ni))
    clear hr hm K0 R0 A0 ne HR
    rcases Nat.lt_or_ge er r.er with hl | hl
    · rw [Nat.min_eq_right (Nat.le_of_lt hl)] at KT RT BT
      cases hci : r.ci <;> cases hni : r.ni <;> rw [hci] at c2 KT RT BT <;> rw [hni] at c3 KT RT BT <;> simp only [Bool.true_or, Bool.false_or] at KT RT BT <;> (
      clear hci hni
      go_wp2_with (first | (with_reducible show wpList _ _ _ (Oper.mk _ (Op.load 25 _) _ _ _ _ :: _) _ _; refine wpList_ld rfl rfl rfl (run_ldB _ _ _ _ (by assumption)) ?_; (try simp only [Act.put, List.setIfInBounds_toArray, List.set_cons_zero, List.set_cons_succ, World.size_alloc])) | ((with_reducible show wpList _ _ _ (Oper.mk _ (Op.store 25 _ _) _ _ _ _ :: _) _ _; refine wpList_st rfl rfl rfl rfl (by assumption) (by rw [rmV_size]; exact sizeB) (by first | (with_reducible rfl) | rw [rmV_size, rmV_size]) (rmV_one _) ?_); intro w4 K4 b4 but4 z4))
      refine bodyPost_ret (v := .agg (rmV q)) (results_cell_row Try.results16 _ _ _ _ _ _ _ rfl K4 Try.underlying25 rfl sizeB) rfl ⟨rfl, ?_⟩
      exact BT.trans (b4 _ (Nat.le_succ _)))
    · rw [Nat.min_eq_left hl] at KT RT BT
      cases hci : r.ci <;> cases hni : r.ni <;> rw [hci] at c2 KT RT BT <;> rw [hni] at c3 KT RT BT <;> simp only [Bool.true_or, Bool.false_or] at KT RT BT <;> (
      clear hci hni
      go_wp2_with (first | (with_reducible show wpList _ _ _ (Oper.mk _ (Op.load 25 _) _ _ _ _ :: _) _ _; refine wpList_ld rfl rfl rfl (run_ldB _ _ _ _ (by assumption)) ?_; (try simp only [Act.put, List.setIfInBounds_toArray, List.set_cons_zero, List.set_cons_succ, World.size_alloc])) | ((with_reducible show wpList _ _ _ (Oper.mk _ (Op.store 25 _ _) _ _ _ _ :: _) _ _; refine wpList_st rfl rfl rfl rfl (by assumption) (by rw [rmV_size]; exact sizeB) (by first | (with_reducible rfl) | rw [rmV_size, rmV_size]) (rmV_one _) ?_); intro w4 K4 b4 but4 z4))
      refine bodyPost_ret (v := .agg (rmV q)) (results_cell_row Try.results16 _ _ _ _ _ _ _ rfl K4 Try.underlying25 rfl sizeB) rfl ⟨rfl, ?_⟩
      exact BT.trans (b4 _ (Nat.le_succ _)))
  | false =>
    rw [hr, if_neg (by decide)] at hm
    have KT : BK ((W.setCell ⟨w.heap.size, 2, none⟩ (.bool (r.ci || ci))).setCell ⟨w.heap.size, 3, none⟩ (.bool (r.ni || ni))) w.heap.size (rmV q) 25 := by rw [hm.out]; exact (K0.set 2 (.bool (r.ci || ci))).set 3 (.bool (r.ni || ni))
    have RT := (R0.setOther (p := ⟨w.heap.size, 2, none⟩) ne (.bool (r.ci || ci))).setOther (p := ⟨w.heap.size, 3, none⟩) ne (.bool (r.ni || ni))
    have BT := (A0.setCell (p := ⟨w.heap.size, 2, none⟩) (Nat.le_refl _) (.bool (r.ci || ci))).setCell (p := ⟨w.heap.size, 3, none⟩) (Nat.le_refl _) (.bool (r.ni || ni))
    clear hr hm K0 R0 A0 ne HR
    cases hci : r.ci <;> cases hni : r.ni <;> rw [hci] at c2 KT RT BT <;> rw [hni] at c3 KT RT BT <;> simp only [Bool.true_or, Bool.false_or] at KT RT BT <;> (
      clear hci hni
      go_wp2_with (first | (with_reducible show wpList _ _ _ (Oper.mk _ (Op.load 25 _) _ _ _ _ :: _) _ _; refine wpList_ld rfl rfl rfl (run_ldB _ _ _ _ (by assumption)) ?_; (try simp only [Act.put, List.setIfInBounds_toArray, List.set_cons_zero, List.set_cons_succ, World.size_alloc])) | ((with_reducible show wpList _ _ _ (Oper.mk _ (Op.store 25 _ _) _ _ _ _ :: _) _ _; refine wpList_st rfl rfl rfl rfl (by assumption) (by rw [rmV_size]; exact sizeB) (by first | (with_reducible rfl) | rw [rmV_size, rmV_size]) (rmV_one _) ?_); intro w4 K4 b4 but4 z4))
      refine bodyPost_ret (v := .agg (rmV q)) (results_cell_row Try.results16 _ _ _ _ _ _ _ rfl K4 Try.underlying25 rfl sizeB) rfl ⟨rfl, ?_⟩
      exact BT.trans (b4 _ (Nat.le_succ _)))

set_option maxHeartbeats 4000000 in
theorem turn_calls (r : Rm) (w : World) : Calls Try.prog 21 #[.agg (rmV r)] w fun e w' => e = .returned (.agg (rmV (turnN r))) ∧ Below w.heap.size w w' := by
  have K0 := (bk_new w (rmV r) 31).alloc (.cells (rmV rm0) 31)
  have R0 := bk_new (w.alloc (.cells (rmV r) 31)) (rmV rm0) 31
  rw [World.size_alloc] at R0
  have A0 : Below w.heap.size w ((w.alloc (.cells (rmV r) 31)).alloc (.cells (rmV rm0) 31)) := ((Below.refl _ w).alloc (Nat.le_refl _) _).alloc (by simp) _
  obtain ⟨c0, c1, _⟩ := K0.rm
  have f0 := K0.frozen 0
  have f1 := K0.frozen 1
  have ne : w.heap.size + 1 ≠ w.heap.size := by omega
  have KT : BK _ w.heap.size (rmV (turnN r)) 31 := (K0.set 0 (.bool true)).set 1 (.bool false)
  have RT := (R0.setOther (p := ⟨w.heap.size, 0, none⟩) ne (.bool true)).setOther (p := ⟨w.heap.size, 1, none⟩) ne (.bool false)
  have BT := (A0.setCell (p := ⟨w.heap.size, 0, none⟩) (Nat.le_refl _) (.bool true)).setCell (p := ⟨w.heap.size, 1, none⟩) (Nat.le_refl _) (.bool false)
  generalize hW : (w.alloc (.cells (rmV r) 31)).alloc (.cells (rmV rm0) 31) = W at *
  clear K0 R0 A0 ne
  go_enter Try.func21, Try.ntmps21
  go_wp2_with (first | (with_reducible show wpList _ _ _ (Oper.mk _ (Op.alloc 31) _ _ _ _ :: _) _ _; refine wpList_al rfl rfl zeroA ?_; (try simp only [Act.put, List.setIfInBounds_toArray, List.set_cons_zero, List.set_cons_succ, World.size_alloc])) | (with_reducible show wpList _ _ _ (Oper.mk _ (Op.load 31 _) _ _ _ _ :: _) _ _; refine wpList_ld rfl rfl rfl (run_ldA _ _ _ _ (by assumption)) ?_; (try simp only [Act.put, List.setIfInBounds_toArray, List.set_cons_zero, List.set_cons_succ, World.size_alloc])) | ((with_reducible show wpList _ _ _ (Oper.mk _ (Op.store 31 _ _) _ _ _ _ :: _) _ _; refine wpList_st rfl rfl rfl rfl (by assumption) (by rw [rmV_size]; exact sizeA) (by first | (with_reducible rfl) | rw [rmV_size, rmV_size]) (rmV_one _) ?_); intro w4 K4 b4 but4 z4))
  refine bodyPost_ret (v := .agg (rmV (turnN r))) (results_cell_row Try.results21 _ _ _ _ _ _ _ rfl K4 Try.underlying31 rfl sizeA) rfl ⟨rfl, ?_⟩
  exact BT.trans (b4 _ (Nat.le_succ _))
end Go.Proofs.Ytfkikbnokjbnhaa
