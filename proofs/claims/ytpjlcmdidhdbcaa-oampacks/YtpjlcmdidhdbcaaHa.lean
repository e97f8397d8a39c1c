/- Proved here: what a kind has of a maintenance cell, and whether it can be. Conditions: as each theorem states them. -/
import Derived.BigRegion
import Derived.Deep.RegionLaw
import Derived.Test.YtpjlcmdidhdbcaaOw
namespace Go.Proofs.Ytpjlcmdidhdbcaa
set_option linter.unusedSimpArgs false
set_option linter.unusedVariables false
open Go.RowKit

set_option maxHeartbeats 4000000 in
theorem had_calls (o : Om) (h : o.Ok) (w : World) : Calls Try.prog 26 #[.agg (omV o)] w fun e w' => e = .returned (.agg (omV (hadN o))) ∧ Below w.heap.size w w' := by
  have K0 := (bk_new w (omV o) 31).alloc (.cells (omV om0) 31)
  have R0 := bk_new (w.alloc (.cells (omV o) 31)) (omV om0) 31
  rw [World.size_alloc] at R0
  have A0 : Below w.heap.size w ((w.alloc (.cells (omV o) 31)).alloc (.cells (omV om0) 31)) := ((Below.refl _ w).alloc (Nat.le_refl _) _).alloc (by simp) _
  obtain ⟨c0, c1, c2, c3⟩ := K0.om
  have hq : (hadN o).Ok := had_ok h
  have HD : Hid (hadN o = if o.k = 0 ∨ o.k = 1 then ⟨o.k, o.d, false, 0, o.p, z16⟩ else if o.k = 4 then ⟨4, 0, false, 0, z16, z16⟩ else if o.k = 8 then ⟨8, 0, o.a, o.t, o.p, o.s⟩ else om0) := rfl
  generalize hadN o = q at *
  by_cases h0 : o.k = 0
  · rw [if_pos (.inl h0), h0] at HD
    rw [h0] at c0
    obtain rfl := HD.out
    clear h0 HD
    go_enter Try.func26, Try.ntmps26
    go_wp2_with (first | (with_reducible show wpList _ _ _ (Oper.mk _ (Op.alloc 31) _ _ _ _ :: _) _ _; refine wpList_al rfl rfl zeroA ?_; (try simp only [Act.put, List.setIfInBounds_toArray, List.set_cons_zero, List.set_cons_succ, World.size_alloc])) | (with_reducible show wpList _ _ _ (Oper.mk _ (Op.load 23 _) _ _ _ _ :: _) _ _; refine wpList_ld rfl rfl rfl (run_ldPl _ _ _ _ (by assumption) (by first | assumption | exact om0_ok)) ?_; (try simp only [Act.put, List.setIfInBounds_toArray, List.set_cons_zero, List.set_cons_succ, World.size_alloc])) | (with_reducible show wpList _ _ _ (Oper.mk _ (Op.build 31 _) _ _ _ _ :: _) _ _; refine wpList_bld (vs := [(0, .int .i64 _), (1, .int .u8 _), (4, .agg (payV _))]) rfl rfl rfl (run_bldOne _ _ _ _ (by first | assumption | exact z16_len | exact ones_len | exact Om.Ok.p (by assumption) | exact Om.Ok.s (by assumption))) ?_; (try simp only [Act.put, List.setIfInBounds_toArray, List.set_cons_zero, List.set_cons_succ, World.size_alloc])) | ((with_reducible show wpList _ _ _ (Oper.mk _ (Op.store 31 _ _) _ _ _ _ :: _) _ _; refine wpList_st rfl rfl rfl rfl (by assumption) (omV_hiA (by first | assumption | exact om0_ok)) (omV_same (by first | assumption | exact om0_ok) (by first | assumption | exact om0_ok)) (omV_one _) ?_); intro w4 K4 b4 but4 z4))
    refine bodyPost_ret (v := .agg (omV _)) (results_cell_row Try.results26 _ _ _ _ _ _ _ rfl K4 Try.underlying31 rfl (omV_hiA hq)) rfl ⟨rfl, ?_⟩
    exact A0.trans (b4 _ (Nat.le_succ _))
  by_cases h1 : o.k = 1
  · rw [if_pos (.inr h1), h1] at HD
    rw [h1] at c0
    obtain rfl := HD.out
    clear h0 h1 HD
    go_enter Try.func26, Try.ntmps26
    go_wp2_with (first | (with_reducible show wpList _ _ _ (Oper.mk _ (Op.alloc 31) _ _ _ _ :: _) _ _; refine wpList_al rfl rfl zeroA ?_; (try simp only [Act.put, List.setIfInBounds_toArray, List.set_cons_zero, List.set_cons_succ, World.size_alloc])) | (with_reducible show wpList _ _ _ (Oper.mk _ (Op.load 23 _) _ _ _ _ :: _) _ _; refine wpList_ld rfl rfl rfl (run_ldPl _ _ _ _ (by assumption) (by first | assumption | exact om0_ok)) ?_; (try simp only [Act.put, List.setIfInBounds_toArray, List.set_cons_zero, List.set_cons_succ, World.size_alloc])) | (with_reducible show wpList _ _ _ (Oper.mk _ (Op.build 31 _) _ _ _ _ :: _) _ _; refine wpList_bld (vs := [(0, .int .i64 _), (1, .int .u8 _), (4, .agg (payV _))]) rfl rfl rfl (run_bldOne _ _ _ _ (by first | assumption | exact z16_len | exact ones_len | exact Om.Ok.p (by assumption) | exact Om.Ok.s (by assumption))) ?_; (try simp only [Act.put, List.setIfInBounds_toArray, List.set_cons_zero, List.set_cons_succ, World.size_alloc])) | ((with_reducible show wpList _ _ _ (Oper.mk _ (Op.store 31 _ _) _ _ _ _ :: _) _ _; refine wpList_st rfl rfl rfl rfl (by assumption) (omV_hiA (by first | assumption | exact om0_ok)) (omV_same (by first | assumption | exact om0_ok) (by first | assumption | exact om0_ok)) (omV_one _) ?_); intro w4 K4 b4 but4 z4))
    refine bodyPost_ret (v := .agg (omV _)) (results_cell_row Try.results26 _ _ _ _ _ _ _ rfl K4 Try.underlying31 rfl (omV_hiA hq)) rfl ⟨rfl, ?_⟩
    exact A0.trans (b4 _ (Nat.le_succ _))
  rw [if_neg (by omega)] at HD
  by_cases h4 : o.k = 4
  · rw [if_pos h4] at HD
    rw [h4] at c0
    obtain rfl := HD.out
    clear h0 h1 h4 HD
    go_enter Try.func26, Try.ntmps26
    go_wp2_with (first | (with_reducible show wpList _ _ _ (Oper.mk _ (Op.alloc 31) _ _ _ _ :: _) _ _; refine wpList_al rfl rfl zeroA ?_; (try simp only [Act.put, List.setIfInBounds_toArray, List.set_cons_zero, List.set_cons_succ, World.size_alloc])) | (with_reducible show wpList _ _ _ (Oper.mk _ (Op.build 31 _) _ _ _ _ :: _) _ _; refine wpList_bld (vs := [(0, .int .i64 _)]) rfl rfl rfl (run_bldKind _ _) ?_; (try simp only [Act.put, List.setIfInBounds_toArray, List.set_cons_zero, List.set_cons_succ, World.size_alloc])) | ((with_reducible show wpList _ _ _ (Oper.mk _ (Op.store 31 _ _) _ _ _ _ :: _) _ _; refine wpList_st rfl rfl rfl rfl (by assumption) (omV_hiA (by first | assumption | exact om0_ok)) (omV_same (by first | assumption | exact om0_ok) (by first | assumption | exact om0_ok)) (omV_one _) ?_); intro w4 K4 b4 but4 z4))
    refine bodyPost_ret (v := .agg (omV _)) (results_cell_row Try.results26 _ _ _ _ _ _ _ rfl K4 Try.underlying31 rfl (omV_hiA hq)) rfl ⟨rfl, ?_⟩
    exact A0.trans (b4 _ (Nat.le_succ _))
  rw [if_neg h4] at HD
  by_cases h8 : o.k = 8
  · rw [if_pos h8] at HD
    rw [h8] at c0
    obtain rfl := HD.out
    clear h0 h1 h4 h8 HD
    go_enter Try.func26, Try.ntmps26
    go_wp2_with (first | (with_reducible show wpList _ _ _ (Oper.mk _ (Op.alloc 31) _ _ _ _ :: _) _ _; refine wpList_al rfl rfl zeroA ?_; (try simp only [Act.put, List.setIfInBounds_toArray, List.set_cons_zero, List.set_cons_succ, World.size_alloc])) | (with_reducible show wpList _ _ _ (Oper.mk _ (Op.load 23 _) _ _ _ _ :: _) _ _; refine wpList_ld rfl rfl rfl (run_ldPl _ _ _ _ (by assumption) (by first | assumption | exact om0_ok)) ?_; (try simp only [Act.put, List.setIfInBounds_toArray, List.set_cons_zero, List.set_cons_succ, World.size_alloc])) | (with_reducible show wpList _ _ _ (Oper.mk _ (Op.load 23 _) _ _ _ _ :: _) _ _; refine wpList_ld rfl rfl rfl (run_ldSo _ _ _ _ (by assumption) (by first | assumption | exact om0_ok)) ?_; (try simp only [Act.put, List.setIfInBounds_toArray, List.set_cons_zero, List.set_cons_succ, World.size_alloc])) | (with_reducible show wpList _ _ _ (Oper.mk _ (Op.build 31 _) _ _ _ _ :: _) _ _; refine wpList_bld (vs := [(0, .int .i64 _), (2, .bool _), (3, .int .u32 _), (4, .agg (payV _)), (5, .agg (payV _))]) rfl rfl rfl (run_bldLoop _ _ _ _ _ _ (by first | assumption | exact z16_len | exact ones_len | exact Om.Ok.p (by assumption) | exact Om.Ok.s (by assumption)) (by first | assumption | exact z16_len | exact ones_len | exact Om.Ok.p (by assumption) | exact Om.Ok.s (by assumption))) ?_; (try simp only [Act.put, List.setIfInBounds_toArray, List.set_cons_zero, List.set_cons_succ, World.size_alloc])) | ((with_reducible show wpList _ _ _ (Oper.mk _ (Op.store 31 _ _) _ _ _ _ :: _) _ _; refine wpList_st rfl rfl rfl rfl (by assumption) (omV_hiA (by first | assumption | exact om0_ok)) (omV_same (by first | assumption | exact om0_ok) (by first | assumption | exact om0_ok)) (omV_one _) ?_); intro w4 K4 b4 but4 z4))
    refine bodyPost_ret (v := .agg (omV _)) (results_cell_row Try.results26 _ _ _ _ _ _ _ rfl K4 Try.underlying31 rfl (omV_hiA hq)) rfl ⟨rfl, ?_⟩
    exact A0.trans (b4 _ (Nat.le_succ _))
  rw [if_neg h8] at HD
  obtain rfl := HD.out
  have g0 : (o.k == 0) = false := beq_eq_false_iff_ne.2 h0
  have g1 : (o.k == 1) = false := beq_eq_false_iff_ne.2 h1
  have g4 : (o.k == 4) = false := beq_eq_false_iff_ne.2 h4
  have g8 : (o.k == 8) = false := beq_eq_false_iff_ne.2 h8
  clear HD h0 h1 h4 h8
  generalize o.k = kk at *
  go_enter Try.func26, Try.ntmps26
  go_wp2_with (first | (with_reducible show wpList _ _ _ (Oper.mk _ (Op.alloc 31) _ _ _ _ :: _) _ _; refine wpList_al rfl rfl zeroA ?_; (try simp only [Act.put, List.setIfInBounds_toArray, List.set_cons_zero, List.set_cons_succ, World.size_alloc])) | (with_reducible show wpList _ _ _ (Oper.mk _ (Op.build 31 _) _ _ _ _ :: _) _ _; refine wpList_bld (vs := []) rfl rfl rfl (run_bzA _) ?_; (try simp only [Act.put, List.setIfInBounds_toArray, List.set_cons_zero, List.set_cons_succ, World.size_alloc])) | ((with_reducible show wpList _ _ _ (Oper.mk _ (Op.store 31 _ _) _ _ _ _ :: _) _ _; refine wpList_st rfl rfl rfl rfl (by assumption) (omV_hiA (by first | assumption | exact om0_ok)) (omV_same (by first | assumption | exact om0_ok) (by first | assumption | exact om0_ok)) (omV_one _) ?_); intro w4 K4 b4 but4 z4))
  refine bodyPost_ret (v := .agg (omV _)) (results_cell_row Try.results26 _ _ _ _ _ _ _ rfl K4 Try.underlying31 rfl (omV_hiA hq)) rfl ⟨rfl, ?_⟩
  exact A0.trans (b4 _ (Nat.le_succ _))

set_option maxHeartbeats 4000000 in
theorem right_calls (o : Om) (h : o.Ok) (w : World) : Calls Try.prog 14 #[.agg (omV o)] w fun e w' => e = .returned (.bool (canB o)) ∧ Below w.heap.size w w' := by
  have K0 := bk_new w (omV o) 31
  have A0 : Below w.heap.size w (w.alloc (.cells (omV o) 31)) := (Below.refl _ w).alloc (Nat.le_refl _) _
  have HH := fun w => had_calls o h w
  have he := fun w => eqlA o (hadN o) h (had_ok h) w
  have HC : Hid (canB o = eqB o (hadN o)) := rfl
  generalize canB o = c at *
  generalize eqB o (hadN o) = c2 at *
  go_enter Try.func14, Try.ntmps14
  go_wp2
  refine wp_region_held_drew (S := (fun w' => BK w' w.heap.size (omV o) 31 ∧ Below w.heap.size w w')) (by kernel_rfl) ⟨K0.drew, A0.drew⟩ (fun hHeld => ?_)
  refine wpAnyH_take (i := 0) (oi := ({ dst := some 3, op := Op.load 31 (Operand.tmp 1), type := 31, pos := _, after := #[], guard := none } : Oper))  rfl (by kernel_rfl) (by kernel_rfl) (by kernel_rfl) (fun _ _ _ h => h) (yields_ld rfl rfl rfl (fun w hS => run_ldA w _ _ _ hS.1 h)) hHeld ?_
  try simp only [Act.put, List.setIfInBounds_toArray, List.set_cons_zero, List.set_cons_succ]
  refine wpAnyH_take (i := 1) (oi := ({ dst := some 4, op := Op.load 31 (Operand.tmp 1), type := 31, pos := _, after := #[], guard := none } : Oper))  rfl (by kernel_rfl) (by kernel_rfl) (by kernel_rfl) (fun _ _ _ h => h) (yields_ld rfl rfl rfl (fun w hS => run_ldA w _ _ _ hS.1 h)) hHeld ?_
  try simp only [Act.put, List.setIfInBounds_toArray, List.set_cons_zero, List.set_cons_succ]
  refine wpAnyH_ready (rs := [2]) (by kernel_rfl) (by simp) ?_
  refine AllReadyH.cons (o := ({ dst := some 5, op := Op.call { callee := Callee.value (Operand.func 26), args := #[Operand.tmp 4], argTypes := #[31] }, type := 31, pos := _, after := #[{ on := 1, ground := Ground.data }], guard := none } : Oper)) rfl (fun K hK => ?_) AllReadyH.nil
  refine step_call (HH _) (enters_of Try.func26 (by kernel_rfl) rfl) _ _ rfl rfl rfl ?_
  rintro e w5 ⟨rfl, b5⟩
  refine ⟨_, rfl, hK.out _ _ ⟨hHeld.1.below b5 hHeld.1.lt, hHeld.2.trans (b5.mono hHeld.2.size)⟩ (fun hHeld => ?_)⟩
  clear hK K
  try simp only [Act.put, List.setIfInBounds_toArray, List.set_cons_zero, List.set_cons_succ]
  refine wpAnyH_take (i := 3) (oi := ({ dst := some 6, op := Op.binOp BinOp.eql 31 (Operand.tmp 3) (Operand.tmp 5) 31, type := 4, pos := _, after := #[{ on := 0, ground := Ground.data }, { on := 2, ground := Ground.data }], guard := none } : Oper)) (v := ?_) rfl (by kernel_rfl) (by kernel_rfl) (by kernel_rfl) (fun _ _ _ h => h) (Or.inl ⟨by rfl, ?_⟩) hHeld ?_
  rotate_left
  · (intro w hS; go_simp; try with_reducible rfl)
  try simp only [Act.put, List.setIfInBounds_toArray, List.set_cons_zero, List.set_cons_succ]
  refine wpAnyH_take (i := 4) (oi := ({ dst := some 2, op := Op.assign (Operand.tmp 6), type := 4, pos := _, after := #[{ on := 3, ground := Ground.data }, { on := 2, ground := Ground.chain }, { on := 0, ground := Ground.phase }, { on := 1, ground := Ground.phase }, { on := 2, ground := Ground.phase }, { on := 3, ground := Ground.phase }], guard := none } : Oper)) (v := ?_) rfl (by kernel_rfl) (by kernel_rfl) (by kernel_rfl) (fun _ _ _ h => h) (Or.inl ⟨by rfl, ?_⟩) hHeld ?_
  rotate_left
  · (intro w hS; go_simp; try with_reducible rfl)
  try simp only [Act.put, List.setIfInBounds_toArray, List.set_cons_zero, List.set_cons_succ]
  refine wpAnyH_done (by kernel_rfl) ?_ _
  skip
  go_wp2
  go_ret
  exact ⟨ret_bool HC.out.symm, hHeld.2⟩
end Go.Proofs.Ytpjlcmdidhdbcaa
