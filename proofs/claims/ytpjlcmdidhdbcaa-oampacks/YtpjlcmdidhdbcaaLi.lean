/- Proved here: what is lifted off a payload. Conditions: as each theorem states them. -/
import Derived.Test.YtpjlcmdidhdbcaaFl
namespace Go.Proofs.Ytpjlcmdidhdbcaa
set_option linter.unusedSimpArgs false
set_option linter.unusedVariables false
open Go.RowKit

theorem BK.payDrop {w : World} {b : Nat} {ps : List UInt8} {t : TypeId} (h : BK w b (payV ps) t) (i : Nat) : IsB w.heap.size w (some ⟨b, i, none⟩) (ps.length - i) (ps.drop i) :=
  ⟨by simp, .inr ⟨b, i, rfl, h.lt, fun j x hx => by rw [List.getElem?_drop] at hx; exact h.payCell hx⟩⟩
theorem z16_take (ps : List UInt8) (h : 16 ≤ ps.length) : z16.length = (ps.take 16).length := by simp [z16]; omega

set_option maxHeartbeats 8000000 in
theorem lift_one (p : List UInt8) (hl : p.length = 48) (kk : Int) (h01 : kk = 0 ∨ kk = 1) (w : World) : Calls Try.prog 24 #[.int .i64 kk, .agg (payV p)] w fun e w' => e = .returned (.agg (omV ⟨kk, p[1]?.getD 0, false, 0, plN p 2, z16⟩)) ∧ Below w.heap.size w w' := by
  have K0 := ((bk_new w (payV p) 26).alloc (.cells (omV om0) 31)).alloc (.cells (omV ⟨kk, 0, false, 0, z16, z16⟩) 31)
  have R0 := (bk_new (w.alloc (.cells (payV p) 26)) (omV om0) 31).alloc (.cells (omV ⟨kk, 0, false, 0, z16, z16⟩) 31)
  have V0 := bk_new ((w.alloc (.cells (payV p) 26)).alloc (.cells (omV om0) 31)) (omV ⟨kk, 0, false, 0, z16, z16⟩) 31
  have A0 : Below w.heap.size w (((w.alloc (.cells (payV p) 26)).alloc (.cells (omV om0) 31)).alloc (.cells (omV ⟨kk, 0, false, 0, z16, z16⟩) 31)) := (((Below.refl _ w).alloc (Nat.le_refl _) _).alloc (by simp) _).alloc (by simp; omega) _
  simp only [World.size_alloc] at R0 V0
  have ok1 : (⟨kk, 0, false, 0, z16, z16⟩ : Om).Ok := ⟨(by show 0 < 4294967296; decide), z16_len, z16_len⟩
  have ok2 : (⟨kk, p[1]?.getD 0, false, 0, z16, z16⟩ : Om).Ok := ⟨(by show 0 < 4294967296; decide), z16_len, z16_len⟩
  have ok3 : (⟨kk, p[1]?.getD 0, false, 0, plN p 2, z16⟩ : Om).Ok := ⟨(by show 0 < 4294967296; decide), pl_len hl (by decide), z16_len⟩
  have cd : ((((w.alloc (.cells (payV p) 26)).alloc (.cells (omV om0) 31)).alloc (.cells (omV ⟨kk, 0, false, 0, z16, z16⟩) 31)).cell? ⟨w.heap.size, 1, none⟩) = some (.int .u8 ((p[1]?.getD 0).toNat : Int)) := g_cell K0 hl 1 (by decide)
  have HL : Hid (p.length = 48) := hl
  have HD : Hid ((p.drop 2).take 16 = plN p 2) := rfl
  obtain ⟨d, hd⟩ : ∃ d, p[1]?.getD 0 = d := ⟨_, rfl⟩
  obtain ⟨pp, hpp⟩ : ∃ pp, plN p 2 = pp := ⟨_, rfl⟩
  rw [hd] at cd ok2
  rw [hd, hpp] at ok3
  rw [hpp] at HD
  rw [hd, hpp]
  obtain ⟨W, hW⟩ : ∃ W, ((w.alloc (.cells (payV p) 26)).alloc (.cells (omV om0) 31)).alloc (.cells (omV ⟨kk, 0, false, 0, z16, z16⟩) 31) = W := ⟨_, rfl⟩
  rw [hW] at K0 R0 V0 A0 cd
  have cv := V0.cell 1 (.int .u8 0) (by simp [omV])
  have fz := V0.frozen 1
  have V1 := V0.set 1 (.int .u8 (d.toNat : Int))
  rw [omV_d] at V1
  have K1 := K0.setOther (p := ⟨w.heap.size + 1 + 1, 1, none⟩) (show w.heap.size ≠ w.heap.size + 1 + 1 by omega) (.int .u8 (d.toNat : Int))
  have R1 := R0.setOther (p := ⟨w.heap.size + 1 + 1, 1, none⟩) (show w.heap.size + 1 ≠ w.heap.size + 1 + 1 by omega) (.int .u8 (d.toNat : Int))
  have A1 := A0.setCell (p := ⟨w.heap.size + 1 + 1, 1, none⟩) (show w.heap.size ≤ w.heap.size + 1 + 1 by omega) (.int .u8 (d.toNat : Int))
  clear hl hd hpp K0 R0 V0 A0
  go_enter Try.func24, Try.ntmps24
  rcases h01 with rfl | rfl
  all_goals
    go_wp2_with (first | (with_reducible show wpList _ _ _ (Oper.mk _ (Op.build 31 _) _ _ _ _ :: _) _ _; refine wpList_bld (vs := [(0, .int .i64 _)]) rfl rfl rfl (run_bldKind _ _) ?_; (try simp only [Act.put, List.setIfInBounds_toArray, List.set_cons_zero, List.set_cons_succ, World.size_alloc])) | (with_reducible show wpList _ _ _ (Oper.mk _ (Op.alloc 31) _ _ _ _ :: Oper.mk _ (Op.store 31 _ _) _ _ _ _ :: _) _ _; refine wpList_def rfl rfl rfl rfl rfl zeroA (omV_hiA (by first | assumption | exact om0_ok)) (omV_same (by first | assumption | exact om0_ok) (by first | assumption | exact om0_ok)) (omV_one _) rfl ?_; (try simp only [Act.put, List.setIfInBounds_toArray, List.set_cons_zero, List.set_cons_succ, World.size_alloc])) | (with_reducible show wpList _ _ _ (Oper.mk _ (Op.alloc 31) _ _ _ _ :: _) _ _; refine wpList_al rfl rfl zeroA ?_; (try simp only [Act.put, List.setIfInBounds_toArray, List.set_cons_zero, List.set_cons_succ, World.size_alloc])))
    refine wp_region_held_drew (S := (fun w' => BK w' w.heap.size (payV p) 26 ∧ BK w' (w.heap.size + 1) (omV om0) 31 ∧ Below w.heap.size w w')) (by kernel_rfl) ⟨K1.drew, R1.drew, A1.drew⟩ (fun hHeld => ?_)
    refine wpAnyH_take (i := 0) (oi := ({ dst := some 18, op := Op.fieldAddr 31 (Operand.tmp 5) 4, type := 0, pos := _, after := #[], guard := none } : Oper)) (v := ?_) rfl (by kernel_rfl) (by kernel_rfl) (by kernel_rfl) (fun _ _ _ h => h) (Or.inl ⟨by rfl, ?_⟩) hHeld ?_
    rotate_left
    · (intro w hS; go_simp; try with_reducible rfl)
    try simp only [Act.put, List.setIfInBounds_toArray, List.set_cons_zero, List.set_cons_succ]
    refine wpAnyH_take (i := 1) (oi := ({ dst := some 19, op := Op.slice 23 (Operand.tmp 18) none none none, type := 32, pos := _, after := #[{ on := 0, ground := Ground.data }], guard := none } : Oper)) (v := ?_) rfl (by kernel_rfl) (by kernel_rfl) (by kernel_rfl) (fun _ _ _ h => h) (Or.inl ⟨by rfl, ?_⟩) hHeld ?_
    rotate_left
    · (intro w hS; go_simp; try with_reducible rfl)
    try simp only [Act.put, List.setIfInBounds_toArray, List.set_cons_zero, List.set_cons_succ]
    refine wpAnyH_take (i := 2) (oi := ({ dst := some 20, op := Op.move (Operand.tmp 6), type := 32, pos := _, after := #[], guard := none } : Oper)) (v := ?_) rfl (by kernel_rfl) (by kernel_rfl) (by kernel_rfl) (fun _ _ _ h => h) (Or.inl ⟨by rfl, ?_⟩) hHeld ?_
    rotate_left
    · (intro w hS; go_simp; try with_reducible rfl)
    try simp only [Act.put, List.setIfInBounds_toArray, List.set_cons_zero, List.set_cons_succ]
    refine wpAnyH_take (i := 3) (oi := ({ dst := some 21, op := Op.slice 32 (Operand.tmp 20) (some (Operand.const (Value.int IntKind.i64 1))) none none, type := 32, pos := _, after := #[{ on := 2, ground := Ground.data }], guard := none } : Oper)) (v := ?_) rfl (by kernel_rfl) (by kernel_rfl) (by kernel_rfl) (fun _ _ _ h => h) (Or.inl ⟨by rfl, ?_⟩) hHeld ?_
    rotate_left
    · (intro w hS; go_simp; try with_reducible rfl)
    try simp only [Act.put, List.setIfInBounds_toArray, List.set_cons_zero, List.set_cons_succ]
    refine wpAnyH_ready (rs := [4]) (by kernel_rfl) (by simp) ?_
    refine AllReadyH.cons (o := ({ dst := some 22, op := Op.call { callee := Callee.builtin Builtin.copy, args := #[Operand.tmp 19, Operand.tmp 21], argTypes := #[32, 32] }, type := 3, pos := _, after := #[{ on := 1, ground := Ground.data }, { on := 3, ground := Ground.data }], guard := none } : Oper)) rfl (fun K hK => ?_) AllReadyH.nil
    have D5 := hHeld.1.payDrop 2; rw [HL.out] at D5; refine step_cpB (N := 16) (by rfl) (by rfl) (by rfl) (by rfl) V1.drew D5 (by decide) (by decide) (by rw [omV_size ok2]; decide) (by decide) ((congrArg (laidIn _ 4) HD.out).trans (omV_cpP _ pp (by rw [z16_len]; exact ok3.p.symm))) ?_
    intro w6 K6 d6 but6 z6
    refine hK.out _ _ ⟨hHeld.1.below (d6 _ (Nat.le_refl _)) (by omega), hHeld.2.1.below (d6 _ (Nat.le_refl _)) (by omega), hHeld.2.2.trans (d6 _ (by omega))⟩ (fun hHeld => ?_)
    clear hK K
    try simp only [Act.put, List.setIfInBounds_toArray, List.set_cons_zero, List.set_cons_succ]
    refine wpAnyH_done (by kernel_rfl) ?_ _
    skip
    obtain ⟨_, R6, B6⟩ := hHeld
    go_wp2_with (first | (with_reducible show wpList _ _ _ (Oper.mk _ (Op.load 31 _) _ _ _ _ :: _) _ _; refine wpList_ld rfl rfl rfl (run_ldA _ _ _ _ (by assumption) (by first | assumption | exact om0_ok)) ?_; (try simp only [Act.put, List.setIfInBounds_toArray, List.set_cons_zero, List.set_cons_succ, World.size_alloc])) | ((with_reducible show wpList _ _ _ (Oper.mk _ (Op.store 31 _ _) _ _ _ _ :: _) _ _; refine wpList_st rfl rfl rfl rfl (by assumption) (omV_hiA (by first | assumption | exact om0_ok)) (omV_same (by first | assumption | exact om0_ok) (by first | assumption | exact om0_ok)) (omV_one _) ?_); intro w8 K8 b8 but8 z8))
    refine bodyPost_ret (v := .agg (omV _)) (results_cell_row Try.results24 _ _ _ _ _ _ _ rfl K8 Try.underlying31 rfl (omV_hiA ok3)) rfl ⟨rfl, ?_⟩
    exact B6.trans (b8 _ (by omega))

set_option maxHeartbeats 8000000 in
theorem lift_check (p : List UInt8) (w : World) : Calls Try.prog 24 #[.int .i64 4, .agg (payV p)] w fun e w' => e = .returned (.agg (omV ⟨4, 0, false, 0, z16, z16⟩)) ∧ Below w.heap.size w w' := by
  have R0 := (bk_new (w.alloc (.cells (payV p) 26)) (omV om0) 31).alloc (.cells (omV ⟨4, 0, false, 0, z16, z16⟩) 31)
  have V0 := bk_new ((w.alloc (.cells (payV p) 26)).alloc (.cells (omV om0) 31)) (omV ⟨4, 0, false, 0, z16, z16⟩) 31
  have A0 : Below w.heap.size w (((w.alloc (.cells (payV p) 26)).alloc (.cells (omV om0) 31)).alloc (.cells (omV ⟨4, 0, false, 0, z16, z16⟩) 31)) := (((Below.refl _ w).alloc (Nat.le_refl _) _).alloc (by simp) _).alloc (by simp; omega) _
  simp only [World.size_alloc] at R0 V0
  have ok1 : (⟨4, 0, false, 0, z16, z16⟩ : Om).Ok := ⟨(by show 0 < 4294967296; decide), z16_len, z16_len⟩
  go_enter Try.func24, Try.ntmps24
  go_wp2_with (first | (with_reducible show wpList _ _ _ (Oper.mk _ (Op.build 31 _) _ _ _ _ :: _) _ _; refine wpList_bld (vs := [(0, .int .i64 _)]) rfl rfl rfl (run_bldKind _ _) ?_; (try simp only [Act.put, List.setIfInBounds_toArray, List.set_cons_zero, List.set_cons_succ, World.size_alloc])) | (with_reducible show wpList _ _ _ (Oper.mk _ (Op.alloc 31) _ _ _ _ :: Oper.mk _ (Op.store 31 _ _) _ _ _ _ :: _) _ _; refine wpList_def rfl rfl rfl rfl rfl zeroA (omV_hiA (by first | assumption | exact om0_ok)) (omV_same (by first | assumption | exact om0_ok) (by first | assumption | exact om0_ok)) (omV_one _) rfl ?_; (try simp only [Act.put, List.setIfInBounds_toArray, List.set_cons_zero, List.set_cons_succ, World.size_alloc])) | (with_reducible show wpList _ _ _ (Oper.mk _ (Op.alloc 31) _ _ _ _ :: _) _ _; refine wpList_al rfl rfl zeroA ?_; (try simp only [Act.put, List.setIfInBounds_toArray, List.set_cons_zero, List.set_cons_succ, World.size_alloc])) | (with_reducible show wpList _ _ _ (Oper.mk _ (Op.load 31 _) _ _ _ _ :: _) _ _; refine wpList_ld rfl rfl rfl (run_ldA _ _ _ _ (by assumption) (by first | assumption | exact om0_ok)) ?_; (try simp only [Act.put, List.setIfInBounds_toArray, List.set_cons_zero, List.set_cons_succ, World.size_alloc])) | ((with_reducible show wpList _ _ _ (Oper.mk _ (Op.store 31 _ _) _ _ _ _ :: _) _ _; refine wpList_st rfl rfl rfl rfl (by assumption) (omV_hiA (by first | assumption | exact om0_ok)) (omV_same (by first | assumption | exact om0_ok) (by first | assumption | exact om0_ok)) (omV_one _) ?_); intro w8 K8 b8 but8 z8))
  refine bodyPost_ret (v := .agg (omV _)) (results_cell_row Try.results24 _ _ _ _ _ _ _ rfl K8 Try.underlying31 rfl (omV_hiA ok1)) rfl ⟨rfl, ?_⟩
  exact A0.trans (b8 _ (by omega))

set_option maxHeartbeats 8000000 in
theorem lift_loop (p : List UInt8) (hl : p.length = 48) (w : World) : Calls Try.prog 24 #[.int .i64 8, .agg (payV p)] w fun e w' => e = .returned (.agg (omV ⟨8, 0, gN p 1 == 1, nuN p, plN p 6, plN p 22⟩)) ∧ Below w.heap.size w w' := by
  have K0 := ((bk_new w (payV p) 26).alloc (.cells (omV om0) 31)).alloc (.cells (omV ⟨8, 0, false, 0, z16, z16⟩) 31)
  have R0 := (bk_new (w.alloc (.cells (payV p) 26)) (omV om0) 31).alloc (.cells (omV ⟨8, 0, false, 0, z16, z16⟩) 31)
  have V0 := bk_new ((w.alloc (.cells (payV p) 26)).alloc (.cells (omV om0) 31)) (omV ⟨8, 0, false, 0, z16, z16⟩) 31
  have A0 : Below w.heap.size w (((w.alloc (.cells (payV p) 26)).alloc (.cells (omV om0) 31)).alloc (.cells (omV ⟨8, 0, false, 0, z16, z16⟩) 31)) := (((Below.refl _ w).alloc (Nat.le_refl _) _).alloc (by simp) _).alloc (by simp; omega) _
  simp only [World.size_alloc] at R0 V0
  have ok1 : (⟨8, 0, false, 0, z16, z16⟩ : Om).Ok := ⟨(by show 0 < 4294967296; decide), z16_len, z16_len⟩
  have ok4 : (⟨8, 0, gN p 1 == 1, nuN p, z16, z16⟩ : Om).Ok := ⟨nu_lt p, z16_len, z16_len⟩
  have ok5 : (⟨8, 0, gN p 1 == 1, nuN p, plN p 6, z16⟩ : Om).Ok := ⟨nu_lt p, pl_len hl (by decide), z16_len⟩
  have ok6 : (⟨8, 0, gN p 1 == 1, nuN p, plN p 6, plN p 22⟩ : Om).Ok := ⟨nu_lt p, pl_len hl (by decide), pl_len hl (by decide)⟩
  have cd := g_cell K0 hl 1 (by decide)
  have HL : Hid (p.length = 48) := hl
  have HD : Hid ((p.drop 6).take 16 = plN p 6) := rfl
  have HE : Hid ((p.drop 22).take 16 = plN p 22) := rfl
  have he : (((gN p 1 : Nat) : Int) == 1) = (gN p 1 == 1) := by rw [Bool.eq_iff_iff, beq_iff_eq, beq_iff_eq]; omega
  have hy := gN_lt p 1
  have HNU := fun (b : Nat) (w : World) (t : TypeId) (hK : BK w b (payV p) t) => number_calls p hl b 46 46 t w hK (by decide)
  generalize nuN p = nu at *
  generalize plN p 6 = pp at *
  generalize plN p 22 = ss at *
  generalize (gN p 1 == 1) = f at *
  generalize gN p 1 = y1 at *
  obtain ⟨W, hW⟩ : ∃ W, ((w.alloc (.cells (payV p) 26)).alloc (.cells (omV om0) 31)).alloc (.cells (omV ⟨8, 0, false, 0, z16, z16⟩) 31) = W := ⟨_, rfl⟩
  rw [hW] at K0 R0 V0 A0 cd
  have cv := V0.cell 2 (.bool false) (by simp [omV])
  have fz := V0.frozen 2
  have V1 := V0.set 2 (.bool f)
  rw [omV_a] at V1
  have K1 := K0.setOther (p := ⟨w.heap.size + 1 + 1, 2, none⟩) (show w.heap.size ≠ w.heap.size + 1 + 1 by omega) (.bool f)
  have R1 := R0.setOther (p := ⟨w.heap.size + 1 + 1, 2, none⟩) (show w.heap.size + 1 ≠ w.heap.size + 1 + 1 by omega) (.bool f)
  have A1 := A0.setCell (p := ⟨w.heap.size + 1 + 1, 2, none⟩) (show w.heap.size ≤ w.heap.size + 1 + 1 by omega) (.bool f)
  clear hl K0 R0 V0 A0
  go_enter Try.func24, Try.ntmps24
  go_upto_region 9 with (first | (with_reducible show wpList _ _ _ (Oper.mk _ (Op.build 31 _) _ _ _ _ :: _) _ _; refine wpList_bld (vs := [(0, .int .i64 _)]) rfl rfl rfl (run_bldKind _ _) ?_; (try simp only [Act.put, List.setIfInBounds_toArray, List.set_cons_zero, List.set_cons_succ, World.size_alloc])) | (with_reducible show wpList _ _ _ (Oper.mk _ (Op.alloc 31) _ _ _ _ :: Oper.mk _ (Op.store 31 _ _) _ _ _ _ :: _) _ _; refine wpList_def rfl rfl rfl rfl rfl zeroA (omV_hiA (by first | assumption | exact om0_ok)) (omV_same (by first | assumption | exact om0_ok) (by first | assumption | exact om0_ok)) (omV_one _) rfl ?_; (try simp only [Act.put, List.setIfInBounds_toArray, List.set_cons_zero, List.set_cons_succ, World.size_alloc])) | (with_reducible show wpList _ _ _ (Oper.mk _ (Op.alloc 31) _ _ _ _ :: _) _ _; refine wpList_al rfl rfl zeroA ?_; (try simp only [Act.put, List.setIfInBounds_toArray, List.set_cons_zero, List.set_cons_succ, World.size_alloc])))
  go_cut [6] (fun s wx => s = .slice (some ⟨w.heap.size, 2, none⟩) 46 46 ∧ BK wx w.heap.size (payV p) 26 ∧ BK wx (w.heap.size + 1) (omV om0) 31 ∧ BK wx (w.heap.size + 1 + 1) (omV ⟨8, 0, f, 0, z16, z16⟩) 31 ∧ Below w.heap.size w wx)
  case first =>
    go_region
    go_wp2
    go_meet
    exact ⟨rfl, K1.drew, R1.drew, V1.drew, A1.drew⟩
  case rest =>
  obtain ⟨rfl, K2, R2, V2, A2⟩ := hcut
  obtain ⟨wd, hwd⟩ : ∃ z, z = wc := ⟨_, rfl⟩
  subst hwd
  clear K1 R1 V1 A1 cv fz cd he hy
  go_upto_region 10 with fail
  go_cut [6] (fun s wx => s = .slice (some ⟨w.heap.size, 6, none⟩) 42 42 ∧ BK wx w.heap.size (payV p) 26 ∧ BK wx (w.heap.size + 1) (omV om0) 31 ∧ BK wx (w.heap.size + 1 + 1) (omV ⟨8, 0, f, nu, z16, z16⟩) 31 ∧ Below w.heap.size w wx)
  case first =>
    refine wp_region_held_drew (S := (fun w' => BK w' w.heap.size (payV p) 26 ∧ BK w' (w.heap.size + 1) (omV om0) 31 ∧ Below w.heap.size w w')) (by kernel_rfl) ⟨K2.drew, R2.drew, A2.drew⟩ (fun hHeld => ?_)
    refine wpAnyH_take (i := 0) (oi := ({ dst := some 32, op := Op.move (Operand.tmp 6), type := 32, pos := _, after := #[], guard := none } : Oper)) (v := ?_) rfl (by kernel_rfl) (by kernel_rfl) (by kernel_rfl) (fun _ _ _ h => h) (Or.inl ⟨by rfl, ?_⟩) hHeld ?_
    rotate_left
    · (intro w hS; go_simp; try with_reducible rfl)
    try simp only [Act.put, List.setIfInBounds_toArray, List.set_cons_zero, List.set_cons_succ]
    refine wpAnyH_take (i := 2) (oi := ({ dst := some 34, op := Op.move (Operand.tmp 6), type := 32, pos := _, after := #[], guard := none } : Oper)) (v := ?_) rfl (by kernel_rfl) (by kernel_rfl) (by kernel_rfl) (fun _ _ _ h => h) (Or.inl ⟨by rfl, ?_⟩) hHeld ?_
    rotate_left
    · (intro w hS; go_simp; try with_reducible rfl)
    try simp only [Act.put, List.setIfInBounds_toArray, List.set_cons_zero, List.set_cons_succ]
    refine wpAnyH_take (i := 3) (oi := ({ dst := some 35, op := Op.slice 32 (Operand.tmp 34) (some (Operand.const (Value.int IntKind.i64 4))) none none, type := 32, pos := _, after := #[{ on := 2, ground := Ground.data }], guard := none } : Oper)) (v := ?_) rfl (by kernel_rfl) (by kernel_rfl) (by kernel_rfl) (fun _ _ _ h => h) (Or.inl ⟨by rfl, ?_⟩) hHeld ?_
    rotate_left
    · (intro w hS; go_simp; try with_reducible rfl)
    try simp only [Act.put, List.setIfInBounds_toArray, List.set_cons_zero, List.set_cons_succ]
    refine wpAnyH_ready (rs := [1]) (by kernel_rfl) (by simp) ?_
    refine AllReadyH.cons (o := ({ dst := some 33, op := Op.call { callee := Callee.value (Operand.func 34), args := #[Operand.tmp 32], argTypes := #[32] }, type := 22, pos := _, after := #[{ on := 0, ground := Ground.data }], guard := none } : Oper)) rfl (fun K hK => ?_) AllReadyH.nil
    refine step_call (HNU _ _ _ hHeld.1) (enters_of Try.func34 (by kernel_rfl) rfl) _ _ rfl rfl rfl ?_
    rintro e w5 ⟨rfl, b5⟩
    have V5 := V2.drew.below b5 V2.lt
    have cv := V5.cell 3 (.int .u32 0) (by simp [omV])
    have fz := V5.frozen 3
    have V6 := V5.set 3 (.int .u32 (nu : Int))
    rw [omV_t] at V6
    refine ⟨_, rfl, hK.out _ _ ⟨hHeld.1.below b5 hHeld.1.lt, hHeld.2.1.below b5 hHeld.2.1.lt, hHeld.2.2.trans (b5.mono hHeld.2.2.size)⟩ (fun hHeld => ?_)⟩
    clear hK K
    try simp only [Act.put, List.setIfInBounds_toArray, List.set_cons_zero, List.set_cons_succ]
    refine wpAnyH_take (i := 4) (oi := ({ dst := some 36, op := Op.fieldAddr 31 (Operand.tmp 5) 3, type := 0, pos := _, after := #[{ on := 0, ground := Ground.phase }, { on := 1, ground := Ground.phase }, { on := 2, ground := Ground.textOnly Departure.lateStores }, { on := 3, ground := Ground.textOnly Departure.lateStoresUnsure }], guard := none } : Oper)) (v := ?_) rfl (by kernel_rfl) (by kernel_rfl) (by kernel_rfl) (fun _ _ _ h => h) (Or.inl ⟨by rfl, ?_⟩) hHeld ?_
    rotate_left
    · (intro w hS; go_simp; try with_reducible rfl)
    try simp only [Act.put, List.setIfInBounds_toArray, List.set_cons_zero, List.set_cons_succ]
    refine wpAnyH_ready (rs := [5]) (by kernel_rfl) (by simp) ?_
    refine AllReadyH.cons (o := ({ dst := none, op := Op.store 22 (Operand.tmp 36) (Operand.tmp 33), type := 0, pos := _, after := #[{ on := 4, ground := Ground.data }, { on := 1, ground := Ground.data }, { on := 1, ground := Ground.chain }, { on := 0, ground := Ground.phase }, { on := 1, ground := Ground.phase }, { on := 2, ground := Ground.textOnly Departure.lateStores }, { on := 3, ground := Ground.textOnly Departure.lateStoresUnsure }], guard := none } : Oper)) rfl (fun K hK => ?_) AllReadyH.nil
    go_simp
    skip
    refine hK.out _ _ ⟨hHeld.1.setOther (p := ⟨w.heap.size + 1 + 1, 3, none⟩) (show w.heap.size ≠ w.heap.size + 1 + 1 by omega) _, hHeld.2.1.setOther (p := ⟨w.heap.size + 1 + 1, 3, none⟩) (show w.heap.size + 1 ≠ w.heap.size + 1 + 1 by omega) _, hHeld.2.2.setCell (p := ⟨w.heap.size + 1 + 1, 3, none⟩) (show w.heap.size ≤ w.heap.size + 1 + 1 by omega) _⟩ (fun hHeld => ?_)
    clear hK K
    try simp only [Act.put, List.setIfInBounds_toArray, List.set_cons_zero, List.set_cons_succ]
    refine wpAnyH_take (i := 6) (oi := ({ dst := some 6, op := Op.assign (Operand.tmp 35), type := 32, pos := _, after := #[{ on := 3, ground := Ground.data }, { on := 5, ground := Ground.chain }, { on := 0, ground := Ground.phase }, { on := 1, ground := Ground.phase }, { on := 2, ground := Ground.phase }, { on := 3, ground := Ground.phase }, { on := 4, ground := Ground.phase }, { on := 5, ground := Ground.phase }], guard := none } : Oper)) (v := ?_) rfl (by kernel_rfl) (by kernel_rfl) (by kernel_rfl) (fun _ _ _ h => h) (Or.inl ⟨by rfl, ?_⟩) hHeld ?_
    rotate_left
    · (intro w hS; go_simp; try with_reducible rfl)
    try simp only [Act.put, List.setIfInBounds_toArray, List.set_cons_zero, List.set_cons_succ]
    refine wpAnyH_done (by kernel_rfl) ?_ _
    go_wp2
    go_meet
    exact ⟨rfl, hHeld.1, hHeld.2.1, V6, hHeld.2.2⟩
  case rest =>
  obtain ⟨rfl, K3, R3, V3, A3⟩ := hcut
  obtain ⟨we, hwe⟩ : ∃ z, z = wc := ⟨_, rfl⟩
  subst hwe
  clear K2 R2 V2 A2 HNU
  have D3 := K3.payDrop 6
  rw [HL.out] at D3
  go_wp2_with ((with_reducible show wpList _ _ _ (Oper.mk _ (Op.call { callee := Callee.builtin Builtin.copy, args := _, argTypes := _ }) _ _ _ _ :: _) _ _; refine stop_here ?_))
  refine ⟨?_⟩
  refine wpList_cpB (N := 16) rfl rfl rfl rfl V3 D3 (by decide) (by decide) (by rw [omV_size ok4]; decide) (by decide) ((congrArg (laidIn _ 4) HD.out).trans (omV_cpP _ pp (by rw [z16_len]; exact ok5.p.symm))) ?_
  intro w6 V6 d6 but6 z6
  have K6 := K3.below (d6 _ (Nat.le_refl _)) (by omega)
  have R6 := R3.below (d6 _ (Nat.le_refl _)) (by omega)
  have A6 := A3.trans (d6 _ (by omega))
  have D6 := K6.payDrop 22
  rw [HL.out] at D6
  go_wp2_with ((with_reducible show wpList _ _ _ (Oper.mk _ (Op.call { callee := Callee.builtin Builtin.copy, args := _, argTypes := _ }) _ _ _ _ :: _) _ _; refine stop_here ?_))
  refine ⟨?_⟩
  refine wpList_cpB (N := 16) rfl rfl rfl rfl V6 D6 (by decide) (by decide) (by rw [omV_size ok5]; decide) (by decide) ((congrArg (laidIn _ 20) HE.out).trans (omV_cpS _ ok5.p ss (by rw [z16_len]; exact ok6.s.symm))) ?_
  intro w7 V7 d7 but7 z7
  have R7 := R6.below (d7 _ (Nat.le_refl _)) (by omega)
  have A7 := A6.trans (d7 _ (by omega))
  go_wp2_with (first | (with_reducible show wpList _ _ _ (Oper.mk _ (Op.load 31 _) _ _ _ _ :: _) _ _; refine wpList_ld rfl rfl rfl (run_ldA _ _ _ _ (by assumption) (by first | assumption | exact om0_ok)) ?_; (try simp only [Act.put, List.setIfInBounds_toArray, List.set_cons_zero, List.set_cons_succ, World.size_alloc])) | ((with_reducible show wpList _ _ _ (Oper.mk _ (Op.store 31 _ _) _ _ _ _ :: _) _ _; refine wpList_st rfl rfl rfl rfl (by assumption) (omV_hiA (by first | assumption | exact om0_ok)) (omV_same (by first | assumption | exact om0_ok) (by first | assumption | exact om0_ok)) (omV_one _) ?_); intro w8 K8 b8 but8 z8))
  refine bodyPost_ret (v := .agg (omV _)) (results_cell_row Try.results24 _ _ _ _ _ _ _ rfl K8 Try.underlying31 rfl (omV_hiA ok6)) rfl ⟨rfl, ?_⟩
  exact A7.trans (b8 _ (by omega))
theorem lift_calls (p : List UInt8) (hl : p.length = 48) (kk : Int) (hk : kdN p = kk) (h : isK kk = true) (w : World) : Calls Try.prog 24 #[.int .i64 kk, .agg (payV p)] w fun e w' => e = .returned (.agg (omV (liftN p))) ∧ Below w.heap.size w w' := by
  unfold liftN
  rw [hk]
  rcases isK_iff.1 h with h0 | h0 | h0 | h0
  · rw [if_neg (by omega), if_neg (by omega)]; exact lift_one p hl kk (.inl h0) w
  · rw [if_neg (by omega), if_neg (by omega)]; exact lift_one p hl kk (.inr h0) w
  · rw [h0, if_neg (by decide), if_pos rfl]; exact lift_check p w
  · rw [h0, if_pos rfl]; exact lift_loop p hl w
end Go.Proofs.Ytpjlcmdidhdbcaa
