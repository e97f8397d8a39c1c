/- Proved here: the walk of OamOnce. Conditions: as each theorem states them. -/
import Derived.Test.YtpjlcmdidhdbcaaAw
import Derived.Test.YtpjlcmdidhdbcaaOp
import Derived.Test.YtpjlcmdidhdbcaaRl
namespace Go.Proofs.Ytpjlcmdidhdbcaa
set_option linter.unusedSimpArgs false
set_option linter.unusedVariables false
open Go.RowKit

theorem yields_bz {ops : Array Oper} {S : World → Prop} {o : Oper} {a : Act} (hw : Region.wanted o (yielded ops a.tmps) = true) (ho : o.op = .build 31 #[]) : YieldsIf Try.prog ops S o (.agg (omV om0)) a :=
  .inl ⟨hw, fun w _ => by
    have h := run_bzA w
    unfold execOp
    simp only [ho]
    simp [h, Result.andThen]⟩
theorem rep_true {o : Om} {h : List UInt8} (hr : repB o h = true) : o.k = 8 ∧ o.a = true ∧ repN o h = ⟨8, o.d, false, o.t, h, o.s⟩ := by
  have h1 := hr
  simp only [repB, Bool.and_eq_true, beq_iff_eq] at h1
  refine ⟨h1.1, h1.2.1, ?_⟩
  rw [repN, if_pos hr, h1.1]
theorem rep_off {o : Om} (h : List UInt8) (ha : o.a = false) : repB o h = false ∧ repN o h = om0 := by
  have h1 : repB o h = false := by unfold repB; rw [ha]; simp
  exact ⟨h1, by rw [repN, h1]; rfl⟩

set_option maxRecDepth 100000 in
set_option maxHeartbeats 8000000 in
theorem once_walk (o : Om) (ok : o.Ok) (h g : List UInt8) (hh : h.length = 16) (hg : g.length = 16) (w : World) : Calls Try.prog 6 #[.agg (omV o), .agg (payV h), .agg (payV g)] w fun e w' => e = .returned (.bool true) ∧ Below w.heap.size w w' := by
  have K0 := ((bk_new w (omV o) 25).alloc (.cells (payV h) 23)).alloc (.cells (payV g) 23)
  have H0 := (bk_new (w.alloc (.cells (omV o) 25)) (payV h) 23).alloc (.cells (payV g) 23)
  have G0 := bk_new ((w.alloc (.cells (omV o) 25)).alloc (.cells (payV h) 23)) (payV g) 23
  have A0 : Below w.heap.size w (((w.alloc (.cells (omV o) 25)).alloc (.cells (payV h) 23)).alloc (.cells (payV g) 23)) := (((Below.refl _ w).alloc (Nat.le_refl _) _).alloc (by simp) _).alloc (by simp; omega) _
  simp only [World.size_alloc] at H0 G0
  have HA := awake_calls (((w.alloc (.cells (omV o) 25)).alloc (.cells (payV h) 23)).alloc (.cells (payV g) 23))
  have R1 := fun w => reply_calls o ok h hh w
  have oky := rep_ok ok hh
  go_enter Try.func6, Try.ntmps6
  go_wp2_with fail
  refine HA.mono ?_
  rintro e w1 ⟨rfl, b1⟩
  have K1 := K0.below b1 K0.lt
  have H1 := H0.below b1 H0.lt
  have G1 := G0.below b1 G0.lt
  have B1 : Below w.heap.size w w1 := A0.trans (b1.mono (by simp; omega))
  have X2 := bk_new w1 (omV o) 31
  have H2 := H1.alloc (.cells (omV o) 31)
  have G2 := G1.alloc (.cells (omV o) 31)
  have B2 := B1.alloc B1.size (.cells (omV o) 31)
  clear K0 H0 G0 A0 b1 HA H1 G1 B1
  go_wp2_with (first | (with_reducible show wpList _ _ _ (Oper.mk _ (Op.load 25 _) _ _ _ _ :: _) _ _; refine wpList_ld rfl rfl rfl (run_ldB _ _ _ _ (by assumption) (by first | assumption | exact om0_ok)) ?_; (try simp only [Act.put, List.setIfInBounds_toArray, List.set_cons_zero, List.set_cons_succ, World.size_alloc])) | (with_reducible show wpList _ _ _ (Oper.mk _ (Op.alloc 31) _ _ _ _ :: Oper.mk _ (Op.store 31 _ _) _ _ _ _ :: _) _ _; refine wpList_def rfl rfl rfl rfl rfl zeroA (omV_hiA (by first | assumption | exact om0_ok)) (omV_same (by first | assumption | exact om0_ok) (by first | assumption | exact om0_ok)) (omV_one _) rfl ?_; (try simp only [Act.put, List.setIfInBounds_toArray, List.set_cons_zero, List.set_cons_succ, World.size_alloc])) | (with_reducible show wpList _ _ _ (Oper.mk _ (Op.load 31 _) _ _ _ _ :: _) _ _; refine wpList_ld rfl rfl rfl (run_ldA _ _ _ _ (by assumption) (by first | assumption | exact om0_ok)) ?_; (try simp only [Act.put, List.setIfInBounds_toArray, List.set_cons_zero, List.set_cons_succ, World.size_alloc])) | (with_reducible show wpList _ _ _ (Oper.mk _ (Op.load 23 _) _ _ _ _ :: _) _ _; refine wpList_ld rfl rfl rfl (run_ld16 _ _ _ _ (by assumption) (by first | assumption | exact z16_len | exact ones_len | exact Om.Ok.p (by assumption) | exact Om.Ok.s (by assumption))) ?_; (try simp only [Act.put, List.setIfInBounds_toArray, List.set_cons_zero, List.set_cons_succ, World.size_alloc])))
  refine (R1 _).mono ?_
  rintro e w3 ⟨rfl, b3⟩
  have X3 := X2.below b3 X2.lt
  have H3 := H2.below b3 H2.lt
  have G3 := G2.below b3 G2.lt
  have B3 : Below w.heap.size w w3 := B2.trans (b3.mono B2.size)
  have Y4 := bk_new w3 (omV (repN o h)) 31
  have X4 := X3.alloc (.cells (omV (repN o h)) 31)
  have H4 := H3.alloc (.cells (omV (repN o h)) 31)
  have G4 := G3.alloc (.cells (omV (repN o h)) 31)
  have B4 := B3.alloc B3.size (.cells (omV (repN o h)) 31)
  clear K1 X2 H2 G2 B2 b3 X3 H3 G3 R1
  cases hr : repB o h with
  | false =>
    have e1 : repN o h = om0 := by rw [repN, hr]; rfl
    rw [e1] at Y4 X4 H4 G4 B4 oky ⊢
    have hz : ∀ w, (binOp .eql 31 (.agg (omV om0)) (.agg (omV om0))).run Try.prog w = .ok (.bool true) w := by
      intro w; have := eqlA om0 om0 om0_ok om0_ok w; rwa [eqB_self] at this
    clear e1 hr
    go_wp2_with (first | (with_reducible show wpList _ _ _ (Oper.mk _ (Op.alloc 31) _ _ _ _ :: Oper.mk _ (Op.store 31 _ _) _ _ _ _ :: _) _ _; refine wpList_def rfl rfl rfl rfl rfl zeroA (omV_hiA (by first | assumption | exact om0_ok)) (omV_same (by first | assumption | exact om0_ok) (by first | assumption | exact om0_ok)) (omV_one _) rfl ?_; (try simp only [Act.put, List.setIfInBounds_toArray, List.set_cons_zero, List.set_cons_succ, World.size_alloc])) | (with_reducible show wpList _ _ _ (Oper.mk _ (Op.load 31 _) _ _ _ _ :: _) _ _; refine wpList_ld rfl rfl rfl (run_ldA _ _ _ _ (by assumption) (by first | assumption | exact om0_ok)) ?_; (try simp only [Act.put, List.setIfInBounds_toArray, List.set_cons_zero, List.set_cons_succ, World.size_alloc])) | (with_reducible show wpList _ _ _ (Oper.mk _ (Op.build 31 _) _ _ _ _ :: _) _ _; refine wpList_bld (vs := []) rfl rfl rfl (run_bzA _) ?_; (try simp only [Act.put, List.setIfInBounds_toArray, List.set_cons_zero, List.set_cons_succ, World.size_alloc])))
    go_ret
    exact ⟨rfl, B4⟩
  | true =>
    obtain ⟨hk, ha, e1⟩ := rep_true hr
    have hcan := rep_can hr
    have RY := fun w => right_calls (repN o h) oky w
    have RX := fun w => right_calls o ok w
    rw [hcan] at RY
    rw [e1] at Y4 X4 H4 G4 B4 oky RY ⊢
    obtain ⟨r1, r2⟩ := rep_off (o := ⟨8, o.d, false, o.t, h, o.s⟩) g rfl
    have R2 := fun w => reply_calls ⟨8, o.d, false, o.t, h, o.s⟩ oky g hg w
    rw [r1, r2] at R2
    have hz : ∀ w, (binOp .eql 31 (.agg (omV om0)) (.agg (omV om0))).run Try.prog w = .ok (.bool true) w := by
      intro w; have := eqlA om0 om0 om0_ok om0_ok w; rwa [eqB_self] at this
    have hs : ∀ w, (binOp .eql 23 (.agg (payV o.s)) (.agg (payV o.s))).run Try.prog w = .ok (.bool true) w := by
      intro w; have := eql16 o.s o.s ok.s ok.s w; rwa [decide_eq_true rfl] at this
    have hp : ∀ w, (binOp .eql 23 (.agg (payV h)) (.agg (payV h))).run Try.prog w = .ok (.bool true) w := by
      intro w; have := eql16 h h hh hh w; rwa [decide_eq_true rfl] at this
    clear e1 hr hcan r1 r2
    generalize canB o = cb at *
    go_wp2_with (first | (with_reducible show wpList _ _ _ (Oper.mk _ (Op.alloc 31) _ _ _ _ :: Oper.mk _ (Op.store 31 _ _) _ _ _ _ :: _) _ _; refine wpList_def rfl rfl rfl rfl rfl zeroA (omV_hiA (by first | assumption | exact om0_ok)) (omV_same (by first | assumption | exact om0_ok) (by first | assumption | exact om0_ok)) (omV_one _) rfl ?_; (try simp only [Act.put, List.setIfInBounds_toArray, List.set_cons_zero, List.set_cons_succ, World.size_alloc])) | (with_reducible show wpList _ _ _ (Oper.mk _ (Op.load 31 _) _ _ _ _ :: _) _ _; refine wpList_ld rfl rfl rfl (run_ldA _ _ _ _ (by assumption) (by first | assumption | exact om0_ok)) ?_; (try simp only [Act.put, List.setIfInBounds_toArray, List.set_cons_zero, List.set_cons_succ, World.size_alloc])) | (with_reducible show wpList _ _ _ (Oper.mk _ (Op.load 23 _) _ _ _ _ :: _) _ _; refine wpList_ld rfl rfl rfl (run_ld16 _ _ _ _ (by assumption) (by first | assumption | exact z16_len | exact ones_len | exact Om.Ok.p (by assumption) | exact Om.Ok.s (by assumption))) ?_; (try simp only [Act.put, List.setIfInBounds_toArray, List.set_cons_zero, List.set_cons_succ, World.size_alloc])))
    refine (R2 _).mono ?_
    rintro e w5 ⟨rfl, b5⟩
    have Y5 := Y4.below b5 Y4.lt
    have X5 := X4.below b5 X4.lt
    have H5 := H4.below b5 H4.lt
    have B5 : Below w.heap.size w w5 := B4.trans (b5.mono B4.size)
    have Z6 := bk_new w5 (omV om0) 31
    have Y6 := Y5.alloc (.cells (omV om0) 31)
    have X6 := X5.alloc (.cells (omV om0) 31)
    have H6 := H5.alloc (.cells (omV om0) 31)
    have B6 := B5.alloc B5.size (.cells (omV om0) 31)
    clear Y4 X4 H4 G4 B4 b5 Y5 X5 H5 B5 R2
    go_wp2_with ((with_reducible show wpList _ _ _ (Oper.mk _ (Op.alloc 31) _ _ _ _ :: Oper.mk _ (Op.store 31 _ _) _ _ _ _ :: _) _ _; refine wpList_def rfl rfl rfl rfl rfl zeroA (omV_hiA (by first | assumption | exact om0_ok)) (omV_same (by first | assumption | exact om0_ok) (by first | assumption | exact om0_ok)) (omV_one _) rfl ?_; (try simp only [Act.put, List.setIfInBounds_toArray, List.set_cons_zero, List.set_cons_succ, World.size_alloc])))
    refine wp_region_held_drew (S := (fun w' => BK w' w1.heap.size (omV o) 31 ∧ BK w' w3.heap.size (omV ⟨8, o.d, false, o.t, h, o.s⟩) 31 ∧ BK w' w5.heap.size (omV om0) 31 ∧ BK w' (w.heap.size + 1) (payV h) 23 ∧ Below w.heap.size w w')) (by kernel_rfl) ⟨X6.drew, Y6.drew, Z6.drew, H6.drew, B6.drew⟩ (fun hHeld => ?_)
    refine wpAnyH_take (i := 0) (oi := ({ dst := some 32, op := Op.fieldAddr 31 (Operand.tmp 7) 0, type := 0, pos := _, after := #[], guard := none } : Oper)) (v := ?_) rfl (by kernel_rfl) (by kernel_rfl) (by kernel_rfl) (fun _ _ _ h => h) (Or.inl ⟨by rfl, ?_⟩) hHeld ?_
    rotate_left
    · (intro w hS; go_simp; try with_reducible rfl)
    try simp only [Act.put, List.setIfInBounds_toArray, List.set_cons_zero, List.set_cons_succ]
    refine wpAnyH_take (i := 1) (oi := ({ dst := some 33, op := Op.load 3 (Operand.tmp 32), type := 3, pos := _, after := #[{ on := 0, ground := Ground.data }], guard := none } : Oper)) (v := ?_) rfl (by kernel_rfl) (by kernel_rfl) (by kernel_rfl) (fun _ _ _ h => h) (Or.inl ⟨by rfl, ?_⟩) hHeld ?_
    rotate_left
    · (intro w hS; obtain ⟨d0, d1, d2, d3⟩ := hS.1.om; rw [hk] at d0; go_simp; try with_reducible rfl)
    try simp only [Act.put, List.setIfInBounds_toArray, List.set_cons_zero, List.set_cons_succ]
    refine wpAnyH_take (i := 2) (oi := ({ dst := some 34, op := Op.binOp BinOp.eql 3 (Operand.tmp 33) (Operand.const (Value.int IntKind.i64 8)) 3, type := 4, pos := _, after := #[{ on := 1, ground := Ground.data }], guard := none } : Oper)) (v := ?_) rfl (by kernel_rfl) (by kernel_rfl) (by kernel_rfl) (fun _ _ _ h => h) (Or.inl ⟨by rfl, ?_⟩) hHeld ?_
    rotate_left
    · (intro w hS; go_simp; try with_reducible rfl)
    try simp only [Act.put, List.setIfInBounds_toArray, List.set_cons_zero, List.set_cons_succ]
    refine wpAnyH_take (i := 3) (oi := ({ dst := some 35, op := Op.move (Operand.tmp 34), type := 4, pos := _, after := #[{ on := 2, ground := Ground.data }], guard := none } : Oper)) (v := ?_) rfl (by kernel_rfl) (by kernel_rfl) (by kernel_rfl) (fun _ _ _ h => h) (Or.inl ⟨by rfl, ?_⟩) hHeld ?_
    rotate_left
    · (intro w hS; go_simp; try with_reducible rfl)
    try simp only [Act.put, List.setIfInBounds_toArray, List.set_cons_zero, List.set_cons_succ]
    refine wpAnyH_take (i := 4) (oi := ({ dst := some 36, op := Op.fieldAddr 31 (Operand.tmp 7) 2, type := 0, pos := _, after := #[{ on := 3, ground := Ground.guard }], guard := some (3, true) } : Oper)) (v := ?_) rfl (by kernel_rfl) (by kernel_rfl) (by kernel_rfl) (fun _ _ _ h => h) (Or.inl ⟨by rfl, ?_⟩) hHeld ?_
    rotate_left
    · (intro w hS; go_simp; try with_reducible rfl)
    try simp only [Act.put, List.setIfInBounds_toArray, List.set_cons_zero, List.set_cons_succ]
    refine wpAnyH_take (i := 5) (oi := ({ dst := some 37, op := Op.load 4 (Operand.tmp 36), type := 4, pos := _, after := #[{ on := 4, ground := Ground.data }, { on := 3, ground := Ground.guard }], guard := some (3, true) } : Oper)) (v := ?_) rfl (by kernel_rfl) (by kernel_rfl) (by kernel_rfl) (fun _ _ _ h => h) (Or.inl ⟨by rfl, ?_⟩) hHeld ?_
    rotate_left
    · (intro w hS; obtain ⟨d0, d1, d2, d3⟩ := hS.1.om; rw [ha] at d2; go_simp; try with_reducible rfl)
    try simp only [Act.put, List.setIfInBounds_toArray, List.set_cons_zero, List.set_cons_succ]
    refine wpAnyH_take (i := 6) (oi := ({ dst := some 38, op := Op.pick (Operand.tmp 35) (Operand.tmp 37) (Operand.const (Value.bool false)), type := 4, pos := _, after := #[{ on := 3, ground := Ground.data }, { on := 5, ground := Ground.data }], guard := none } : Oper)) (v := ?_) rfl (by kernel_rfl) (by kernel_rfl) (by kernel_rfl) (fun _ _ _ h => h) (Or.inl ⟨by rfl, ?_⟩) hHeld ?_
    rotate_left
    · (intro w hS; go_simp; try with_reducible rfl)
    try simp only [Act.put, List.setIfInBounds_toArray, List.set_cons_zero, List.set_cons_succ]
    refine wpAnyH_take (i := 7) (oi := ({ dst := some 39, op := Op.move (Operand.tmp 38), type := 4, pos := _, after := #[{ on := 6, ground := Ground.data }, { on := 3, ground := Ground.chain }], guard := none } : Oper)) (v := ?_) rfl (by kernel_rfl) (by kernel_rfl) (by kernel_rfl) (fun _ _ _ h => h) (Or.inl ⟨by rfl, ?_⟩) hHeld ?_
    rotate_left
    · (intro w hS; go_simp; try with_reducible rfl)
    try simp only [Act.put, List.setIfInBounds_toArray, List.set_cons_zero, List.set_cons_succ]
    refine wpAnyH_take (i := 8) (oi := ({ dst := some 40, op := Op.fieldAddr 31 (Operand.tmp 8) 2, type := 0, pos := _, after := #[{ on := 7, ground := Ground.guard }], guard := some (7, true) } : Oper)) (v := ?_) rfl (by kernel_rfl) (by kernel_rfl) (by kernel_rfl) (fun _ _ _ h => h) (Or.inl ⟨by rfl, ?_⟩) hHeld ?_
    rotate_left
    · (intro w hS; go_simp; try with_reducible rfl)
    try simp only [Act.put, List.setIfInBounds_toArray, List.set_cons_zero, List.set_cons_succ]
    refine wpAnyH_take (i := 9) (oi := ({ dst := some 41, op := Op.load 4 (Operand.tmp 40), type := 4, pos := _, after := #[{ on := 8, ground := Ground.data }, { on := 7, ground := Ground.guard }], guard := some (7, true) } : Oper)) (v := ?_) rfl (by kernel_rfl) (by kernel_rfl) (by kernel_rfl) (fun _ _ _ h => h) (Or.inl ⟨by rfl, ?_⟩) hHeld ?_
    rotate_left
    · (intro w hS; obtain ⟨d0, d1, d2, d3⟩ := hS.2.1.om; go_simp; try with_reducible rfl)
    try simp only [Act.put, List.setIfInBounds_toArray, List.set_cons_zero, List.set_cons_succ]
    refine wpAnyH_take (i := 10) (oi := ({ dst := some 42, op := Op.unOp UnOp.not 4 (Operand.tmp 41), type := 4, pos := _, after := #[{ on := 9, ground := Ground.data }, { on := 7, ground := Ground.guard }], guard := some (7, true) } : Oper)) (v := ?_) rfl (by kernel_rfl) (by kernel_rfl) (by kernel_rfl) (fun _ _ _ h => h) (Or.inl ⟨by rfl, ?_⟩) hHeld ?_
    rotate_left
    · (intro w hS; go_simp; try with_reducible rfl)
    try simp only [Act.put, List.setIfInBounds_toArray, List.set_cons_zero, List.set_cons_succ]
    refine wpAnyH_take (i := 11) (oi := ({ dst := some 43, op := Op.pick (Operand.tmp 39) (Operand.tmp 42) (Operand.const (Value.bool false)), type := 4, pos := _, after := #[{ on := 7, ground := Ground.data }, { on := 10, ground := Ground.data }], guard := none } : Oper)) (v := ?_) rfl (by kernel_rfl) (by kernel_rfl) (by kernel_rfl) (fun _ _ _ h => h) (Or.inl ⟨by rfl, ?_⟩) hHeld ?_
    rotate_left
    · (intro w hS; go_simp; try with_reducible rfl)
    try simp only [Act.put, List.setIfInBounds_toArray, List.set_cons_zero, List.set_cons_succ]
    refine wpAnyH_take (i := 12) (oi := ({ dst := some 44, op := Op.move (Operand.tmp 43), type := 4, pos := _, after := #[{ on := 11, ground := Ground.data }, { on := 7, ground := Ground.chain }], guard := none } : Oper)) (v := ?_) rfl (by kernel_rfl) (by kernel_rfl) (by kernel_rfl) (fun _ _ _ h => h) (Or.inl ⟨by rfl, ?_⟩) hHeld ?_
    rotate_left
    · (intro w hS; go_simp; try with_reducible rfl)
    try simp only [Act.put, List.setIfInBounds_toArray, List.set_cons_zero, List.set_cons_succ]
    refine wpAnyH_take (i := 13) (oi := ({ dst := some 45, op := Op.fieldAddr 31 (Operand.tmp 8) 3, type := 0, pos := _, after := #[{ on := 12, ground := Ground.guard }], guard := some (12, true) } : Oper)) (v := ?_) rfl (by kernel_rfl) (by kernel_rfl) (by kernel_rfl) (fun _ _ _ h => h) (Or.inl ⟨by rfl, ?_⟩) hHeld ?_
    rotate_left
    · (intro w hS; go_simp; try with_reducible rfl)
    try simp only [Act.put, List.setIfInBounds_toArray, List.set_cons_zero, List.set_cons_succ]
    refine wpAnyH_take (i := 14) (oi := ({ dst := some 46, op := Op.load 22 (Operand.tmp 45), type := 22, pos := _, after := #[{ on := 13, ground := Ground.data }, { on := 12, ground := Ground.guard }], guard := some (12, true) } : Oper)) (v := ?_) rfl (by kernel_rfl) (by kernel_rfl) (by kernel_rfl) (fun _ _ _ h => h) (Or.inl ⟨by rfl, ?_⟩) hHeld ?_
    rotate_left
    · (intro w hS; obtain ⟨d0, d1, d2, d3⟩ := hS.2.1.om; go_simp; try with_reducible rfl)
    try simp only [Act.put, List.setIfInBounds_toArray, List.set_cons_zero, List.set_cons_succ]
    refine wpAnyH_take (i := 15) (oi := ({ dst := some 47, op := Op.fieldAddr 31 (Operand.tmp 7) 3, type := 0, pos := _, after := #[{ on := 12, ground := Ground.guard }], guard := some (12, true) } : Oper)) (v := ?_) rfl (by kernel_rfl) (by kernel_rfl) (by kernel_rfl) (fun _ _ _ h => h) (Or.inl ⟨by rfl, ?_⟩) hHeld ?_
    rotate_left
    · (intro w hS; go_simp; try with_reducible rfl)
    try simp only [Act.put, List.setIfInBounds_toArray, List.set_cons_zero, List.set_cons_succ]
    refine wpAnyH_take (i := 16) (oi := ({ dst := some 48, op := Op.load 22 (Operand.tmp 47), type := 22, pos := _, after := #[{ on := 15, ground := Ground.data }, { on := 12, ground := Ground.guard }], guard := some (12, true) } : Oper)) (v := ?_) rfl (by kernel_rfl) (by kernel_rfl) (by kernel_rfl) (fun _ _ _ h => h) (Or.inl ⟨by rfl, ?_⟩) hHeld ?_
    rotate_left
    · (intro w hS; obtain ⟨d0, d1, d2, d3⟩ := hS.1.om; go_simp; try with_reducible rfl)
    try simp only [Act.put, List.setIfInBounds_toArray, List.set_cons_zero, List.set_cons_succ]
    refine wpAnyH_take (i := 17) (oi := ({ dst := some 49, op := Op.binOp BinOp.eql 22 (Operand.tmp 46) (Operand.tmp 48) 22, type := 4, pos := _, after := #[{ on := 14, ground := Ground.data }, { on := 16, ground := Ground.data }, { on := 12, ground := Ground.guard }], guard := some (12, true) } : Oper)) (v := ?_) rfl (by kernel_rfl) (by kernel_rfl) (by kernel_rfl) (fun _ _ _ h => h) (Or.inl ⟨by rfl, ?_⟩) hHeld ?_
    rotate_left
    · (intro w hS; go_simp; try with_reducible rfl)
    try simp only [Act.put, List.setIfInBounds_toArray, List.set_cons_zero, List.set_cons_succ]
    refine wpAnyH_take (i := 18) (oi := ({ dst := some 50, op := Op.pick (Operand.tmp 44) (Operand.tmp 49) (Operand.const (Value.bool false)), type := 4, pos := _, after := #[{ on := 12, ground := Ground.data }, { on := 17, ground := Ground.data }], guard := none } : Oper)) (v := ?_) rfl (by kernel_rfl) (by kernel_rfl) (by kernel_rfl) (fun _ _ _ h => h) (Or.inl ⟨by rfl, ?_⟩) hHeld ?_
    rotate_left
    · (intro w hS; go_simp; try with_reducible rfl)
    try simp only [Act.put, List.setIfInBounds_toArray, List.set_cons_zero, List.set_cons_succ]
    refine wpAnyH_take (i := 19) (oi := ({ dst := some 51, op := Op.move (Operand.tmp 50), type := 4, pos := _, after := #[{ on := 18, ground := Ground.data }, { on := 12, ground := Ground.chain }], guard := none } : Oper)) (v := ?_) rfl (by kernel_rfl) (by kernel_rfl) (by kernel_rfl) (fun _ _ _ h => h) (Or.inl ⟨by rfl, ?_⟩) hHeld ?_
    rotate_left
    · (intro w hS; go_simp; try with_reducible rfl)
    try simp only [Act.put, List.setIfInBounds_toArray, List.set_cons_zero, List.set_cons_succ]
    refine wpAnyH_take (i := 20) (oi := ({ dst := some 52, op := Op.fieldAddr 31 (Operand.tmp 8) 5, type := 0, pos := _, after := #[{ on := 19, ground := Ground.guard }], guard := some (19, true) } : Oper)) (v := ?_) rfl (by kernel_rfl) (by kernel_rfl) (by kernel_rfl) (fun _ _ _ h => h) (Or.inl ⟨by rfl, ?_⟩) hHeld ?_
    rotate_left
    · (intro w hS; go_simp; try with_reducible rfl)
    try simp only [Act.put, List.setIfInBounds_toArray, List.set_cons_zero, List.set_cons_succ]
    refine wpAnyH_take (i := 21) (oi := ({ dst := some 53, op := Op.load 23 (Operand.tmp 52), type := 23, pos := _, after := #[{ on := 20, ground := Ground.data }, { on := 19, ground := Ground.guard }], guard := some (19, true) } : Oper))  rfl (by kernel_rfl) (by kernel_rfl) (by kernel_rfl) (fun _ _ _ h => h) (yields_ld rfl rfl rfl (fun w hS => run_ldSo w _ _ _ hS.2.1 oky)) hHeld ?_
    try simp only [Act.put, List.setIfInBounds_toArray, List.set_cons_zero, List.set_cons_succ]
    refine wpAnyH_take (i := 22) (oi := ({ dst := some 54, op := Op.fieldAddr 31 (Operand.tmp 7) 5, type := 0, pos := _, after := #[{ on := 19, ground := Ground.guard }], guard := some (19, true) } : Oper)) (v := ?_) rfl (by kernel_rfl) (by kernel_rfl) (by kernel_rfl) (fun _ _ _ h => h) (Or.inl ⟨by rfl, ?_⟩) hHeld ?_
    rotate_left
    · (intro w hS; go_simp; try with_reducible rfl)
    try simp only [Act.put, List.setIfInBounds_toArray, List.set_cons_zero, List.set_cons_succ]
    refine wpAnyH_take (i := 23) (oi := ({ dst := some 55, op := Op.load 23 (Operand.tmp 54), type := 23, pos := _, after := #[{ on := 22, ground := Ground.data }, { on := 19, ground := Ground.guard }], guard := some (19, true) } : Oper))  rfl (by kernel_rfl) (by kernel_rfl) (by kernel_rfl) (fun _ _ _ h => h) (yields_ld rfl rfl rfl (fun w hS => run_ldSo w _ _ _ hS.1 ok)) hHeld ?_
    try simp only [Act.put, List.setIfInBounds_toArray, List.set_cons_zero, List.set_cons_succ]
    refine wpAnyH_take (i := 24) (oi := ({ dst := some 56, op := Op.binOp BinOp.eql 23 (Operand.tmp 53) (Operand.tmp 55) 23, type := 4, pos := _, after := #[{ on := 21, ground := Ground.data }, { on := 23, ground := Ground.data }, { on := 19, ground := Ground.guard }], guard := some (19, true) } : Oper)) (v := ?_) rfl (by kernel_rfl) (by kernel_rfl) (by kernel_rfl) (fun _ _ _ h => h) (Or.inl ⟨by rfl, ?_⟩) hHeld ?_
    rotate_left
    · (intro w hS; go_simp; try with_reducible rfl)
    try simp only [Act.put, List.setIfInBounds_toArray, List.set_cons_zero, List.set_cons_succ]
    refine wpAnyH_take (i := 25) (oi := ({ dst := some 57, op := Op.pick (Operand.tmp 51) (Operand.tmp 56) (Operand.const (Value.bool false)), type := 4, pos := _, after := #[{ on := 19, ground := Ground.data }, { on := 24, ground := Ground.data }], guard := none } : Oper)) (v := ?_) rfl (by kernel_rfl) (by kernel_rfl) (by kernel_rfl) (fun _ _ _ h => h) (Or.inl ⟨by rfl, ?_⟩) hHeld ?_
    rotate_left
    · (intro w hS; go_simp; try with_reducible rfl)
    try simp only [Act.put, List.setIfInBounds_toArray, List.set_cons_zero, List.set_cons_succ]
    refine wpAnyH_take (i := 26) (oi := ({ dst := some 58, op := Op.move (Operand.tmp 57), type := 4, pos := _, after := #[{ on := 25, ground := Ground.data }, { on := 19, ground := Ground.chain }], guard := none } : Oper)) (v := ?_) rfl (by kernel_rfl) (by kernel_rfl) (by kernel_rfl) (fun _ _ _ h => h) (Or.inl ⟨by rfl, ?_⟩) hHeld ?_
    rotate_left
    · (intro w hS; go_simp; try with_reducible rfl)
    try simp only [Act.put, List.setIfInBounds_toArray, List.set_cons_zero, List.set_cons_succ]
    refine wpAnyH_take (i := 27) (oi := ({ dst := some 59, op := Op.fieldAddr 31 (Operand.tmp 8) 4, type := 0, pos := _, after := #[{ on := 26, ground := Ground.guard }], guard := some (26, true) } : Oper)) (v := ?_) rfl (by kernel_rfl) (by kernel_rfl) (by kernel_rfl) (fun _ _ _ h => h) (Or.inl ⟨by rfl, ?_⟩) hHeld ?_
    rotate_left
    · (intro w hS; go_simp; try with_reducible rfl)
    try simp only [Act.put, List.setIfInBounds_toArray, List.set_cons_zero, List.set_cons_succ]
    refine wpAnyH_take (i := 28) (oi := ({ dst := some 60, op := Op.load 23 (Operand.tmp 59), type := 23, pos := _, after := #[{ on := 27, ground := Ground.data }, { on := 26, ground := Ground.guard }], guard := some (26, true) } : Oper))  rfl (by kernel_rfl) (by kernel_rfl) (by kernel_rfl) (fun _ _ _ h => h) (yields_ld rfl rfl rfl (fun w hS => run_ldPl w _ _ _ hS.2.1 oky)) hHeld ?_
    try simp only [Act.put, List.setIfInBounds_toArray, List.set_cons_zero, List.set_cons_succ]
    refine wpAnyH_take (i := 29) (oi := ({ dst := some 61, op := Op.load 23 (Operand.tmp 4), type := 23, pos := _, after := #[{ on := 26, ground := Ground.guard }], guard := some (26, true) } : Oper))  rfl (by kernel_rfl) (by kernel_rfl) (by kernel_rfl) (fun _ _ _ h => h) (yields_ld rfl rfl rfl (fun w hS => run_ld16 w _ _ _ hS.2.2.2.1 hh)) hHeld ?_
    try simp only [Act.put, List.setIfInBounds_toArray, List.set_cons_zero, List.set_cons_succ]
    refine wpAnyH_take (i := 30) (oi := ({ dst := some 62, op := Op.binOp BinOp.eql 23 (Operand.tmp 60) (Operand.tmp 61) 23, type := 4, pos := _, after := #[{ on := 28, ground := Ground.data }, { on := 29, ground := Ground.data }, { on := 26, ground := Ground.guard }], guard := some (26, true) } : Oper)) (v := ?_) rfl (by kernel_rfl) (by kernel_rfl) (by kernel_rfl) (fun _ _ _ h => h) (Or.inl ⟨by rfl, ?_⟩) hHeld ?_
    rotate_left
    · (intro w hS; go_simp; try with_reducible rfl)
    try simp only [Act.put, List.setIfInBounds_toArray, List.set_cons_zero, List.set_cons_succ]
    refine wpAnyH_take (i := 31) (oi := ({ dst := some 63, op := Op.pick (Operand.tmp 58) (Operand.tmp 62) (Operand.const (Value.bool false)), type := 4, pos := _, after := #[{ on := 26, ground := Ground.data }, { on := 30, ground := Ground.data }], guard := none } : Oper)) (v := ?_) rfl (by kernel_rfl) (by kernel_rfl) (by kernel_rfl) (fun _ _ _ h => h) (Or.inl ⟨by rfl, ?_⟩) hHeld ?_
    rotate_left
    · (intro w hS; go_simp; try with_reducible rfl)
    try simp only [Act.put, List.setIfInBounds_toArray, List.set_cons_zero, List.set_cons_succ]
    refine wpAnyH_take (i := 32) (oi := ({ dst := some 64, op := Op.move (Operand.tmp 63), type := 4, pos := _, after := #[{ on := 31, ground := Ground.data }, { on := 26, ground := Ground.chain }], guard := none } : Oper)) (v := ?_) rfl (by kernel_rfl) (by kernel_rfl) (by kernel_rfl) (fun _ _ _ h => h) (Or.inl ⟨by rfl, ?_⟩) hHeld ?_
    rotate_left
    · (intro w hS; go_simp; try with_reducible rfl)
    try simp only [Act.put, List.setIfInBounds_toArray, List.set_cons_zero, List.set_cons_succ]
    refine wpAnyH_take (i := 33) (oi := ({ dst := some 65, op := Op.move (Operand.tmp 11), type := 4, pos := _, after := #[{ on := 32, ground := Ground.guard }], guard := some (32, true) } : Oper)) (v := ?_) rfl (by kernel_rfl) (by kernel_rfl) (by kernel_rfl) (fun _ _ _ h => h) (Or.inl ⟨by rfl, ?_⟩) hHeld ?_
    rotate_left
    · (intro w hS; go_simp; try with_reducible rfl)
    try simp only [Act.put, List.setIfInBounds_toArray, List.set_cons_zero, List.set_cons_succ]
    refine wpAnyH_take (i := 34) (oi := ({ dst := some 66, op := Op.unOp UnOp.not 4 (Operand.tmp 65), type := 4, pos := _, after := #[{ on := 33, ground := Ground.data }, { on := 32, ground := Ground.guard }], guard := some (32, true) } : Oper)) (v := ?_) rfl (by kernel_rfl) (by kernel_rfl) (by kernel_rfl) (fun _ _ _ h => h) (Or.inl ⟨by rfl, ?_⟩) hHeld ?_
    rotate_left
    · (intro w hS; go_simp; try with_reducible rfl)
    try simp only [Act.put, List.setIfInBounds_toArray, List.set_cons_zero, List.set_cons_succ]
    refine wpAnyH_take (i := 35) (oi := ({ dst := some 67, op := Op.pick (Operand.tmp 64) (Operand.tmp 66) (Operand.const (Value.bool false)), type := 4, pos := _, after := #[{ on := 32, ground := Ground.data }, { on := 34, ground := Ground.data }], guard := none } : Oper)) (v := ?_) rfl (by kernel_rfl) (by kernel_rfl) (by kernel_rfl) (fun _ _ _ h => h) (Or.inl ⟨by rfl, ?_⟩) hHeld ?_
    rotate_left
    · (intro w hS; go_simp; try with_reducible rfl)
    try simp only [Act.put, List.setIfInBounds_toArray, List.set_cons_zero, List.set_cons_succ]
    refine wpAnyH_take (i := 36) (oi := ({ dst := some 68, op := Op.move (Operand.tmp 67), type := 4, pos := _, after := #[{ on := 35, ground := Ground.data }, { on := 32, ground := Ground.chain }], guard := none } : Oper)) (v := ?_) rfl (by kernel_rfl) (by kernel_rfl) (by kernel_rfl) (fun _ _ _ h => h) (Or.inl ⟨by rfl, ?_⟩) hHeld ?_
    rotate_left
    · (intro w hS; go_simp; try with_reducible rfl)
    try simp only [Act.put, List.setIfInBounds_toArray, List.set_cons_zero, List.set_cons_succ]
    refine wpAnyH_take (i := 37) (oi := ({ dst := some 69, op := Op.load 31 (Operand.tmp 10), type := 31, pos := _, after := #[{ on := 36, ground := Ground.guard }], guard := some (36, true) } : Oper))  rfl (by kernel_rfl) (by kernel_rfl) (by kernel_rfl) (fun _ _ _ h => h) (yields_ld rfl rfl rfl (fun w hS => run_ldA w _ _ _ hS.2.2.1 om0_ok)) hHeld ?_
    try simp only [Act.put, List.setIfInBounds_toArray, List.set_cons_zero, List.set_cons_succ]
    refine wpAnyH_take (i := 38) (oi := ({ dst := some 70, op := Op.build 31 #[], type := 31, pos := _, after := #[{ on := 36, ground := Ground.guard }], guard := some (36, true) } : Oper))  rfl (by kernel_rfl) (by kernel_rfl) (by kernel_rfl) (fun _ _ _ h => h) (yields_bz rfl rfl) hHeld ?_
    try simp only [Act.put, List.setIfInBounds_toArray, List.set_cons_zero, List.set_cons_succ]
    refine wpAnyH_take (i := 39) (oi := ({ dst := some 71, op := Op.binOp BinOp.eql 31 (Operand.tmp 69) (Operand.tmp 70) 31, type := 4, pos := _, after := #[{ on := 37, ground := Ground.data }, { on := 38, ground := Ground.data }, { on := 36, ground := Ground.guard }], guard := some (36, true) } : Oper)) (v := ?_) rfl (by kernel_rfl) (by kernel_rfl) (by kernel_rfl) (fun _ _ _ h => h) (Or.inl ⟨by rfl, ?_⟩) hHeld ?_
    rotate_left
    · (intro w hS; go_simp; try with_reducible rfl)
    try simp only [Act.put, List.setIfInBounds_toArray, List.set_cons_zero, List.set_cons_succ]
    refine wpAnyH_take (i := 40) (oi := ({ dst := some 72, op := Op.pick (Operand.tmp 68) (Operand.tmp 71) (Operand.const (Value.bool false)), type := 4, pos := _, after := #[{ on := 36, ground := Ground.data }, { on := 39, ground := Ground.data }], guard := none } : Oper)) (v := ?_) rfl (by kernel_rfl) (by kernel_rfl) (by kernel_rfl) (fun _ _ _ h => h) (Or.inl ⟨by rfl, ?_⟩) hHeld ?_
    rotate_left
    · (intro w hS; go_simp; try with_reducible rfl)
    try simp only [Act.put, List.setIfInBounds_toArray, List.set_cons_zero, List.set_cons_succ]
    refine wpAnyH_take (i := 41) (oi := ({ dst := some 73, op := Op.move (Operand.tmp 72), type := 4, pos := _, after := #[{ on := 40, ground := Ground.data }, { on := 36, ground := Ground.chain }], guard := none } : Oper)) (v := ?_) rfl (by kernel_rfl) (by kernel_rfl) (by kernel_rfl) (fun _ _ _ h => h) (Or.inl ⟨by rfl, ?_⟩) hHeld ?_
    rotate_left
    · (intro w hS; go_simp; try with_reducible rfl)
    try simp only [Act.put, List.setIfInBounds_toArray, List.set_cons_zero, List.set_cons_succ]
    refine wpAnyH_take (i := 42) (oi := ({ dst := some 74, op := Op.load 31 (Operand.tmp 8), type := 31, pos := _, after := #[{ on := 41, ground := Ground.guard }], guard := some (41, true) } : Oper))  rfl (by kernel_rfl) (by kernel_rfl) (by kernel_rfl) (fun _ _ _ h => h) (yields_ld rfl rfl rfl (fun w hS => run_ldA w _ _ _ hS.2.1 oky)) hHeld ?_
    try simp only [Act.put, List.setIfInBounds_toArray, List.set_cons_zero, List.set_cons_succ]
    refine wpAnyH_take (i := 44) (oi := ({ dst := some 76, op := Op.load 31 (Operand.tmp 7), type := 31, pos := _, after := #[{ on := 41, ground := Ground.guard }], guard := some (41, true) } : Oper))  rfl (by kernel_rfl) (by kernel_rfl) (by kernel_rfl) (fun _ _ _ h => h) (yields_ld rfl rfl rfl (fun w hS => run_ldA w _ _ _ hS.1 ok)) hHeld ?_
    try simp only [Act.put, List.setIfInBounds_toArray, List.set_cons_zero, List.set_cons_succ]
    refine wpAnyH_ready (rs := [43]) (by kernel_rfl) (by simp) ?_
    refine AllReadyH.cons (o := ({ dst := some 75, op := Op.call { callee := Callee.value (Operand.func 14), args := #[Operand.tmp 74], argTypes := #[31] }, type := 4, pos := _, after := #[{ on := 42, ground := Ground.data }, { on := 41, ground := Ground.chain }, { on := 41, ground := Ground.guard }], guard := some (41, true) } : Oper)) rfl (fun K hK => ?_) AllReadyH.nil
    refine step_call (RY _) (enters_of Try.func14 (by kernel_rfl) rfl) _ _ rfl rfl rfl ?_
    rintro e w7 ⟨rfl, b7⟩
    refine ⟨_, rfl, hK.out _ _ ⟨hHeld.1.below b7 hHeld.1.lt, hHeld.2.1.below b7 hHeld.2.1.lt, hHeld.2.2.1.below b7 hHeld.2.2.1.lt, hHeld.2.2.2.1.below b7 hHeld.2.2.2.1.lt, hHeld.2.2.2.2.trans (b7.mono hHeld.2.2.2.2.size)⟩ (fun hHeld => ?_)⟩
    clear hK K
    try simp only [Act.put, List.setIfInBounds_toArray, List.set_cons_zero, List.set_cons_succ]
    refine wpAnyH_ready (rs := [45]) (by kernel_rfl) (by simp) ?_
    refine AllReadyH.cons (o := ({ dst := some 77, op := Op.call { callee := Callee.value (Operand.func 14), args := #[Operand.tmp 76], argTypes := #[31] }, type := 4, pos := _, after := #[{ on := 44, ground := Ground.data }, { on := 43, ground := Ground.chain }, { on := 41, ground := Ground.guard }], guard := some (41, true) } : Oper)) rfl (fun K hK => ?_) AllReadyH.nil
    refine step_call (RX _) (enters_of Try.func14 (by kernel_rfl) rfl) _ _ rfl rfl rfl ?_
    rintro e w8 ⟨rfl, b8⟩
    refine ⟨_, rfl, hK.out _ _ ⟨hHeld.1.below b8 hHeld.1.lt, hHeld.2.1.below b8 hHeld.2.1.lt, hHeld.2.2.1.below b8 hHeld.2.2.1.lt, hHeld.2.2.2.1.below b8 hHeld.2.2.2.1.lt, hHeld.2.2.2.2.trans (b8.mono hHeld.2.2.2.2.size)⟩ (fun hHeld => ?_)⟩
    clear hK K
    try simp only [Act.put, List.setIfInBounds_toArray, List.set_cons_zero, List.set_cons_succ]
    refine wpAnyH_take (i := 46) (oi := ({ dst := some 78, op := Op.binOp BinOp.eql 4 (Operand.tmp 75) (Operand.tmp 77) 4, type := 4, pos := _, after := #[{ on := 43, ground := Ground.data }, { on := 45, ground := Ground.data }, { on := 41, ground := Ground.guard }], guard := some (41, true) } : Oper)) (v := ?_) rfl (by kernel_rfl) (by kernel_rfl) (by kernel_rfl) (fun _ _ _ h => h) (Or.inl ⟨by rfl, ?_⟩) hHeld ?_
    rotate_left
    · (intro w hS; go_simp; try with_reducible rfl)
    try simp only [Act.put, List.setIfInBounds_toArray, List.set_cons_zero, List.set_cons_succ]
    refine wpAnyH_take (i := 47) (oi := ({ dst := some 79, op := Op.pick (Operand.tmp 73) (Operand.tmp 78) (Operand.const (Value.bool false)), type := 4, pos := _, after := #[{ on := 41, ground := Ground.data }, { on := 46, ground := Ground.data }], guard := none } : Oper)) (v := ?_) rfl (by kernel_rfl) (by kernel_rfl) (by kernel_rfl) (fun _ _ _ h => h) (Or.inl ⟨by rfl, ?_⟩) hHeld ?_
    rotate_left
    · (intro w hS; go_simp; try with_reducible rfl)
    try simp only [Act.put, List.setIfInBounds_toArray, List.set_cons_zero, List.set_cons_succ]
    refine wpAnyH_take (i := 48) (oi := ({ dst := some 6, op := Op.assign (Operand.tmp 79), type := 4, pos := _, after := #[{ on := 47, ground := Ground.data }, { on := 45, ground := Ground.chain }, { on := 0, ground := Ground.phase }, { on := 1, ground := Ground.phase }, { on := 2, ground := Ground.phase }, { on := 3, ground := Ground.phase }, { on := 4, ground := Ground.phase }, { on := 5, ground := Ground.phase }, { on := 6, ground := Ground.phase }, { on := 7, ground := Ground.phase }, { on := 8, ground := Ground.phase }, { on := 9, ground := Ground.phase }, { on := 10, ground := Ground.phase }, { on := 11, ground := Ground.phase }, { on := 12, ground := Ground.phase }, { on := 13, ground := Ground.phase }, { on := 14, ground := Ground.phase }, { on := 15, ground := Ground.phase }, { on := 16, ground := Ground.phase }, { on := 17, ground := Ground.phase }, { on := 18, ground := Ground.phase }, { on := 19, ground := Ground.phase }, { on := 20, ground := Ground.phase }, { on := 21, ground := Ground.phase }, { on := 22, ground := Ground.phase }, { on := 23, ground := Ground.phase }, { on := 24, ground := Ground.phase }, { on := 25, ground := Ground.phase }, { on := 26, ground := Ground.phase }, { on := 27, ground := Ground.phase }, { on := 28, ground := Ground.phase }, { on := 29, ground := Ground.phase }, { on := 30, ground := Ground.phase }, { on := 31, ground := Ground.phase }, { on := 32, ground := Ground.phase }, { on := 33, ground := Ground.phase }, { on := 34, ground := Ground.phase }, { on := 35, ground := Ground.phase }, { on := 36, ground := Ground.phase }, { on := 37, ground := Ground.phase }, { on := 38, ground := Ground.phase }, { on := 39, ground := Ground.phase }, { on := 40, ground := Ground.phase }, { on := 41, ground := Ground.phase }, { on := 42, ground := Ground.phase }, { on := 43, ground := Ground.phase }, { on := 44, ground := Ground.phase }, { on := 45, ground := Ground.phase }, { on := 46, ground := Ground.phase }, { on := 47, ground := Ground.phase }], guard := none } : Oper)) (v := ?_) rfl (by kernel_rfl) (by kernel_rfl) (by kernel_rfl) (fun _ _ _ h => h) (Or.inl ⟨by rfl, ?_⟩) hHeld ?_
    rotate_left
    · (intro w hS; go_simp; try with_reducible rfl)
    try simp only [Act.put, List.setIfInBounds_toArray, List.set_cons_zero, List.set_cons_succ]
    refine wpAnyH_done (by kernel_rfl) ?_ _
    skip
    go_wp2
    go_ret
    exact ⟨rfl, hHeld.2.2.2.2⟩
end Go.Proofs.Ytpjlcmdidhdbcaa
