/- Proved here: the walk of OamApart. Conditions: as each theorem states them. -/
import Derived.Test.YtpjlcmdidhdbcaaAw
import Derived.Test.YtpjlcmdidhdbcaaOp
namespace Go.Proofs.Ytpjlcmdidhdbcaa
set_option linter.unusedSimpArgs false
set_option linter.unusedVariables false
open Go.RowKit

theorem apart_bool {r s : Om} (hr : r.Ok) (hs : s.Ok) (cr : canB r = true) (cs : canB s = true) : decide (payN r = payN s) = eqB r s := by
  rw [Bool.eq_iff_iff, decide_eq_true_iff, eqB_iff]
  exact ⟨fun h => pay_inj hr hs cr cs h, fun h => by rw [h]⟩

set_option maxRecDepth 100000 in
set_option maxHeartbeats 8000000 in
theorem apart_walk (r s : Om) (hr : r.Ok) (hs : s.Ok) (w : World) : Calls Try.prog 8 #[.agg (omV r), .agg (omV s)] w fun e w' => e = .returned (.bool true) ∧ Below w.heap.size w w' := by
  have K0 := (bk_new w (omV r) 25).alloc (.cells (omV s) 25)
  have R0 := bk_new (w.alloc (.cells (omV r) 25)) (omV s) 25
  rw [World.size_alloc] at R0
  have A0 : Below w.heap.size w ((w.alloc (.cells (omV r) 25)).alloc (.cells (omV s) 25)) := ((Below.refl _ w).alloc (Nat.le_refl _) _).alloc (by simp) _
  have HA := awake_calls ((w.alloc (.cells (omV r) 25)).alloc (.cells (omV s) 25))
  have P1 := fun w => pack_calls r hr w
  have P2 := fun w => pack_calls s hs w
  have HL : Hid ((pkN r).length = 48) := pk_len hr
  have HM : Hid ((pkN s).length = 48) := pk_len hs
  have he1 := fun w => eql24 (pkN r) (pkN s) (pk_len hr) (pk_len hs) w
  have he2 := fun w => eqlB r s hr hs w
  have hg : canB r = true → canB s = true → decide (pkN r = pkN s) = eqB r s := by
    intro h1 h2
    unfold pkN
    rw [if_pos h1, if_pos h2]
    exact apart_bool hr hs h1 h2
  have HG : Hid (canB r = true → canB s = true → decide (pkN r = pkN s) = eqB r s) := hg
  have E1 : Hid (pkE r = if canB r = true then 0 else 1) := rfl
  have E2 : Hid (pkE s = if canB s = true then 0 else 1) := rfl
  clear hg
  go_enter Try.func8, Try.ntmps8
  go_wp2_with fail
  refine HA.mono ?_
  rintro e w1 ⟨rfl, b1⟩
  have K1 := K0.below b1 K0.lt
  have R1 := R0.below b1 R0.lt
  have B1 : Below w.heap.size w w1 := A0.trans (b1.mono (by simp; omega))
  clear K0 R0 A0 b1 HA
  go_wp2_with ((with_reducible show wpList _ _ _ (Oper.mk _ (Op.load 25 _) _ _ _ _ :: _) _ _; refine wpList_ld rfl rfl rfl (run_ldB _ _ _ _ (by assumption) (by first | assumption | exact om0_ok)) ?_; (try simp only [Act.put, List.setIfInBounds_toArray, List.set_cons_zero, List.set_cons_succ, World.size_alloc])))
  refine (P1 _).mono ?_
  rintro e w2 ⟨rfl, b2⟩
  have K2 := K1.below b2 K1.lt
  have R2 := R1.below b2 R1.lt
  have B2 : Below w.heap.size w w2 := B1.trans (b2.mono B1.size)
  have X3 := bk_new w2 (payV (pkN r)) 26
  have K3 := K2.alloc (.cells (payV (pkN r)) 26)
  have R3 := R2.alloc (.cells (payV (pkN r)) 26)
  have B3 := B2.alloc B2.size (.cells (payV (pkN r)) 26)
  clear K1 R1 B1 b2 K2 R2 P1
  go_wp2_with (first | (with_reducible show wpList _ _ _ (Oper.mk _ (Op.alloc 26) _ _ _ _ :: Oper.mk _ (Op.store 26 _ _) _ _ _ _ :: _) _ _; refine wpList_def rfl rfl rfl rfl rfl zero24 (pay_hi48 (by first | exact HL.out | exact HM.out | assumption | (simp only [zer, List.length_replicate]; done))) (pay_same (n := 48) (by first | exact HL.out | exact HM.out | assumption | (simp only [zer, List.length_replicate]; done)) (by first | exact HL.out | exact HM.out | assumption | (simp only [zer, List.length_replicate]; done))) (payV_one _) rfl ?_; (try simp only [Act.put, List.setIfInBounds_toArray, List.set_cons_zero, List.set_cons_succ, World.size_alloc])) | (with_reducible show wpList _ _ _ (Oper.mk _ (Op.load 25 _) _ _ _ _ :: _) _ _; refine wpList_ld rfl rfl rfl (run_ldB _ _ _ _ (by assumption) (by first | assumption | exact om0_ok)) ?_; (try simp only [Act.put, List.setIfInBounds_toArray, List.set_cons_zero, List.set_cons_succ, World.size_alloc])))
  refine (P2 _).mono ?_
  rintro e w4 ⟨rfl, b4⟩
  have X4 := X3.below b4 X3.lt
  have K4 := K3.below b4 K3.lt
  have R4 := R3.below b4 R3.lt
  have B4 : Below w.heap.size w w4 := B3.trans (b4.mono B3.size)
  have Y5 := bk_new w4 (payV (pkN s)) 26
  have X5 := X4.alloc (.cells (payV (pkN s)) 26)
  have K5 := K4.alloc (.cells (payV (pkN s)) 26)
  have R5 := R4.alloc (.cells (payV (pkN s)) 26)
  have B5 := B4.alloc B4.size (.cells (payV (pkN s)) 26)
  clear X3 K3 R3 B3 b4 X4 K4 R4 P2
  cases h1 : canB r with
  | false =>
    rw [h1, if_neg (by decide)] at E1
    rw [E1.out]
    clear h1 HG E1 E2
    generalize pkE s = y at *
    go_wp2_with ((with_reducible show wpList _ _ _ (Oper.mk _ (Op.alloc 26) _ _ _ _ :: Oper.mk _ (Op.store 26 _ _) _ _ _ _ :: _) _ _; refine wpList_def rfl rfl rfl rfl rfl zero24 (pay_hi48 (by first | exact HL.out | exact HM.out | assumption | (simp only [zer, List.length_replicate]; done))) (pay_same (n := 48) (by first | exact HL.out | exact HM.out | assumption | (simp only [zer, List.length_replicate]; done)) (by first | exact HL.out | exact HM.out | assumption | (simp only [zer, List.length_replicate]; done))) (payV_one _) rfl ?_; (try simp only [Act.put, List.setIfInBounds_toArray, List.set_cons_zero, List.set_cons_succ, World.size_alloc])))
    refine wp_region_held_drew (S := (fun w' => Below w.heap.size w w')) (by kernel_rfl) B5.drew (fun hHeld => ?_)
    refine wpAnyH_take (i := 0) (oi := ({ dst := some 21, op := Op.move (Operand.tmp 6), type := 28, pos := _, after := #[], guard := none } : Oper)) (v := ?_) rfl (by kernel_rfl) (by kernel_rfl) (by kernel_rfl) (fun _ _ _ h => h) (Or.inl ⟨by rfl, ?_⟩) hHeld ?_
    rotate_left
    · (intro w hS; go_simp; try with_reducible rfl)
    try simp only [Act.put, List.setIfInBounds_toArray, List.set_cons_zero, List.set_cons_succ]
    refine wpAnyH_take (i := 1) (oi := ({ dst := some 22, op := Op.binOp BinOp.neq 28 (Operand.tmp 21) (Operand.const (Value.int IntKind.i64 0)) 28, type := 4, pos := _, after := #[{ on := 0, ground := Ground.data }], guard := none } : Oper)) (v := ?_) rfl (by kernel_rfl) (by kernel_rfl) (by kernel_rfl) (fun _ _ _ h => h) (Or.inl ⟨by rfl, ?_⟩) hHeld ?_
    rotate_left
    · (intro w hS; go_simp; try with_reducible rfl)
    try simp only [Act.put, List.setIfInBounds_toArray, List.set_cons_zero, List.set_cons_succ]
    refine wpAnyH_take (i := 2) (oi := ({ dst := some 23, op := Op.move (Operand.tmp 22), type := 4, pos := _, after := #[{ on := 1, ground := Ground.data }], guard := none } : Oper)) (v := ?_) rfl (by kernel_rfl) (by kernel_rfl) (by kernel_rfl) (fun _ _ _ h => h) (Or.inl ⟨by rfl, ?_⟩) hHeld ?_
    rotate_left
    · (intro w hS; go_simp; try with_reducible rfl)
    try simp only [Act.put, List.setIfInBounds_toArray, List.set_cons_zero, List.set_cons_succ]
    refine wpAnyH_take (i := 3) (oi := ({ dst := some 24, op := Op.move (Operand.tmp 8), type := 28, pos := _, after := #[{ on := 2, ground := Ground.guard }], guard := some (2, false) } : Oper)) (v := undef) rfl (by kernel_rfl) (by kernel_rfl) (by kernel_rfl) (fun _ _ _ h => h) (Or.inr ⟨by rfl, rfl⟩) hHeld ?_
    try simp only [Act.put, List.setIfInBounds_toArray, List.set_cons_zero, List.set_cons_succ]
    refine wpAnyH_take (i := 4) (oi := ({ dst := some 25, op := Op.binOp BinOp.neq 28 (Operand.tmp 24) (Operand.const (Value.int IntKind.i64 0)) 28, type := 4, pos := _, after := #[{ on := 3, ground := Ground.data }, { on := 2, ground := Ground.guard }], guard := some (2, false) } : Oper)) (v := undef) rfl (by kernel_rfl) (by kernel_rfl) (by kernel_rfl) (fun _ _ _ h => h) (Or.inr ⟨by rfl, rfl⟩) hHeld ?_
    try simp only [Act.put, List.setIfInBounds_toArray, List.set_cons_zero, List.set_cons_succ]
    refine wpAnyH_take (i := 5) (oi := ({ dst := some 26, op := Op.pick (Operand.tmp 23) (Operand.const (Value.bool true)) (Operand.tmp 25), type := 4, pos := _, after := #[{ on := 2, ground := Ground.data }, { on := 4, ground := Ground.data }], guard := none } : Oper)) (v := ?_) rfl (by kernel_rfl) (by kernel_rfl) (by kernel_rfl) (fun _ _ _ h => h) (Or.inl ⟨by rfl, ?_⟩) hHeld ?_
    rotate_left
    · (intro w hS; go_simp; try with_reducible rfl)
    try simp only [Act.put, List.setIfInBounds_toArray, List.set_cons_zero, List.set_cons_succ]
    refine wpAnyH_take (i := 6) (oi := ({ dst := some 27, op := Op.move (Operand.tmp 26), type := 4, pos := _, after := #[{ on := 5, ground := Ground.data }, { on := 2, ground := Ground.chain }], guard := none } : Oper)) (v := ?_) rfl (by kernel_rfl) (by kernel_rfl) (by kernel_rfl) (fun _ _ _ h => h) (Or.inl ⟨by rfl, ?_⟩) hHeld ?_
    rotate_left
    · (intro w hS; go_simp; try with_reducible rfl)
    try simp only [Act.put, List.setIfInBounds_toArray, List.set_cons_zero, List.set_cons_succ]
    refine wpAnyH_take (i := 7) (oi := ({ dst := some 28, op := Op.load 26 (Operand.tmp 5), type := 26, pos := _, after := #[{ on := 6, ground := Ground.guard }], guard := some (6, false) } : Oper)) (v := undef) rfl (by kernel_rfl) (by kernel_rfl) (by kernel_rfl) (fun _ _ _ h => h) (Or.inr ⟨by rfl, rfl⟩) hHeld ?_
    try simp only [Act.put, List.setIfInBounds_toArray, List.set_cons_zero, List.set_cons_succ]
    refine wpAnyH_take (i := 8) (oi := ({ dst := some 29, op := Op.load 26 (Operand.tmp 7), type := 26, pos := _, after := #[{ on := 6, ground := Ground.guard }], guard := some (6, false) } : Oper)) (v := undef) rfl (by kernel_rfl) (by kernel_rfl) (by kernel_rfl) (fun _ _ _ h => h) (Or.inr ⟨by rfl, rfl⟩) hHeld ?_
    try simp only [Act.put, List.setIfInBounds_toArray, List.set_cons_zero, List.set_cons_succ]
    refine wpAnyH_take (i := 9) (oi := ({ dst := some 30, op := Op.binOp BinOp.eql 26 (Operand.tmp 28) (Operand.tmp 29) 26, type := 4, pos := _, after := #[{ on := 7, ground := Ground.data }, { on := 8, ground := Ground.data }, { on := 6, ground := Ground.guard }], guard := some (6, false) } : Oper)) (v := undef) rfl (by kernel_rfl) (by kernel_rfl) (by kernel_rfl) (fun _ _ _ h => h) (Or.inr ⟨by rfl, rfl⟩) hHeld ?_
    try simp only [Act.put, List.setIfInBounds_toArray, List.set_cons_zero, List.set_cons_succ]
    refine wpAnyH_take (i := 10) (oi := ({ dst := some 31, op := Op.load 25 (Operand.tmp 2), type := 25, pos := _, after := #[{ on := 6, ground := Ground.guard }], guard := some (6, false) } : Oper)) (v := undef) rfl (by kernel_rfl) (by kernel_rfl) (by kernel_rfl) (fun _ _ _ h => h) (Or.inr ⟨by rfl, rfl⟩) hHeld ?_
    try simp only [Act.put, List.setIfInBounds_toArray, List.set_cons_zero, List.set_cons_succ]
    refine wpAnyH_take (i := 11) (oi := ({ dst := some 32, op := Op.load 25 (Operand.tmp 3), type := 25, pos := _, after := #[{ on := 6, ground := Ground.guard }], guard := some (6, false) } : Oper)) (v := undef) rfl (by kernel_rfl) (by kernel_rfl) (by kernel_rfl) (fun _ _ _ h => h) (Or.inr ⟨by rfl, rfl⟩) hHeld ?_
    try simp only [Act.put, List.setIfInBounds_toArray, List.set_cons_zero, List.set_cons_succ]
    refine wpAnyH_take (i := 12) (oi := ({ dst := some 33, op := Op.binOp BinOp.eql 25 (Operand.tmp 31) (Operand.tmp 32) 25, type := 4, pos := _, after := #[{ on := 10, ground := Ground.data }, { on := 11, ground := Ground.data }, { on := 6, ground := Ground.guard }], guard := some (6, false) } : Oper)) (v := undef) rfl (by kernel_rfl) (by kernel_rfl) (by kernel_rfl) (fun _ _ _ h => h) (Or.inr ⟨by rfl, rfl⟩) hHeld ?_
    try simp only [Act.put, List.setIfInBounds_toArray, List.set_cons_zero, List.set_cons_succ]
    refine wpAnyH_take (i := 13) (oi := ({ dst := some 34, op := Op.binOp BinOp.eql 4 (Operand.tmp 30) (Operand.tmp 33) 4, type := 4, pos := _, after := #[{ on := 9, ground := Ground.data }, { on := 12, ground := Ground.data }, { on := 6, ground := Ground.guard }], guard := some (6, false) } : Oper)) (v := undef) rfl (by kernel_rfl) (by kernel_rfl) (by kernel_rfl) (fun _ _ _ h => h) (Or.inr ⟨by rfl, rfl⟩) hHeld ?_
    try simp only [Act.put, List.setIfInBounds_toArray, List.set_cons_zero, List.set_cons_succ]
    refine wpAnyH_take (i := 14) (oi := ({ dst := some 35, op := Op.pick (Operand.tmp 27) (Operand.const (Value.bool true)) (Operand.tmp 34), type := 4, pos := _, after := #[{ on := 6, ground := Ground.data }, { on := 13, ground := Ground.data }], guard := none } : Oper)) (v := ?_) rfl (by kernel_rfl) (by kernel_rfl) (by kernel_rfl) (fun _ _ _ h => h) (Or.inl ⟨by rfl, ?_⟩) hHeld ?_
    rotate_left
    · (intro w hS; go_simp; try with_reducible rfl)
    try simp only [Act.put, List.setIfInBounds_toArray, List.set_cons_zero, List.set_cons_succ]
    refine wpAnyH_take (i := 15) (oi := ({ dst := some 4, op := Op.assign (Operand.tmp 35), type := 4, pos := _, after := #[{ on := 14, ground := Ground.data }, { on := 6, ground := Ground.chain }, { on := 0, ground := Ground.phase }, { on := 1, ground := Ground.phase }, { on := 2, ground := Ground.phase }, { on := 3, ground := Ground.phase }, { on := 4, ground := Ground.phase }, { on := 5, ground := Ground.phase }, { on := 6, ground := Ground.phase }, { on := 7, ground := Ground.phase }, { on := 8, ground := Ground.phase }, { on := 9, ground := Ground.phase }, { on := 10, ground := Ground.phase }, { on := 11, ground := Ground.phase }, { on := 12, ground := Ground.phase }, { on := 13, ground := Ground.phase }, { on := 14, ground := Ground.phase }], guard := none } : Oper)) (v := ?_) rfl (by kernel_rfl) (by kernel_rfl) (by kernel_rfl) (fun _ _ _ h => h) (Or.inl ⟨by rfl, ?_⟩) hHeld ?_
    rotate_left
    · (intro w hS; go_simp; try with_reducible rfl)
    try simp only [Act.put, List.setIfInBounds_toArray, List.set_cons_zero, List.set_cons_succ]
    refine wpAnyH_done (by kernel_rfl) ?_ _
    skip
    go_wp2
    go_ret
    exact ⟨rfl, hHeld⟩
  | true =>
    rw [h1, if_pos rfl] at E1
    rw [E1.out]
    cases h2 : canB s with
    | false =>
      rw [h2, if_neg (by decide)] at E2
      rw [E2.out]
      clear h1 h2 HG E1 E2
      go_wp2_with ((with_reducible show wpList _ _ _ (Oper.mk _ (Op.alloc 26) _ _ _ _ :: Oper.mk _ (Op.store 26 _ _) _ _ _ _ :: _) _ _; refine wpList_def rfl rfl rfl rfl rfl zero24 (pay_hi48 (by first | exact HL.out | exact HM.out | assumption | (simp only [zer, List.length_replicate]; done))) (pay_same (n := 48) (by first | exact HL.out | exact HM.out | assumption | (simp only [zer, List.length_replicate]; done)) (by first | exact HL.out | exact HM.out | assumption | (simp only [zer, List.length_replicate]; done))) (payV_one _) rfl ?_; (try simp only [Act.put, List.setIfInBounds_toArray, List.set_cons_zero, List.set_cons_succ, World.size_alloc])))
      refine wp_region_held_drew (S := (fun w' => Below w.heap.size w w')) (by kernel_rfl) B5.drew (fun hHeld => ?_)
      refine wpAnyH_take (i := 0) (oi := ({ dst := some 21, op := Op.move (Operand.tmp 6), type := 28, pos := _, after := #[], guard := none } : Oper)) (v := ?_) rfl (by kernel_rfl) (by kernel_rfl) (by kernel_rfl) (fun _ _ _ h => h) (Or.inl ⟨by rfl, ?_⟩) hHeld ?_
      rotate_left
      · (intro w hS; go_simp; try with_reducible rfl)
      try simp only [Act.put, List.setIfInBounds_toArray, List.set_cons_zero, List.set_cons_succ]
      refine wpAnyH_take (i := 1) (oi := ({ dst := some 22, op := Op.binOp BinOp.neq 28 (Operand.tmp 21) (Operand.const (Value.int IntKind.i64 0)) 28, type := 4, pos := _, after := #[{ on := 0, ground := Ground.data }], guard := none } : Oper)) (v := ?_) rfl (by kernel_rfl) (by kernel_rfl) (by kernel_rfl) (fun _ _ _ h => h) (Or.inl ⟨by rfl, ?_⟩) hHeld ?_
      rotate_left
      · (intro w hS; go_simp; try with_reducible rfl)
      try simp only [Act.put, List.setIfInBounds_toArray, List.set_cons_zero, List.set_cons_succ]
      refine wpAnyH_take (i := 2) (oi := ({ dst := some 23, op := Op.move (Operand.tmp 22), type := 4, pos := _, after := #[{ on := 1, ground := Ground.data }], guard := none } : Oper)) (v := ?_) rfl (by kernel_rfl) (by kernel_rfl) (by kernel_rfl) (fun _ _ _ h => h) (Or.inl ⟨by rfl, ?_⟩) hHeld ?_
      rotate_left
      · (intro w hS; go_simp; try with_reducible rfl)
      try simp only [Act.put, List.setIfInBounds_toArray, List.set_cons_zero, List.set_cons_succ]
      refine wpAnyH_take (i := 3) (oi := ({ dst := some 24, op := Op.move (Operand.tmp 8), type := 28, pos := _, after := #[{ on := 2, ground := Ground.guard }], guard := some (2, false) } : Oper)) (v := ?_) rfl (by kernel_rfl) (by kernel_rfl) (by kernel_rfl) (fun _ _ _ h => h) (Or.inl ⟨by rfl, ?_⟩) hHeld ?_
      rotate_left
      · (intro w hS; go_simp; try with_reducible rfl)
      try simp only [Act.put, List.setIfInBounds_toArray, List.set_cons_zero, List.set_cons_succ]
      refine wpAnyH_take (i := 4) (oi := ({ dst := some 25, op := Op.binOp BinOp.neq 28 (Operand.tmp 24) (Operand.const (Value.int IntKind.i64 0)) 28, type := 4, pos := _, after := #[{ on := 3, ground := Ground.data }, { on := 2, ground := Ground.guard }], guard := some (2, false) } : Oper)) (v := ?_) rfl (by kernel_rfl) (by kernel_rfl) (by kernel_rfl) (fun _ _ _ h => h) (Or.inl ⟨by rfl, ?_⟩) hHeld ?_
      rotate_left
      · (intro w hS; go_simp; try with_reducible rfl)
      try simp only [Act.put, List.setIfInBounds_toArray, List.set_cons_zero, List.set_cons_succ]
      refine wpAnyH_take (i := 5) (oi := ({ dst := some 26, op := Op.pick (Operand.tmp 23) (Operand.const (Value.bool true)) (Operand.tmp 25), type := 4, pos := _, after := #[{ on := 2, ground := Ground.data }, { on := 4, ground := Ground.data }], guard := none } : Oper)) (v := ?_) rfl (by kernel_rfl) (by kernel_rfl) (by kernel_rfl) (fun _ _ _ h => h) (Or.inl ⟨by rfl, ?_⟩) hHeld ?_
      rotate_left
      · (intro w hS; go_simp; try with_reducible rfl)
      try simp only [Act.put, List.setIfInBounds_toArray, List.set_cons_zero, List.set_cons_succ]
      refine wpAnyH_take (i := 6) (oi := ({ dst := some 27, op := Op.move (Operand.tmp 26), type := 4, pos := _, after := #[{ on := 5, ground := Ground.data }, { on := 2, ground := Ground.chain }], guard := none } : Oper)) (v := ?_) rfl (by kernel_rfl) (by kernel_rfl) (by kernel_rfl) (fun _ _ _ h => h) (Or.inl ⟨by rfl, ?_⟩) hHeld ?_
      rotate_left
      · (intro w hS; go_simp; try with_reducible rfl)
      try simp only [Act.put, List.setIfInBounds_toArray, List.set_cons_zero, List.set_cons_succ]
      refine wpAnyH_take (i := 7) (oi := ({ dst := some 28, op := Op.load 26 (Operand.tmp 5), type := 26, pos := _, after := #[{ on := 6, ground := Ground.guard }], guard := some (6, false) } : Oper)) (v := undef) rfl (by kernel_rfl) (by kernel_rfl) (by kernel_rfl) (fun _ _ _ h => h) (Or.inr ⟨by rfl, rfl⟩) hHeld ?_
      try simp only [Act.put, List.setIfInBounds_toArray, List.set_cons_zero, List.set_cons_succ]
      refine wpAnyH_take (i := 8) (oi := ({ dst := some 29, op := Op.load 26 (Operand.tmp 7), type := 26, pos := _, after := #[{ on := 6, ground := Ground.guard }], guard := some (6, false) } : Oper)) (v := undef) rfl (by kernel_rfl) (by kernel_rfl) (by kernel_rfl) (fun _ _ _ h => h) (Or.inr ⟨by rfl, rfl⟩) hHeld ?_
      try simp only [Act.put, List.setIfInBounds_toArray, List.set_cons_zero, List.set_cons_succ]
      refine wpAnyH_take (i := 9) (oi := ({ dst := some 30, op := Op.binOp BinOp.eql 26 (Operand.tmp 28) (Operand.tmp 29) 26, type := 4, pos := _, after := #[{ on := 7, ground := Ground.data }, { on := 8, ground := Ground.data }, { on := 6, ground := Ground.guard }], guard := some (6, false) } : Oper)) (v := undef) rfl (by kernel_rfl) (by kernel_rfl) (by kernel_rfl) (fun _ _ _ h => h) (Or.inr ⟨by rfl, rfl⟩) hHeld ?_
      try simp only [Act.put, List.setIfInBounds_toArray, List.set_cons_zero, List.set_cons_succ]
      refine wpAnyH_take (i := 10) (oi := ({ dst := some 31, op := Op.load 25 (Operand.tmp 2), type := 25, pos := _, after := #[{ on := 6, ground := Ground.guard }], guard := some (6, false) } : Oper)) (v := undef) rfl (by kernel_rfl) (by kernel_rfl) (by kernel_rfl) (fun _ _ _ h => h) (Or.inr ⟨by rfl, rfl⟩) hHeld ?_
      try simp only [Act.put, List.setIfInBounds_toArray, List.set_cons_zero, List.set_cons_succ]
      refine wpAnyH_take (i := 11) (oi := ({ dst := some 32, op := Op.load 25 (Operand.tmp 3), type := 25, pos := _, after := #[{ on := 6, ground := Ground.guard }], guard := some (6, false) } : Oper)) (v := undef) rfl (by kernel_rfl) (by kernel_rfl) (by kernel_rfl) (fun _ _ _ h => h) (Or.inr ⟨by rfl, rfl⟩) hHeld ?_
      try simp only [Act.put, List.setIfInBounds_toArray, List.set_cons_zero, List.set_cons_succ]
      refine wpAnyH_take (i := 12) (oi := ({ dst := some 33, op := Op.binOp BinOp.eql 25 (Operand.tmp 31) (Operand.tmp 32) 25, type := 4, pos := _, after := #[{ on := 10, ground := Ground.data }, { on := 11, ground := Ground.data }, { on := 6, ground := Ground.guard }], guard := some (6, false) } : Oper)) (v := undef) rfl (by kernel_rfl) (by kernel_rfl) (by kernel_rfl) (fun _ _ _ h => h) (Or.inr ⟨by rfl, rfl⟩) hHeld ?_
      try simp only [Act.put, List.setIfInBounds_toArray, List.set_cons_zero, List.set_cons_succ]
      refine wpAnyH_take (i := 13) (oi := ({ dst := some 34, op := Op.binOp BinOp.eql 4 (Operand.tmp 30) (Operand.tmp 33) 4, type := 4, pos := _, after := #[{ on := 9, ground := Ground.data }, { on := 12, ground := Ground.data }, { on := 6, ground := Ground.guard }], guard := some (6, false) } : Oper)) (v := undef) rfl (by kernel_rfl) (by kernel_rfl) (by kernel_rfl) (fun _ _ _ h => h) (Or.inr ⟨by rfl, rfl⟩) hHeld ?_
      try simp only [Act.put, List.setIfInBounds_toArray, List.set_cons_zero, List.set_cons_succ]
      refine wpAnyH_take (i := 14) (oi := ({ dst := some 35, op := Op.pick (Operand.tmp 27) (Operand.const (Value.bool true)) (Operand.tmp 34), type := 4, pos := _, after := #[{ on := 6, ground := Ground.data }, { on := 13, ground := Ground.data }], guard := none } : Oper)) (v := ?_) rfl (by kernel_rfl) (by kernel_rfl) (by kernel_rfl) (fun _ _ _ h => h) (Or.inl ⟨by rfl, ?_⟩) hHeld ?_
      rotate_left
      · (intro w hS; go_simp; try with_reducible rfl)
      try simp only [Act.put, List.setIfInBounds_toArray, List.set_cons_zero, List.set_cons_succ]
      refine wpAnyH_take (i := 15) (oi := ({ dst := some 4, op := Op.assign (Operand.tmp 35), type := 4, pos := _, after := #[{ on := 14, ground := Ground.data }, { on := 6, ground := Ground.chain }, { on := 0, ground := Ground.phase }, { on := 1, ground := Ground.phase }, { on := 2, ground := Ground.phase }, { on := 3, ground := Ground.phase }, { on := 4, ground := Ground.phase }, { on := 5, ground := Ground.phase }, { on := 6, ground := Ground.phase }, { on := 7, ground := Ground.phase }, { on := 8, ground := Ground.phase }, { on := 9, ground := Ground.phase }, { on := 10, ground := Ground.phase }, { on := 11, ground := Ground.phase }, { on := 12, ground := Ground.phase }, { on := 13, ground := Ground.phase }, { on := 14, ground := Ground.phase }], guard := none } : Oper)) (v := ?_) rfl (by kernel_rfl) (by kernel_rfl) (by kernel_rfl) (fun _ _ _ h => h) (Or.inl ⟨by rfl, ?_⟩) hHeld ?_
      rotate_left
      · (intro w hS; go_simp; try with_reducible rfl)
      try simp only [Act.put, List.setIfInBounds_toArray, List.set_cons_zero, List.set_cons_succ]
      refine wpAnyH_done (by kernel_rfl) ?_ _
      skip
      go_wp2
      go_ret
      exact ⟨rfl, hHeld⟩
    | true =>
      rw [h2, if_pos rfl] at E2
      rw [E2.out]
      have hgg := HG.out h1 h2
      simp only [hgg] at he1
      generalize eqB r s = g at *
      clear h1 h2 HG hgg E1 E2
      go_wp2_with ((with_reducible show wpList _ _ _ (Oper.mk _ (Op.alloc 26) _ _ _ _ :: Oper.mk _ (Op.store 26 _ _) _ _ _ _ :: _) _ _; refine wpList_def rfl rfl rfl rfl rfl zero24 (pay_hi48 (by first | exact HL.out | exact HM.out | assumption | (simp only [zer, List.length_replicate]; done))) (pay_same (n := 48) (by first | exact HL.out | exact HM.out | assumption | (simp only [zer, List.length_replicate]; done)) (by first | exact HL.out | exact HM.out | assumption | (simp only [zer, List.length_replicate]; done))) (payV_one _) rfl ?_; (try simp only [Act.put, List.setIfInBounds_toArray, List.set_cons_zero, List.set_cons_succ, World.size_alloc])))
      refine wp_region_held_drew (S := (fun w' => BK w' w2.heap.size (payV (pkN r)) 26 ∧ BK w' w4.heap.size (payV (pkN s)) 26 ∧ BK w' w.heap.size (omV r) 25 ∧ BK w' (w.heap.size + 1) (omV s) 25 ∧ Below w.heap.size w w')) (by kernel_rfl) ⟨X5.drew, Y5.drew, K5.drew, R5.drew, B5.drew⟩ (fun hHeld => ?_)
      refine wpAnyH_take (i := 0) (oi := ({ dst := some 21, op := Op.move (Operand.tmp 6), type := 28, pos := _, after := #[], guard := none } : Oper)) (v := ?_) rfl (by kernel_rfl) (by kernel_rfl) (by kernel_rfl) (fun _ _ _ h => h) (Or.inl ⟨by rfl, ?_⟩) hHeld ?_
      rotate_left
      · (intro w hS; go_simp; try with_reducible rfl)
      try simp only [Act.put, List.setIfInBounds_toArray, List.set_cons_zero, List.set_cons_succ]
      refine wpAnyH_take (i := 1) (oi := ({ dst := some 22, op := Op.binOp BinOp.neq 28 (Operand.tmp 21) (Operand.const (Value.int IntKind.i64 0)) 28, type := 4, pos := _, after := #[{ on := 0, ground := Ground.data }], guard := none } : Oper)) (v := ?_) rfl (by kernel_rfl) (by kernel_rfl) (by kernel_rfl) (fun _ _ _ h => h) (Or.inl ⟨by rfl, ?_⟩) hHeld ?_
      rotate_left
      · (intro w hS; go_simp; try with_reducible rfl)
      try simp only [Act.put, List.setIfInBounds_toArray, List.set_cons_zero, List.set_cons_succ]
      refine wpAnyH_take (i := 2) (oi := ({ dst := some 23, op := Op.move (Operand.tmp 22), type := 4, pos := _, after := #[{ on := 1, ground := Ground.data }], guard := none } : Oper)) (v := ?_) rfl (by kernel_rfl) (by kernel_rfl) (by kernel_rfl) (fun _ _ _ h => h) (Or.inl ⟨by rfl, ?_⟩) hHeld ?_
      rotate_left
      · (intro w hS; go_simp; try with_reducible rfl)
      try simp only [Act.put, List.setIfInBounds_toArray, List.set_cons_zero, List.set_cons_succ]
      refine wpAnyH_take (i := 3) (oi := ({ dst := some 24, op := Op.move (Operand.tmp 8), type := 28, pos := _, after := #[{ on := 2, ground := Ground.guard }], guard := some (2, false) } : Oper)) (v := ?_) rfl (by kernel_rfl) (by kernel_rfl) (by kernel_rfl) (fun _ _ _ h => h) (Or.inl ⟨by rfl, ?_⟩) hHeld ?_
      rotate_left
      · (intro w hS; go_simp; try with_reducible rfl)
      try simp only [Act.put, List.setIfInBounds_toArray, List.set_cons_zero, List.set_cons_succ]
      refine wpAnyH_take (i := 4) (oi := ({ dst := some 25, op := Op.binOp BinOp.neq 28 (Operand.tmp 24) (Operand.const (Value.int IntKind.i64 0)) 28, type := 4, pos := _, after := #[{ on := 3, ground := Ground.data }, { on := 2, ground := Ground.guard }], guard := some (2, false) } : Oper)) (v := ?_) rfl (by kernel_rfl) (by kernel_rfl) (by kernel_rfl) (fun _ _ _ h => h) (Or.inl ⟨by rfl, ?_⟩) hHeld ?_
      rotate_left
      · (intro w hS; go_simp; try with_reducible rfl)
      try simp only [Act.put, List.setIfInBounds_toArray, List.set_cons_zero, List.set_cons_succ]
      refine wpAnyH_take (i := 5) (oi := ({ dst := some 26, op := Op.pick (Operand.tmp 23) (Operand.const (Value.bool true)) (Operand.tmp 25), type := 4, pos := _, after := #[{ on := 2, ground := Ground.data }, { on := 4, ground := Ground.data }], guard := none } : Oper)) (v := ?_) rfl (by kernel_rfl) (by kernel_rfl) (by kernel_rfl) (fun _ _ _ h => h) (Or.inl ⟨by rfl, ?_⟩) hHeld ?_
      rotate_left
      · (intro w hS; go_simp; try with_reducible rfl)
      try simp only [Act.put, List.setIfInBounds_toArray, List.set_cons_zero, List.set_cons_succ]
      refine wpAnyH_take (i := 6) (oi := ({ dst := some 27, op := Op.move (Operand.tmp 26), type := 4, pos := _, after := #[{ on := 5, ground := Ground.data }, { on := 2, ground := Ground.chain }], guard := none } : Oper)) (v := ?_) rfl (by kernel_rfl) (by kernel_rfl) (by kernel_rfl) (fun _ _ _ h => h) (Or.inl ⟨by rfl, ?_⟩) hHeld ?_
      rotate_left
      · (intro w hS; go_simp; try with_reducible rfl)
      try simp only [Act.put, List.setIfInBounds_toArray, List.set_cons_zero, List.set_cons_succ]
      refine wpAnyH_take (i := 7) (oi := ({ dst := some 28, op := Op.load 26 (Operand.tmp 5), type := 26, pos := _, after := #[{ on := 6, ground := Ground.guard }], guard := some (6, false) } : Oper))  rfl (by kernel_rfl) (by kernel_rfl) (by kernel_rfl) (fun _ _ _ h => h) (yields_ld rfl rfl rfl (fun w hS => run_ld24 w _ _ _ hS.1 HL.out)) hHeld ?_
      try simp only [Act.put, List.setIfInBounds_toArray, List.set_cons_zero, List.set_cons_succ]
      refine wpAnyH_take (i := 8) (oi := ({ dst := some 29, op := Op.load 26 (Operand.tmp 7), type := 26, pos := _, after := #[{ on := 6, ground := Ground.guard }], guard := some (6, false) } : Oper))  rfl (by kernel_rfl) (by kernel_rfl) (by kernel_rfl) (fun _ _ _ h => h) (yields_ld rfl rfl rfl (fun w hS => run_ld24 w _ _ _ hS.2.1 HM.out)) hHeld ?_
      try simp only [Act.put, List.setIfInBounds_toArray, List.set_cons_zero, List.set_cons_succ]
      refine wpAnyH_take (i := 9) (oi := ({ dst := some 30, op := Op.binOp BinOp.eql 26 (Operand.tmp 28) (Operand.tmp 29) 26, type := 4, pos := _, after := #[{ on := 7, ground := Ground.data }, { on := 8, ground := Ground.data }, { on := 6, ground := Ground.guard }], guard := some (6, false) } : Oper)) (v := ?_) rfl (by kernel_rfl) (by kernel_rfl) (by kernel_rfl) (fun _ _ _ h => h) (Or.inl ⟨by rfl, ?_⟩) hHeld ?_
      rotate_left
      · (intro w hS; go_simp; try with_reducible rfl)
      try simp only [Act.put, List.setIfInBounds_toArray, List.set_cons_zero, List.set_cons_succ]
      refine wpAnyH_take (i := 10) (oi := ({ dst := some 31, op := Op.load 25 (Operand.tmp 2), type := 25, pos := _, after := #[{ on := 6, ground := Ground.guard }], guard := some (6, false) } : Oper))  rfl (by kernel_rfl) (by kernel_rfl) (by kernel_rfl) (fun _ _ _ h => h) (yields_ld rfl rfl rfl (fun w hS => run_ldB w _ _ _ hS.2.2.1 hr)) hHeld ?_
      try simp only [Act.put, List.setIfInBounds_toArray, List.set_cons_zero, List.set_cons_succ]
      refine wpAnyH_take (i := 11) (oi := ({ dst := some 32, op := Op.load 25 (Operand.tmp 3), type := 25, pos := _, after := #[{ on := 6, ground := Ground.guard }], guard := some (6, false) } : Oper))  rfl (by kernel_rfl) (by kernel_rfl) (by kernel_rfl) (fun _ _ _ h => h) (yields_ld rfl rfl rfl (fun w hS => run_ldB w _ _ _ hS.2.2.2.1 hs)) hHeld ?_
      try simp only [Act.put, List.setIfInBounds_toArray, List.set_cons_zero, List.set_cons_succ]
      refine wpAnyH_take (i := 12) (oi := ({ dst := some 33, op := Op.binOp BinOp.eql 25 (Operand.tmp 31) (Operand.tmp 32) 25, type := 4, pos := _, after := #[{ on := 10, ground := Ground.data }, { on := 11, ground := Ground.data }, { on := 6, ground := Ground.guard }], guard := some (6, false) } : Oper)) (v := ?_) rfl (by kernel_rfl) (by kernel_rfl) (by kernel_rfl) (fun _ _ _ h => h) (Or.inl ⟨by rfl, ?_⟩) hHeld ?_
      rotate_left
      · (intro w hS; go_simp; try with_reducible rfl)
      try simp only [Act.put, List.setIfInBounds_toArray, List.set_cons_zero, List.set_cons_succ]
      refine wpAnyH_take (i := 13) (oi := ({ dst := some 34, op := Op.binOp BinOp.eql 4 (Operand.tmp 30) (Operand.tmp 33) 4, type := 4, pos := _, after := #[{ on := 9, ground := Ground.data }, { on := 12, ground := Ground.data }, { on := 6, ground := Ground.guard }], guard := some (6, false) } : Oper)) (v := ?_) rfl (by kernel_rfl) (by kernel_rfl) (by kernel_rfl) (fun _ _ _ h => h) (Or.inl ⟨by rfl, ?_⟩) hHeld ?_
      rotate_left
      · (intro w hS; go_simp; try with_reducible rfl)
      try simp only [Act.put, List.setIfInBounds_toArray, List.set_cons_zero, List.set_cons_succ]
      refine wpAnyH_take (i := 14) (oi := ({ dst := some 35, op := Op.pick (Operand.tmp 27) (Operand.const (Value.bool true)) (Operand.tmp 34), type := 4, pos := _, after := #[{ on := 6, ground := Ground.data }, { on := 13, ground := Ground.data }], guard := none } : Oper)) (v := ?_) rfl (by kernel_rfl) (by kernel_rfl) (by kernel_rfl) (fun _ _ _ h => h) (Or.inl ⟨by rfl, ?_⟩) hHeld ?_
      rotate_left
      · (intro w hS; go_simp; try with_reducible rfl)
      try simp only [Act.put, List.setIfInBounds_toArray, List.set_cons_zero, List.set_cons_succ]
      refine wpAnyH_take (i := 15) (oi := ({ dst := some 4, op := Op.assign (Operand.tmp 35), type := 4, pos := _, after := #[{ on := 14, ground := Ground.data }, { on := 6, ground := Ground.chain }, { on := 0, ground := Ground.phase }, { on := 1, ground := Ground.phase }, { on := 2, ground := Ground.phase }, { on := 3, ground := Ground.phase }, { on := 4, ground := Ground.phase }, { on := 5, ground := Ground.phase }, { on := 6, ground := Ground.phase }, { on := 7, ground := Ground.phase }, { on := 8, ground := Ground.phase }, { on := 9, ground := Ground.phase }, { on := 10, ground := Ground.phase }, { on := 11, ground := Ground.phase }, { on := 12, ground := Ground.phase }, { on := 13, ground := Ground.phase }, { on := 14, ground := Ground.phase }], guard := none } : Oper)) (v := ?_) rfl (by kernel_rfl) (by kernel_rfl) (by kernel_rfl) (fun _ _ _ h => h) (Or.inl ⟨by rfl, ?_⟩) hHeld ?_
      rotate_left
      · (intro w hS; go_simp; try with_reducible rfl)
      try simp only [Act.put, List.setIfInBounds_toArray, List.set_cons_zero, List.set_cons_succ]
      refine wpAnyH_done (by kernel_rfl) ?_ _
      skip
      go_wp2
      go_ret
      exact ⟨rfl, hHeld.2.2.2.2⟩
end Go.Proofs.Ytpjlcmdidhdbcaa
