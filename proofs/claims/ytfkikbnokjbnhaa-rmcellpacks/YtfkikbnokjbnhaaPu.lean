/- Proved here: what rmcell.Pack and rmcell.Unpack answer. Conditions: as each theorem states them. -/
import Derived.Test.YtfkikbnokjbnhaaLi
namespace Go.Proofs.Ytfkikbnokjbnhaa
set_option linter.unusedSimpArgs false
set_option linter.unusedVariables false
open Go.RowKit

theorem results_cell_tmp_row {P : Program} {fn : Func} {p u : Tmp} {ty : TypeId} (h : fn.results = #[.cell p ty, .tmp u]) (tmps : Array Value) (w : World) (g : Nat) (t : TypeId) (cs : Array Value) (fr : Nat × Nat) (d : TypeDesc) (v : Value)
    (hp : tmps.getD p undef = .pointer (some ⟨g, 0, none⟩)) (hv : tmps.getD u undef = v) (hg : w.heap[g]? = some (.cells cs t fr))
    (hu : P.underlying ty = some d) (hd : (match d with | .struct _ | .array _ _ => true | _ => false) = true) (hi : (P.info? ty).map (·.size) = some cs.size) :
    (results fn tmps).run P w = .ok (.tuple #[.agg cs, v]) w := by
  rw [results_cell_tmp h, hp, hv]
  simp [asAddr, run_loadVar_row w g t ty cs fr d hg hu hd hi]

def pkN (r : Rm) : List UInt8 := if canB r = true then payN r else zer 48
def pkE (r : Rm) : Nat := if canB r = true then 0 else 1
theorem pk_len (r : Rm) : (pkN r).length = 48 := by
  unfold pkN; split
  · exact pay_len r
  · simp [zer]

set_option maxHeartbeats 4000000 in
theorem pack_calls (r : Rm) (h : r.Ok) (w : World) : Calls Try.prog 10 #[.agg (rmV r)] w fun e w' => e = .returned (.tuple #[.agg (payV (pkN r)), .int .i64 (pkE r : Nat)]) ∧ Below w.heap.size w w' := by
  have K0 := (bk_new w (rmV r) 31).alloc (.cells (payV (zer 48)) 26)
  have R0 := bk_new (w.alloc (.cells (rmV r) 31)) (payV (zer 48)) 26
  rw [World.size_alloc] at R0
  have A0 : Below w.heap.size w ((w.alloc (.cells (rmV r) 31)).alloc (.cells (payV (zer 48)) 26)) := ((Below.refl _ w).alloc (Nat.le_refl _) _).alloc (by simp) _
  have HR := fun w => rmright_calls r h w
  have HY := fun w => lay_calls r h w
  have HL : Hid ((payN r).length = 48) := pay_len r
  have HM : Hid ((zer 48).length = 48) := by simp [Hid, zer]
  cases hc : canB r with
  | false =>
    have e1 : pkN r = zer 48 := by unfold pkN; rw [hc]; rfl
    have e2 : pkE r = 1 := by unfold pkE; rw [hc]; rfl
    rw [hc] at HR
    rw [e1, e2]
    clear hc e1 e2 h
    go_enter Try.func10, Try.ntmps10
    go_wp2_with (first | (with_reducible show wpList _ _ _ (Oper.mk _ (Op.alloc 26) _ _ _ _ :: _) _ _; refine wpList_al rfl rfl zero24 ?_; (try simp only [Act.put, List.setIfInBounds_toArray, List.set_cons_zero, List.set_cons_succ, World.size_alloc])) | (with_reducible show wpList _ _ _ (Oper.mk _ (Op.load 31 _) _ _ _ _ :: _) _ _; refine wpList_ld rfl rfl rfl (run_ldA _ _ _ _ (by assumption)) ?_; (try simp only [Act.put, List.setIfInBounds_toArray, List.set_cons_zero, List.set_cons_succ, World.size_alloc])))
    refine (HR _).mono ?_
    rintro e w1 ⟨rfl, b1⟩
    have R1 := R0.below b1 R0.lt
    have B1 : Below w.heap.size w w1 := A0.trans (b1.mono (by simp; omega))
    clear K0 R0 A0 b1
    go_wp2_with (first | (with_reducible show wpList _ _ _ (Oper.mk _ (Op.build 26 _) _ _ _ _ :: _) _ _; refine wpList_bld (vs := []) rfl rfl rfl (run_bz24 _) ?_; (try simp only [Act.put, List.setIfInBounds_toArray, List.set_cons_zero, List.set_cons_succ, World.size_alloc])) | ((with_reducible show wpList _ _ _ (Oper.mk _ (Op.store 26 _ _) _ _ _ _ :: _) _ _; refine wpList_st rfl rfl rfl rfl (by assumption) (by rw [size24, payV_size]; simp only [Option.some.injEq]; first | (have := HL.out; omega) | (have := HM.out; omega)) (by first | (with_reducible rfl) | (rw [payV_size, payV_size]; simp only [zer, List.length_replicate]; first | (have := HL.out; omega) | (have := HM.out; omega))) (payV_one _) ?_); intro w4 K4 b4 but4 z4))
    refine bodyPost_ret (v := .tuple #[.agg (payV (zer 48)), .int .i64 1]) (results_cell_tmp_row Try.results10 _ _ _ _ _ _ _ _ rfl rfl K4 Try.underlying26 rfl (by rw [size24, payV_size, HM.out])) rfl ⟨rfl, ?_⟩
    exact B1.trans (b4 _ (Nat.le_succ _))
  | true =>
    have e1 : pkN r = payN r := by unfold pkN; rw [hc]; rfl
    have e2 : pkE r = 0 := by unfold pkE; rw [hc]; rfl
    rw [hc] at HR
    rw [e1, e2]
    clear hc e1 e2 h
    go_enter Try.func10, Try.ntmps10
    go_wp2_with (first | (with_reducible show wpList _ _ _ (Oper.mk _ (Op.alloc 26) _ _ _ _ :: _) _ _; refine wpList_al rfl rfl zero24 ?_; (try simp only [Act.put, List.setIfInBounds_toArray, List.set_cons_zero, List.set_cons_succ, World.size_alloc])) | (with_reducible show wpList _ _ _ (Oper.mk _ (Op.load 31 _) _ _ _ _ :: _) _ _; refine wpList_ld rfl rfl rfl (run_ldA _ _ _ _ (by assumption)) ?_; (try simp only [Act.put, List.setIfInBounds_toArray, List.set_cons_zero, List.set_cons_succ, World.size_alloc])))
    refine (HR _).mono ?_
    rintro e w1 ⟨rfl, b1⟩
    have K1 := K0.below b1 K0.lt
    have R1 := R0.below b1 R0.lt
    have B1 : Below w.heap.size w w1 := A0.trans (b1.mono (by simp; omega))
    clear K0 R0 A0 b1
    go_wp2_with ((with_reducible show wpList _ _ _ (Oper.mk _ (Op.load 31 _) _ _ _ _ :: _) _ _; refine wpList_ld rfl rfl rfl (run_ldA _ _ _ _ (by assumption)) ?_; (try simp only [Act.put, List.setIfInBounds_toArray, List.set_cons_zero, List.set_cons_succ, World.size_alloc])))
    refine (HY _).mono ?_
    rintro e w2 ⟨rfl, b2⟩
    have R2 := R1.below b2 R1.lt
    have B2 : Below w.heap.size w w2 := B1.trans (b2.mono B1.size)
    clear K1 R1 B1 b2
    go_wp2_with ((with_reducible show wpList _ _ _ (Oper.mk _ (Op.store 26 _ _) _ _ _ _ :: _) _ _; refine wpList_st rfl rfl rfl rfl (by assumption) (by rw [size24, payV_size]; simp only [Option.some.injEq]; first | (have := HL.out; omega) | (have := HM.out; omega)) (by first | (with_reducible rfl) | (rw [payV_size, payV_size]; simp only [zer, List.length_replicate]; first | (have := HL.out; omega) | (have := HM.out; omega))) (payV_one _) ?_); intro w4 K4 b4 but4 z4)
    refine bodyPost_ret (v := .tuple #[.agg (payV (payN r)), .int .i64 0]) (results_cell_tmp_row Try.results10 _ _ _ _ _ _ _ _ rfl rfl K4 Try.underlying26 rfl (by rw [size24, payV_size, HL.out])) rfl ⟨rfl, ?_⟩
    exact B2.trans (b4 _ (Nat.le_succ _))

theorem ret_un {r s : Rm} {a b : Nat} (h : (r, a) = (s, b)) : Ending.returned (.tuple #[.agg (rmV r), .int .i64 (a : Int)]) = .returned (.tuple #[.agg (rmV s), .int .i64 (b : Int)]) := by
  cases h; rfl

set_option maxHeartbeats 4000000 in
theorem unpack_calls (p : List UInt8) (hl : p.length = 48) (w : World) : Calls Try.prog 12 #[.agg (payV p)] w fun e w' => e = .returned (.tuple #[.agg (rmV (unN p).1), .int .i64 ((unN p).2 : Nat)]) ∧ Below w.heap.size w w' := by
  have K0 := (bk_new w (payV p) 26).alloc (.cells (rmV rm0) 31)
  have R0 := bk_new (w.alloc (.cells (payV p) 26)) (rmV rm0) 31
  rw [World.size_alloc] at R0
  have A0 : Below w.heap.size w ((w.alloc (.cells (payV p) 26)).alloc (.cells (rmV rm0) 31)) := ((Below.refl _ w).alloc (Nat.le_refl _) _).alloc (by simp) _
  have HL : Hid (p.length = 48) := hl
  have HS := fun w => sealed_calls p hl w
  have HF := fun w => lift_calls p hl w
  have HU : Hid (unN p = if sealN p ≠ p then (rm0, 4) else if gN p 0 ≠ 1 then (rm0, 12) else if payN (liftN p) ≠ p then (rm0, 5) else if canB (liftN p) = false then (rm0, 11) else (liftN p, 0)) := rfl
  have HY := fun w => lay_calls (liftN p) (lift_ok p) w
  have HR := fun w => rmright_calls (liftN p) (lift_ok p) w
  have HN := fun w => neq24 (payN (liftN p)) p (pay_len _) hl w
  obtain ⟨q, hq⟩ : ∃ q, unN p = q := ⟨_, rfl⟩
  rw [hq] at HU ⊢
  clear hq hl
  go_enter Try.func12, Try.ntmps12
  go_wp2_with (first | (with_reducible show wpList _ _ _ (Oper.mk _ (Op.alloc 31) _ _ _ _ :: _) _ _; refine wpList_al rfl rfl zeroA ?_; (try simp only [Act.put, List.setIfInBounds_toArray, List.set_cons_zero, List.set_cons_succ, World.size_alloc])) | (with_reducible show wpList _ _ _ (Oper.mk _ (Op.load 26 _) _ _ _ _ :: _) _ _; refine wpList_ld rfl rfl rfl (run_ld24 _ _ _ _ (by assumption) (by first | exact HL.out | exact HM.out)) ?_; (try simp only [Act.put, List.setIfInBounds_toArray, List.set_cons_zero, List.set_cons_succ, World.size_alloc])))
  refine (HS _).mono ?_
  rintro e w1 ⟨rfl, b1⟩
  have K1 := K0.below b1 K0.lt
  have R1 := R0.below b1 R0.lt
  have B1 : Below w.heap.size w w1 := A0.trans (b1.mono (by simp; omega))
  clear K0 R0 A0 b1
  by_cases h1 : sealN p = p
  · rw [decide_eq_true h1]
    have HU1 : Hid (q = if gN p 0 ≠ 1 then (rm0, 12) else if payN (liftN p) ≠ p then (rm0, 5) else if canB (liftN p) = false then (rm0, 11) else (liftN p, 0)) := HU.out.trans (if_neg (fun h => h h1))
    clear HU h1
    have c0 := g_cell K1 HL.out 0 (by decide)
    by_cases h2 : gN p 0 = 1
    · rw [h2] at c0
      have HU2 : Hid (q = if payN (liftN p) ≠ p then (rm0, 5) else if canB (liftN p) = false then (rm0, 11) else (liftN p, 0)) := HU1.out.trans (if_neg (fun h => h h2))
      clear HU1 h2
      go_wp2_with ((with_reducible show wpList _ _ _ (Oper.mk _ (Op.load 26 _) _ _ _ _ :: _) _ _; refine wpList_ld rfl rfl rfl (run_ld24 _ _ _ _ (by assumption) (by first | exact HL.out | exact HM.out)) ?_; (try simp only [Act.put, List.setIfInBounds_toArray, List.set_cons_zero, List.set_cons_succ, World.size_alloc])))
      refine (HF _).mono ?_
      rintro e w2 ⟨rfl, b2⟩
      have K2 := K1.below b2 K1.lt
      have R2 := R1.below b2 R1.lt
      have B2 : Below w.heap.size w w2 := B1.trans (b2.mono B1.size)
      have V3 := bk_new w2 (rmV (liftN p)) 31
      have K3 := K2.alloc (.cells (rmV (liftN p)) 31)
      have R3 := R2.alloc (.cells (rmV (liftN p)) 31)
      have B3 := B2.alloc B2.size (.cells (rmV (liftN p)) 31)
      clear K1 R1 B1 b2 K2 R2 B2 c0
      obtain ⟨b3, hb3⟩ : ∃ b, decide (payN (liftN p) = p) = b := ⟨_, rfl⟩
      simp only [hb3] at HN
      have HB3 : Hid (decide (payN (liftN p) = p) = b3) := hb3
      clear hb3
      go_wp2_with ((with_reducible show wpList _ _ _ (Oper.mk _ (Op.alloc 31) _ _ _ _ :: Oper.mk _ (Op.store 31 _ _) _ _ _ _ :: _) _ _; refine wpList_def rfl rfl rfl rfl rfl zeroA (by rw [rmV_size]; exact sizeA) (by first | (with_reducible rfl) | rw [rmV_size, rmV_size]) (rmV_one _) rfl ?_; (try simp only [Act.put, List.setIfInBounds_toArray, List.set_cons_zero, List.set_cons_succ, World.size_alloc])))
      refine wp_region_held_drew (S := (fun w' => BK w' w2.heap.size (rmV (liftN p)) 31 ∧ BK w' w.heap.size (payV p) 26 ∧ BK w' (w.heap.size + 1) (rmV rm0) 31 ∧ Below w.heap.size w w')) (by kernel_rfl) ⟨V3.drew, K3.drew, R3.drew, B3.drew⟩ (fun hHeld => ?_)
      refine wpAnyH_take (i := 0) (oi := ({ dst := some 15, op := Op.load 31 (Operand.tmp 4), type := 31, pos := _, after := #[], guard := none } : Oper))  rfl (by kernel_rfl) (by kernel_rfl) (by kernel_rfl) (fun _ _ _ h => h) (yields_ld rfl rfl rfl (fun w hS => run_ldA w _ _ _ hS.1)) hHeld ?_
      try simp only [Act.put, List.setIfInBounds_toArray, List.set_cons_zero, List.set_cons_succ]
      refine wpAnyH_take (i := 2) (oi := ({ dst := some 17, op := Op.load 26 (Operand.tmp 1), type := 26, pos := _, after := #[], guard := none } : Oper))  rfl (by kernel_rfl) (by kernel_rfl) (by kernel_rfl) (fun _ _ _ h => h) (yields_ld rfl rfl rfl (fun w hS => run_ld24 w _ _ _ hS.2.1 HL.out)) hHeld ?_
      try simp only [Act.put, List.setIfInBounds_toArray, List.set_cons_zero, List.set_cons_succ]
      refine wpAnyH_ready (rs := [1]) (by kernel_rfl) (by simp) ?_
      refine AllReadyH.cons (o := ({ dst := some 16, op := Op.call { callee := Callee.value (Operand.func 25), args := #[Operand.tmp 15], argTypes := #[31] }, type := 26, pos := _, after := #[{ on := 0, ground := Ground.data }], guard := none } : Oper)) rfl (fun K hK => ?_) AllReadyH.nil
      refine step_call (HY _) (enters_of Try.func25 (by kernel_rfl) rfl) _ _ rfl rfl rfl ?_
      rintro e w5 ⟨rfl, b5⟩
      refine ⟨_, rfl, hK.out _ _ ⟨hHeld.1.below b5 hHeld.1.lt, hHeld.2.1.below b5 hHeld.2.1.lt, hHeld.2.2.1.below b5 hHeld.2.2.1.lt, hHeld.2.2.2.trans (b5.mono hHeld.2.2.2.size)⟩ (fun hHeld => ?_)⟩
      clear hK K
      try simp only [Act.put, List.setIfInBounds_toArray, List.set_cons_zero, List.set_cons_succ]
      refine wpAnyH_take (i := 3) (oi := ({ dst := some 18, op := Op.binOp BinOp.neq 26 (Operand.tmp 16) (Operand.tmp 17) 26, type := 4, pos := _, after := #[{ on := 1, ground := Ground.data }, { on := 2, ground := Ground.data }], guard := none } : Oper)) (v := ?_) rfl (by kernel_rfl) (by kernel_rfl) (by kernel_rfl) (fun _ _ _ h => h) (Or.inl ⟨by rfl, ?_⟩) hHeld ?_
      rotate_left
      · (intro w hS; go_simp; try with_reducible rfl)
      try simp only [Act.put, List.setIfInBounds_toArray, List.set_cons_zero, List.set_cons_succ]
      refine wpAnyH_done (by kernel_rfl) ?_ _
      skip
      have hV5 := hHeld
      clear V3 K3 R3 B3
      obtain ⟨V5, _, R5, B5⟩ := hV5
      cases b3
      · have HQ : Hid (q = (rm0, 5)) := HU2.out.trans (if_pos (of_decide_eq_false HB3.out))
        clear HU2 HB3
        go_wp2_with (first | (with_reducible show wpList _ _ _ (Oper.mk _ (Op.build 31 _) _ _ _ _ :: _) _ _; refine wpList_bld (vs := []) rfl rfl rfl (run_bzA _) ?_; (try simp only [Act.put, List.setIfInBounds_toArray, List.set_cons_zero, List.set_cons_succ, World.size_alloc])) | ((with_reducible show wpList _ _ _ (Oper.mk _ (Op.store 31 _ _) _ _ _ _ :: _) _ _; refine wpList_st rfl rfl rfl rfl (by assumption) (by rw [rmV_size]; exact sizeA) (by first | (with_reducible rfl) | rw [rmV_size, rmV_size]) (rmV_one _) ?_); intro w4 K4 b4 but4 z4))
        refine bodyPost_ret (v := .tuple #[.agg (rmV rm0), .int .i64 5]) (results_cell_tmp_row Try.results12 _ _ _ _ _ _ _ _ rfl rfl K4 Try.underlying31 rfl sizeA) rfl ⟨by rw [HQ.out]; rfl, ?_⟩
        exact B5.trans (b4 _ (Nat.le_succ _))
      · have HU3 : Hid (q = if canB (liftN p) = false then (rm0, 11) else (liftN p, 0)) := HU2.out.trans (if_neg (fun h => h (of_decide_eq_true HB3.out)))
        clear HU2 HB3
        go_wp2_with ((with_reducible show wpList _ _ _ (Oper.mk _ (Op.load 31 _) _ _ _ _ :: _) _ _; refine wpList_ld rfl rfl rfl (run_ldA _ _ _ _ (by assumption)) ?_; (try simp only [Act.put, List.setIfInBounds_toArray, List.set_cons_zero, List.set_cons_succ, World.size_alloc])))
        refine (HR _).mono ?_
        rintro e w6 ⟨rfl, b6⟩
        have V6 := V5.below b6 V5.lt
        have R6 := R5.below b6 R5.lt
        have B6 : Below w.heap.size w w6 := B5.trans (b6.mono B5.size)
        clear b6 V5 R5 B5
        cases hc : canB (liftN p) with
        | false =>
          have HQ : Hid (q = (rm0, 11)) := HU3.out.trans (if_pos hc)
          clear HU3 hc
          go_wp2_with (first | (with_reducible show wpList _ _ _ (Oper.mk _ (Op.build 31 _) _ _ _ _ :: _) _ _; refine wpList_bld (vs := []) rfl rfl rfl (run_bzA _) ?_; (try simp only [Act.put, List.setIfInBounds_toArray, List.set_cons_zero, List.set_cons_succ, World.size_alloc])) | ((with_reducible show wpList _ _ _ (Oper.mk _ (Op.store 31 _ _) _ _ _ _ :: _) _ _; refine wpList_st rfl rfl rfl rfl (by assumption) (by rw [rmV_size]; exact sizeA) (by first | (with_reducible rfl) | rw [rmV_size, rmV_size]) (rmV_one _) ?_); intro w4 K4 b4 but4 z4))
          refine bodyPost_ret (v := .tuple #[.agg (rmV rm0), .int .i64 11]) (results_cell_tmp_row Try.results12 _ _ _ _ _ _ _ _ rfl rfl K4 Try.underlying31 rfl sizeA) rfl ⟨by rw [HQ.out]; rfl, ?_⟩
          exact B6.trans (b4 _ (Nat.le_succ _))
        | true =>
          have HQ : Hid (q = (liftN p, 0)) := HU3.out.trans (if_neg (by rw [hc]; decide))
          clear HU3 hc
          go_wp2_with (first | (with_reducible show wpList _ _ _ (Oper.mk _ (Op.load 31 _) _ _ _ _ :: _) _ _; refine wpList_ld rfl rfl rfl (run_ldA _ _ _ _ (by assumption)) ?_; (try simp only [Act.put, List.setIfInBounds_toArray, List.set_cons_zero, List.set_cons_succ, World.size_alloc])) | ((with_reducible show wpList _ _ _ (Oper.mk _ (Op.store 31 _ _) _ _ _ _ :: _) _ _; refine wpList_st rfl rfl rfl rfl (by assumption) (by rw [rmV_size]; exact sizeA) (by first | (with_reducible rfl) | rw [rmV_size, rmV_size]) (rmV_one _) ?_); intro w4 K4 b4 but4 z4))
          refine bodyPost_ret (v := .tuple #[.agg (rmV (liftN p)), .int .i64 0]) (results_cell_tmp_row Try.results12 _ _ _ _ _ _ _ _ rfl rfl K4 Try.underlying31 rfl sizeA) rfl ⟨by rw [HQ.out]; rfl, ?_⟩
          exact B6.trans (b4 _ (Nat.le_succ _))
    · have HU2 : q = (rm0, 12) := HU1.out.trans (if_pos h2)
      have HQ : Hid (q = (rm0, 12)) := HU2
      have hne : ((gN p 0 : Int) != 1) = true := by rw [bne_iff_ne]; omega
      clear HU1 h2 HU2
      generalize gN p 0 = x at *
      go_wp2_with (first | (with_reducible show wpList _ _ _ (Oper.mk _ (Op.build 31 _) _ _ _ _ :: _) _ _; refine wpList_bld (vs := []) rfl rfl rfl (run_bzA _) ?_; (try simp only [Act.put, List.setIfInBounds_toArray, List.set_cons_zero, List.set_cons_succ, World.size_alloc])) | ((with_reducible show wpList _ _ _ (Oper.mk _ (Op.store 31 _ _) _ _ _ _ :: _) _ _; refine wpList_st rfl rfl rfl rfl (by assumption) (by rw [rmV_size]; exact sizeA) (by first | (with_reducible rfl) | rw [rmV_size, rmV_size]) (rmV_one _) ?_); intro w4 K4 b4 but4 z4))
      refine bodyPost_ret (v := .tuple #[.agg (rmV rm0), .int .i64 12]) (results_cell_tmp_row Try.results12 _ _ _ _ _ _ _ _ rfl rfl K4 Try.underlying31 rfl sizeA) rfl ⟨by rw [HQ.out]; rfl, ?_⟩
      exact B1.trans (b4 _ (Nat.le_succ _))
  · rw [decide_eq_false h1]
    have HQ : Hid (q = (rm0, 4)) := HU.out.trans (if_pos h1)
    clear HU h1
    go_wp2_with (first | (with_reducible show wpList _ _ _ (Oper.mk _ (Op.build 31 _) _ _ _ _ :: _) _ _; refine wpList_bld (vs := []) rfl rfl rfl (run_bzA _) ?_; (try simp only [Act.put, List.setIfInBounds_toArray, List.set_cons_zero, List.set_cons_succ, World.size_alloc])) | ((with_reducible show wpList _ _ _ (Oper.mk _ (Op.store 31 _ _) _ _ _ _ :: _) _ _; refine wpList_st rfl rfl rfl rfl (by assumption) (by rw [rmV_size]; exact sizeA) (by first | (with_reducible rfl) | rw [rmV_size, rmV_size]) (rmV_one _) ?_); intro w4 K4 b4 but4 z4))
    refine bodyPost_ret (v := .tuple #[.agg (rmV rm0), .int .i64 4]) (results_cell_tmp_row Try.results12 _ _ _ _ _ _ _ _ rfl rfl K4 Try.underlying31 rfl sizeA) rfl ⟨by rw [HQ.out]; rfl, ?_⟩
    exact B1.trans (b4 _ (Nat.le_succ _))
end Go.Proofs.Ytfkikbnokjbnhaa
