/- Proved here: what oam.Pack and oam.Unpack answer. Conditions: as each theorem states them. -/
import Derived.Test.YtpjlcmdidhdbcaaHa
import Derived.Test.YtpjlcmdidhdbcaaLy
import Derived.Test.YtpjlcmdidhdbcaaLi
namespace Go.Proofs.Ytpjlcmdidhdbcaa
set_option linter.unusedSimpArgs false
set_option linter.unusedVariables false
open Go.RowKit

theorem results_cell_tmp_row {P : Program} {fn : Func} {p u : Tmp} {ty : TypeId} (h : fn.results = #[.cell p ty, .tmp u]) (tmps : Array Value) (w : World) (g : Nat) (t : TypeId) (cs : Array Value) (fr : Nat × Nat) (d : TypeDesc) (v : Value)
    (hp : tmps.getD p undef = .pointer (some ⟨g, 0, none⟩)) (hv : tmps.getD u undef = v) (hg : w.heap[g]? = some (.cells cs t fr))
    (hu : P.underlying ty = some d) (hd : (match d with | .struct _ | .array _ _ => true | _ => false) = true) (hi : (P.info? ty).map (·.size) = some cs.size) :
    (results fn tmps).run P w = .ok (.tuple #[.agg cs, v]) w := by
  rw [results_cell_tmp h, hp, hv]
  simp [asAddr, run_loadVar_row w g t ty cs fr d hg hu hd hi]

def pkN (o : Om) : List UInt8 := if canB o = true then payN o else zer 48
def pkE (o : Om) : Nat := if canB o = true then 0 else 1
theorem pk_len {o : Om} (h : o.Ok) : (pkN o).length = 48 := by
  unfold pkN; split
  · exact pay_len h
  · simp [zer]
theorem can_only (k : Int) : canB ⟨k, 0, false, 0, z16, z16⟩ = isK k := by
  rw [Bool.eq_iff_iff]
  constructor
  · intro h; exact can_kind h
  · intro h
    rcases isK_iff.1 h with rfl | rfl | rfl | rfl
    · exact can_one _ _ _ (.inl rfl)
    · exact can_one _ _ _ (.inr rfl)
    · exact can_check
    · exact can_loop _ _ _ _

set_option maxHeartbeats 4000000 in
theorem pack_calls (r : Om) (h : r.Ok) (w : World) : Calls Try.prog 10 #[.agg (omV r)] w fun e w' => e = .returned (.tuple #[.agg (payV (pkN r)), .int .i64 (pkE r : Nat)]) ∧ Below w.heap.size w w' := by
  have K0 := (bk_new w (omV r) 31).alloc (.cells (payV (zer 48)) 26)
  have R0 := bk_new (w.alloc (.cells (omV r) 31)) (payV (zer 48)) 26
  rw [World.size_alloc] at R0
  have A0 : Below w.heap.size w ((w.alloc (.cells (omV r) 31)).alloc (.cells (payV (zer 48)) 26)) := ((Below.refl _ w).alloc (Nat.le_refl _) _).alloc (by simp) _
  have HR := fun w => right_calls r h w
  have HL : Hid ((payN r).length = 48) := pay_len h
  have HM : Hid ((zer 48).length = 48) := by simp [Hid, zer]
  cases hc : canB r with
  | false =>
    have e1 : pkN r = zer 48 := by unfold pkN; rw [hc]; rfl
    have e2 : pkE r = 1 := by unfold pkE; rw [hc]; rfl
    rw [hc] at HR
    rw [e1, e2]
    clear hc e1 e2
    go_enter Try.func10, Try.ntmps10
    go_wp2_with (first | (with_reducible show wpList _ _ _ (Oper.mk _ (Op.alloc 26) _ _ _ _ :: _) _ _; refine wpList_al rfl rfl zero24 ?_; (try simp only [Act.put, List.setIfInBounds_toArray, List.set_cons_zero, List.set_cons_succ, World.size_alloc])) | (with_reducible show wpList _ _ _ (Oper.mk _ (Op.load 31 _) _ _ _ _ :: _) _ _; refine wpList_ld rfl rfl rfl (run_ldA _ _ _ _ (by assumption) (by first | assumption | exact om0_ok)) ?_; (try simp only [Act.put, List.setIfInBounds_toArray, List.set_cons_zero, List.set_cons_succ, World.size_alloc])))
    refine (HR _).mono ?_
    rintro e w1 ⟨rfl, b1⟩
    have R1 := R0.below b1 R0.lt
    have B1 : Below w.heap.size w w1 := A0.trans (b1.mono (by simp; omega))
    clear K0 R0 A0 b1
    go_wp2_with (first | (with_reducible show wpList _ _ _ (Oper.mk _ (Op.build 26 _) _ _ _ _ :: _) _ _; refine wpList_bld (vs := []) rfl rfl rfl (run_bz24 _) ?_; (try simp only [Act.put, List.setIfInBounds_toArray, List.set_cons_zero, List.set_cons_succ, World.size_alloc])) | ((with_reducible show wpList _ _ _ (Oper.mk _ (Op.store 26 _ _) _ _ _ _ :: _) _ _; refine wpList_st rfl rfl rfl rfl (by assumption) (pay_hi48 (by first | exact HL.out | exact HM.out | assumption | (simp only [zer, List.length_replicate]; done))) (pay_same (n := 48) (by first | exact HL.out | exact HM.out | assumption | (simp only [zer, List.length_replicate]; done)) (by first | exact HL.out | exact HM.out | assumption | (simp only [zer, List.length_replicate]; done))) (payV_one _) ?_); intro w4 K4 b4 but4 z4))
    refine bodyPost_ret (v := .tuple #[.agg (payV (zer 48)), .int .i64 1]) (results_cell_tmp_row Try.results10 _ _ _ _ _ _ _ _ rfl rfl K4 Try.underlying26 rfl (pay_hi48 HM.out)) rfl ⟨rfl, ?_⟩
    exact B1.trans (b4 _ (Nat.le_succ _))
  | true =>
    have e1 : pkN r = payN r := by unfold pkN; rw [hc]; rfl
    have e2 : pkE r = 0 := by unfold pkE; rw [hc]; rfl
    rw [hc] at HR
    rw [e1, e2]
    have HY := fun w => lay_calls r h (can_kind hc) w
    clear hc e1 e2
    go_enter Try.func10, Try.ntmps10
    go_wp2_with (first | (with_reducible show wpList _ _ _ (Oper.mk _ (Op.alloc 26) _ _ _ _ :: _) _ _; refine wpList_al rfl rfl zero24 ?_; (try simp only [Act.put, List.setIfInBounds_toArray, List.set_cons_zero, List.set_cons_succ, World.size_alloc])) | (with_reducible show wpList _ _ _ (Oper.mk _ (Op.load 31 _) _ _ _ _ :: _) _ _; refine wpList_ld rfl rfl rfl (run_ldA _ _ _ _ (by assumption) (by first | assumption | exact om0_ok)) ?_; (try simp only [Act.put, List.setIfInBounds_toArray, List.set_cons_zero, List.set_cons_succ, World.size_alloc])))
    refine (HR _).mono ?_
    rintro e w1 ⟨rfl, b1⟩
    have K1 := K0.below b1 K0.lt
    have R1 := R0.below b1 R0.lt
    have B1 : Below w.heap.size w w1 := A0.trans (b1.mono (by simp; omega))
    clear K0 R0 A0 b1
    go_wp2_with ((with_reducible show wpList _ _ _ (Oper.mk _ (Op.load 31 _) _ _ _ _ :: _) _ _; refine wpList_ld rfl rfl rfl (run_ldA _ _ _ _ (by assumption) (by first | assumption | exact om0_ok)) ?_; (try simp only [Act.put, List.setIfInBounds_toArray, List.set_cons_zero, List.set_cons_succ, World.size_alloc])))
    refine (HY _).mono ?_
    rintro e w2 ⟨rfl, b2⟩
    have R2 := R1.below b2 R1.lt
    have B2 : Below w.heap.size w w2 := B1.trans (b2.mono B1.size)
    clear K1 R1 B1 b2
    go_wp2_with ((with_reducible show wpList _ _ _ (Oper.mk _ (Op.store 26 _ _) _ _ _ _ :: _) _ _; refine wpList_st rfl rfl rfl rfl (by assumption) (pay_hi48 (by first | exact HL.out | exact HM.out | assumption | (simp only [zer, List.length_replicate]; done))) (pay_same (n := 48) (by first | exact HL.out | exact HM.out | assumption | (simp only [zer, List.length_replicate]; done)) (by first | exact HL.out | exact HM.out | assumption | (simp only [zer, List.length_replicate]; done))) (payV_one _) ?_); intro w4 K4 b4 but4 z4)
    refine bodyPost_ret (v := .tuple #[.agg (payV (payN r)), .int .i64 0]) (results_cell_tmp_row Try.results10 _ _ _ _ _ _ _ _ rfl rfl K4 Try.underlying26 rfl (pay_hi48 HL.out)) rfl ⟨rfl, ?_⟩
    exact B2.trans (b4 _ (Nat.le_succ _))

theorem ret_un {r s : Om} {a b : Nat} (h : (r, a) = (s, b)) : Ending.returned (.tuple #[.agg (omV r), .int .i64 (a : Int)]) = .returned (.tuple #[.agg (omV s), .int .i64 (b : Int)]) := by
  cases h; rfl

set_option maxHeartbeats 8000000 in
theorem unpack_calls (p : List UInt8) (hl : p.length = 48) (w : World) : Calls Try.prog 12 #[.agg (payV p)] w fun e w' => e = .returned (.tuple #[.agg (omV (unN p).1), .int .i64 ((unN p).2 : Nat)]) ∧ Below w.heap.size w w' := by
  have K0 := (bk_new w (payV p) 26).alloc (.cells (omV om0) 31)
  have R0 := bk_new (w.alloc (.cells (payV p) 26)) (omV om0) 31
  rw [World.size_alloc] at R0
  have A0 : Below w.heap.size w ((w.alloc (.cells (payV p) 26)).alloc (.cells (omV om0) 31)) := ((Below.refl _ w).alloc (Nat.le_refl _) _).alloc (by simp) _
  have HL : Hid (p.length = 48) := hl
  have HS := fun w => sealed_calls p hl w
  have HU : Hid (unN p = if sealN p ≠ p then (om0, 4) else if isK (kdN p) = false then (om0, 12) else if payN (liftN p) ≠ p then (om0, 5) else (liftN p, 0)) := rfl
  have okl := lift_ok hl
  have HN := fun w => neq24 (payN (liftN p)) p (pay_len okl) hl w
  obtain ⟨q, hq⟩ : ∃ q, unN p = q := ⟨_, rfl⟩
  rw [hq] at HU ⊢
  clear hq
  go_enter Try.func12, Try.ntmps12
  go_wp2_with (first | (with_reducible show wpList _ _ _ (Oper.mk _ (Op.alloc 31) _ _ _ _ :: _) _ _; refine wpList_al rfl rfl zeroA ?_; (try simp only [Act.put, List.setIfInBounds_toArray, List.set_cons_zero, List.set_cons_succ, World.size_alloc])) | (with_reducible show wpList _ _ _ (Oper.mk _ (Op.load 26 _) _ _ _ _ :: _) _ _; refine wpList_ld rfl rfl rfl (run_ld24 _ _ _ _ (by assumption) (by first | exact HL.out | exact HM.out | assumption | (simp only [zer, List.length_replicate]; done))) ?_; (try simp only [Act.put, List.setIfInBounds_toArray, List.set_cons_zero, List.set_cons_succ, World.size_alloc])))
  refine (HS _).mono ?_
  rintro e w1 ⟨rfl, b1⟩
  have K1 := K0.below b1 K0.lt
  have R1 := R0.below b1 R0.lt
  have B1 : Below w.heap.size w w1 := A0.trans (b1.mono (by simp; omega))
  clear K0 R0 A0 b1
  by_cases h1 : sealN p = p
  · rw [decide_eq_true h1]
    have HU1 : Hid (q = if isK (kdN p) = false then (om0, 12) else if payN (liftN p) ≠ p then (om0, 5) else (liftN p, 0)) := HU.out.trans (if_neg (fun h => h h1))
    clear HU h1
    have c0 := g_cell K1 hl 0 (by decide)
    have hx : ((gN p 0 : Nat) : Int) ≤ 255 := by have := gN_lt p 0; omega
    obtain ⟨kk, hkk⟩ : ∃ kk, kdN p = kk := ⟨_, rfl⟩
    have hk2 : ((gN p 0 : Nat) : Int) - 16 = kk := hkk
    have ok1 : (⟨kk, 0, false, 0, z16, z16⟩ : Om).Ok := ⟨(by show 0 < 4294967296; decide), z16_len, z16_len⟩
    have HR := fun w => right_calls ⟨kk, 0, false, 0, z16, z16⟩ ok1 w
    simp only [can_only] at HR
    rw [hkk] at HU1
    cases hK : isK kk with
    | true =>
      rw [hK] at HR
      have HU2 : Hid (q = if payN (liftN p) ≠ p then (om0, 5) else (liftN p, 0)) := HU1.out.trans (if_neg (by rw [hK]; decide))
      have HF := fun w => lift_calls p hl kk hkk hK w
      have HY := fun w => lay_calls (liftN p) okl (by rw [lift_kind, hkk]; exact hK) w
      clear HU1 hK hkk hl
      generalize gN p 0 = x at *
      go_wp2_with ((with_reducible show wpList _ _ _ (Oper.mk _ (Op.build 31 _) _ _ _ _ :: _) _ _; refine wpList_bld (vs := [(0, .int .i64 _)]) rfl rfl rfl (run_bldKind _ _) ?_; (try simp only [Act.put, List.setIfInBounds_toArray, List.set_cons_zero, List.set_cons_succ, World.size_alloc])))
      refine (HR _).mono ?_
      rintro e w2 ⟨rfl, b2⟩
      have K2 := K1.below b2 K1.lt
      have R2 := R1.below b2 R1.lt
      have B2 : Below w.heap.size w w2 := B1.trans (b2.mono B1.size)
      clear K1 R1 B1 b2 c0 hx hk2
      go_wp2_with ((with_reducible show wpList _ _ _ (Oper.mk _ (Op.load 26 _) _ _ _ _ :: _) _ _; refine wpList_ld rfl rfl rfl (run_ld24 _ _ _ _ (by assumption) (by first | exact HL.out | exact HM.out | assumption | (simp only [zer, List.length_replicate]; done))) ?_; (try simp only [Act.put, List.setIfInBounds_toArray, List.set_cons_zero, List.set_cons_succ, World.size_alloc])))
      refine (HF _).mono ?_
      rintro e w3 ⟨rfl, b3⟩
      have K3 := K2.below b3 K2.lt
      have R3 := R2.below b3 R2.lt
      have B3 : Below w.heap.size w w3 := B2.trans (b3.mono B2.size)
      have V4 := bk_new w3 (omV (liftN p)) 31
      have K4 := K3.alloc (.cells (omV (liftN p)) 31)
      have R4 := R3.alloc (.cells (omV (liftN p)) 31)
      have B4 := B3.alloc B3.size (.cells (omV (liftN p)) 31)
      clear K2 R2 B2 b3 K3 R3 B3
      obtain ⟨b3, hb3⟩ : ∃ b, decide (payN (liftN p) = p) = b := ⟨_, rfl⟩
      simp only [hb3] at HN
      have HB3 : Hid (decide (payN (liftN p) = p) = b3) := hb3
      clear hb3
      go_wp2_with ((with_reducible show wpList _ _ _ (Oper.mk _ (Op.alloc 31) _ _ _ _ :: Oper.mk _ (Op.store 31 _ _) _ _ _ _ :: _) _ _; refine wpList_def rfl rfl rfl rfl rfl zeroA (omV_hiA (by first | assumption | exact om0_ok)) (omV_same (by first | assumption | exact om0_ok) (by first | assumption | exact om0_ok)) (omV_one _) rfl ?_; (try simp only [Act.put, List.setIfInBounds_toArray, List.set_cons_zero, List.set_cons_succ, World.size_alloc])))
      refine wp_region_held_drew (S := (fun w' => BK w' w3.heap.size (omV (liftN p)) 31 ∧ BK w' w.heap.size (payV p) 26 ∧ BK w' (w.heap.size + 1) (omV om0) 31 ∧ Below w.heap.size w w')) (by kernel_rfl) ⟨V4.drew, K4.drew, R4.drew, B4.drew⟩ (fun hHeld => ?_)
      refine wpAnyH_take (i := 0) (oi := ({ dst := some 22, op := Op.load 31 (Operand.tmp 5), type := 31, pos := _, after := #[], guard := none } : Oper))  rfl (by kernel_rfl) (by kernel_rfl) (by kernel_rfl) (fun _ _ _ h => h) (yields_ld rfl rfl rfl (fun w hS => run_ldA w _ _ _ hS.1 okl)) hHeld ?_
      try simp only [Act.put, List.setIfInBounds_toArray, List.set_cons_zero, List.set_cons_succ]
      refine wpAnyH_take (i := 2) (oi := ({ dst := some 24, op := Op.load 26 (Operand.tmp 1), type := 26, pos := _, after := #[], guard := none } : Oper))  rfl (by kernel_rfl) (by kernel_rfl) (by kernel_rfl) (fun _ _ _ h => h) (yields_ld rfl rfl rfl (fun w hS => run_ld24 w _ _ _ hS.2.1 HL.out)) hHeld ?_
      try simp only [Act.put, List.setIfInBounds_toArray, List.set_cons_zero, List.set_cons_succ]
      refine wpAnyH_ready (rs := [1]) (by kernel_rfl) (by simp) ?_
      refine AllReadyH.cons (o := ({ dst := some 23, op := Op.call { callee := Callee.value (Operand.func 21), args := #[Operand.tmp 22], argTypes := #[31] }, type := 26, pos := _, after := #[{ on := 0, ground := Ground.data }], guard := none } : Oper)) rfl (fun K hK => ?_) AllReadyH.nil
      refine step_call (HY _) (enters_of Try.func21 (by kernel_rfl) rfl) _ _ rfl rfl rfl ?_
      rintro e w5 ⟨rfl, b5⟩
      refine ⟨_, rfl, hK.out _ _ ⟨hHeld.1.below b5 hHeld.1.lt, hHeld.2.1.below b5 hHeld.2.1.lt, hHeld.2.2.1.below b5 hHeld.2.2.1.lt, hHeld.2.2.2.trans (b5.mono hHeld.2.2.2.size)⟩ (fun hHeld => ?_)⟩
      clear hK K
      try simp only [Act.put, List.setIfInBounds_toArray, List.set_cons_zero, List.set_cons_succ]
      refine wpAnyH_take (i := 3) (oi := ({ dst := some 25, op := Op.binOp BinOp.neq 26 (Operand.tmp 23) (Operand.tmp 24) 26, type := 4, pos := _, after := #[{ on := 1, ground := Ground.data }, { on := 2, ground := Ground.data }], guard := none } : Oper)) (v := ?_) rfl (by kernel_rfl) (by kernel_rfl) (by kernel_rfl) (fun _ _ _ h => h) (Or.inl ⟨by rfl, ?_⟩) hHeld ?_
      rotate_left
      · (intro w hS; go_simp; try with_reducible rfl)
      try simp only [Act.put, List.setIfInBounds_toArray, List.set_cons_zero, List.set_cons_succ]
      refine wpAnyH_done (by kernel_rfl) ?_ _
      skip
      have hV5 := hHeld
      clear V4 K4 R4 B4
      obtain ⟨V5, _, R5, B5⟩ := hV5
      cases b3
      · have HQ : Hid (q = (om0, 5)) := HU2.out.trans (if_pos (of_decide_eq_false HB3.out))
        clear HU2 HB3
        go_wp2_with (first | (with_reducible show wpList _ _ _ (Oper.mk _ (Op.build 31 _) _ _ _ _ :: _) _ _; refine wpList_bld (vs := []) rfl rfl rfl (run_bzA _) ?_; (try simp only [Act.put, List.setIfInBounds_toArray, List.set_cons_zero, List.set_cons_succ, World.size_alloc])) | ((with_reducible show wpList _ _ _ (Oper.mk _ (Op.store 31 _ _) _ _ _ _ :: _) _ _; refine wpList_st rfl rfl rfl rfl (by assumption) (omV_hiA (by first | assumption | exact om0_ok)) (omV_same (by first | assumption | exact om0_ok) (by first | assumption | exact om0_ok)) (omV_one _) ?_); intro w4 K4 b4 but4 z4))
        refine bodyPost_ret (v := .tuple #[.agg (omV om0), .int .i64 5]) (results_cell_tmp_row Try.results12 _ _ _ _ _ _ _ _ rfl rfl K4 Try.underlying31 rfl (omV_hiA om0_ok)) rfl ⟨by rw [HQ.out]; rfl, ?_⟩
        exact B5.trans (b4 _ (Nat.le_succ _))
      · have HQ : Hid (q = (liftN p, 0)) := HU2.out.trans (if_neg (fun h => h (of_decide_eq_true HB3.out)))
        clear HU2 HB3
        go_wp2_with (first | (with_reducible show wpList _ _ _ (Oper.mk _ (Op.load 31 _) _ _ _ _ :: _) _ _; refine wpList_ld rfl rfl rfl (run_ldA _ _ _ _ (by assumption) (by first | assumption | exact om0_ok)) ?_; (try simp only [Act.put, List.setIfInBounds_toArray, List.set_cons_zero, List.set_cons_succ, World.size_alloc])) | ((with_reducible show wpList _ _ _ (Oper.mk _ (Op.store 31 _ _) _ _ _ _ :: _) _ _; refine wpList_st rfl rfl rfl rfl (by assumption) (omV_hiA (by first | assumption | exact om0_ok)) (omV_same (by first | assumption | exact om0_ok) (by first | assumption | exact om0_ok)) (omV_one _) ?_); intro w4 K4 b4 but4 z4))
        refine bodyPost_ret (v := .tuple #[.agg (omV (liftN p)), .int .i64 0]) (results_cell_tmp_row Try.results12 _ _ _ _ _ _ _ _ rfl rfl K4 Try.underlying31 rfl (omV_hiA okl)) rfl ⟨by rw [HQ.out]; rfl, ?_⟩
        exact B5.trans (b4 _ (Nat.le_succ _))
    | false =>
      rw [hK] at HR
      have HQ : Hid (q = (om0, 12)) := HU1.out.trans (if_pos hK)
      clear HU1 hK hkk hl
      generalize gN p 0 = x at *
      go_wp2_with ((with_reducible show wpList _ _ _ (Oper.mk _ (Op.build 31 _) _ _ _ _ :: _) _ _; refine wpList_bld (vs := [(0, .int .i64 _)]) rfl rfl rfl (run_bldKind _ _) ?_; (try simp only [Act.put, List.setIfInBounds_toArray, List.set_cons_zero, List.set_cons_succ, World.size_alloc])))
      refine (HR _).mono ?_
      rintro e w2 ⟨rfl, b2⟩
      have R2 := R1.below b2 R1.lt
      have B2 : Below w.heap.size w w2 := B1.trans (b2.mono B1.size)
      clear K1 R1 B1 b2 c0 hx hk2
      go_wp2_with (first | (with_reducible show wpList _ _ _ (Oper.mk _ (Op.build 31 _) _ _ _ _ :: _) _ _; refine wpList_bld (vs := []) rfl rfl rfl (run_bzA _) ?_; (try simp only [Act.put, List.setIfInBounds_toArray, List.set_cons_zero, List.set_cons_succ, World.size_alloc])) | ((with_reducible show wpList _ _ _ (Oper.mk _ (Op.store 31 _ _) _ _ _ _ :: _) _ _; refine wpList_st rfl rfl rfl rfl (by assumption) (omV_hiA (by first | assumption | exact om0_ok)) (omV_same (by first | assumption | exact om0_ok) (by first | assumption | exact om0_ok)) (omV_one _) ?_); intro w4 K4 b4 but4 z4))
      refine bodyPost_ret (v := .tuple #[.agg (omV om0), .int .i64 12]) (results_cell_tmp_row Try.results12 _ _ _ _ _ _ _ _ rfl rfl K4 Try.underlying31 rfl (omV_hiA om0_ok)) rfl ⟨by rw [HQ.out]; rfl, ?_⟩
      exact B2.trans (b4 _ (Nat.le_succ _))
  · rw [decide_eq_false h1]
    have HQ : Hid (q = (om0, 4)) := HU.out.trans (if_pos h1)
    clear HU h1
    go_wp2_with (first | (with_reducible show wpList _ _ _ (Oper.mk _ (Op.build 31 _) _ _ _ _ :: _) _ _; refine wpList_bld (vs := []) rfl rfl rfl (run_bzA _) ?_; (try simp only [Act.put, List.setIfInBounds_toArray, List.set_cons_zero, List.set_cons_succ, World.size_alloc])) | ((with_reducible show wpList _ _ _ (Oper.mk _ (Op.store 31 _ _) _ _ _ _ :: _) _ _; refine wpList_st rfl rfl rfl rfl (by assumption) (omV_hiA (by first | assumption | exact om0_ok)) (omV_same (by first | assumption | exact om0_ok) (by first | assumption | exact om0_ok)) (omV_one _) ?_); intro w4 K4 b4 but4 z4))
    refine bodyPost_ret (v := .tuple #[.agg (omV om0), .int .i64 4]) (results_cell_tmp_row Try.results12 _ _ _ _ _ _ _ _ rfl rfl K4 Try.underlying31 rfl (omV_hiA om0_ok)) rfl ⟨by rw [HQ.out]; rfl, ?_⟩
    exact B1.trans (b4 _ (Nat.le_succ _))
end Go.Proofs.Ytpjlcmdidhdbcaa
