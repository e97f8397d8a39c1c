/- Proved here: whether a maintenance cell can be, by the document; and the document's sixteen bytes. Conditions: as each theorem states them. -/
import Derived.Test.YtpjlcmdidhdbcaaRl
namespace Go.Proofs.Ytpjlcmdidhdbcaa
set_option linter.unusedSimpArgs false
set_option linter.unusedVariables false
open Go.RowKit

set_option maxHeartbeats 4000000 in
theorem sixteen_calls (b i c : Nat) (xs : List UInt8) (hx : xs.length = 16) (w : World) (hb : b < w.heap.size) (hc : ∀ j x, xs[j]? = some x → w.cell? ⟨b, i + j, none⟩ = some (.int .u8 (x.toNat : Int))) : Calls Try.prog 25 #[.slice (some ⟨b, i, none⟩) 16 c] w fun e w' => e = .returned (.agg (payV xs)) ∧ Below w.heap.size w w' := by
  have R0 := (bk_new w (payV z16) 23).alloc (.cells (payV z16) 23)
  have V0 := bk_new (w.alloc (.cells (payV z16) 23)) (payV z16) 23
  rw [World.size_alloc] at V0
  have A0 : Below w.heap.size w ((w.alloc (.cells (payV z16) 23)).alloc (.cells (payV z16) 23)) := ((Below.refl _ w).alloc (Nat.le_refl _) _).alloc (by simp) _
  rw [← mix_zero z16 xs] at V0
  have HX : Hid (xs.length = 16) := hx
  clear hx
  go_enter Try.func25, Try.ntmps25
  go_wp2_with (first | (with_reducible show wpList _ _ _ (Oper.mk _ (Op.alloc 23) _ _ _ _ :: Oper.mk _ (Op.store 23 _ _) _ _ _ _ :: _) _ _; refine wpList_def rfl rfl rfl rfl rfl zero16 (pay_hi16 (by first | assumption | exact z16_len | exact ones_len | exact Om.Ok.p (by assumption) | exact Om.Ok.s (by assumption))) (pay_same (n := 16) (by first | assumption | exact z16_len | exact ones_len | exact Om.Ok.p (by assumption) | exact Om.Ok.s (by assumption)) (by first | assumption | exact z16_len | exact ones_len | exact Om.Ok.p (by assumption) | exact Om.Ok.s (by assumption))) (payV_one _) rfl ?_; (try simp only [Act.put, List.setIfInBounds_toArray, List.set_cons_zero, List.set_cons_succ, World.size_alloc])) | (with_reducible show wpList _ _ _ (Oper.mk _ (Op.alloc 23) _ _ _ _ :: _) _ _; refine wpList_al rfl rfl zero16 ?_; (try simp only [Act.put, List.setIfInBounds_toArray, List.set_cons_zero, List.set_cons_succ, World.size_alloc])) | (with_reducible show wpList _ _ _ (Oper.mk _ (Op.build 23 _) _ _ _ _ :: _) _ _; refine wpList_bld (vs := []) rfl rfl rfl (run_bz16 _) ?_; (try simp only [Act.put, List.setIfInBounds_toArray, List.set_cons_zero, List.set_cons_succ, World.size_alloc])))
  go_loopw [6, 4] (fun j u wr => ∃ k : Nat, k ≤ 16 ∧ j = .int .i64 k ∧ BK wr (w.heap.size + 1) (payV (mix z16 xs k)) 23 ∧ BK wr w.heap.size (payV z16) 23 ∧ Below w.heap.size w wr) (fun j _ _ => 16 - (intOf j).toNat)
  case atStart => exact ⟨0, by omega, rfl, V0, R0, A0⟩
  case round =>
    obtain ⟨k, hk, rfl, Vk, Rk, Bk⟩ := hrel
    clear V0 R0 A0
    by_cases hlt : k < 16
    · obtain ⟨y, hy⟩ : ∃ y, xs[k]? = some y := ⟨xs[k]'(by have := HX.out; omega), by rw [List.getElem?_eq_getElem]⟩
      have cs := (Bk.cell (p := ⟨b, i + k, none⟩) hb).trans (hc k y hy)
      have cv := Vk.payCell (show (mix z16 xs k)[k]? = some 0 by rw [mix_get z16 xs k (by rw [z16_len, HX.out]) (by rw [z16_len]; exact hlt), z16, List.getElem?_replicate, if_pos hlt])
      have fz := Vk.frozen k
      have Vn := Vk.set k (.int .u8 (y.toNat : Int))
      rw [payV_set, mix_set z16 xs k (by rw [z16_len, HX.out]) y hy] at Vn
      have Rn := Rk.setOther (p := ⟨w.heap.size + 1, k, none⟩) (show w.heap.size ≠ w.heap.size + 1 by omega) (.int .u8 (y.toNat : Int))
      have Bn := Bk.setCell (p := ⟨w.heap.size + 1, k, none⟩) (show w.heap.size ≤ w.heap.size + 1 by omega) (.int .u8 (y.toNat : Int))
      have HK : Hid (BK _ _ _ _ ∧ BK _ _ _ _ ∧ Below _ _ _) := ⟨Vn, Rn, Bn⟩
      clear Vn Rn Bn Vk Rk Bk hy
      go_wp2
      go_roundw
      case rel => exact ⟨k + 1, by omega, by go_num, HK.out.1, HK.out.2.1, HK.out.2.2⟩
      case measure => simp [intOf]; omega
    · obtain rfl : k = 16 := by omega
      have e : mix z16 xs 16 = xs := by have := mix_all z16 xs (by rw [z16_len, HX.out]); rwa [z16_len] at this
      rw [e] at Vk
      have hx := HX.out
      go_wp2_with (first | (with_reducible show wpList _ _ _ (Oper.mk _ (Op.load 23 _) _ _ _ _ :: _) _ _; refine wpList_ld rfl rfl rfl (run_ld16 _ _ _ _ (by assumption) (by first | assumption | exact z16_len | exact ones_len | exact Om.Ok.p (by assumption) | exact Om.Ok.s (by assumption))) ?_; (try simp only [Act.put, List.setIfInBounds_toArray, List.set_cons_zero, List.set_cons_succ, World.size_alloc])) | ((with_reducible show wpList _ _ _ (Oper.mk _ (Op.store 23 _ _) _ _ _ _ :: _) _ _; refine wpList_st rfl rfl rfl rfl (by assumption) (pay_hi16 (by first | assumption | exact z16_len | exact ones_len | exact Om.Ok.p (by assumption) | exact Om.Ok.s (by assumption))) (pay_same (n := 16) (by first | assumption | exact z16_len | exact ones_len | exact Om.Ok.p (by assumption) | exact Om.Ok.s (by assumption)) (by first | assumption | exact z16_len | exact ones_len | exact Om.Ok.p (by assumption) | exact Om.Ok.s (by assumption))) (payV_one _) ?_); intro w8 K8 b8 but8 z8))
      refine bodyPost_ret (v := .agg (payV xs)) (results_cell_row Try.results25 _ _ _ _ _ _ _ rfl K8 Try.underlying23 rfl (pay_hi16 hx)) rfl ⟨rfl, ?_⟩
      exact Bk.trans (b8 _ (Nat.le_refl _))

set_option maxRecDepth 100000 in
set_option maxHeartbeats 8000000 in
theorem refright_calls (o : Om) (hok : o.Ok) (w : World) : Calls Try.prog 22 #[.agg (omV o)] w fun e w' => e = .returned (.bool (canB o)) ∧ Below w.heap.size w w' := by
  have K0 := (bk_new w (omV o) 25).alloc (.cells (omV ⟨o.k, 0, false, 0, z16, z16⟩) 25)
  have V0 := bk_new (w.alloc (.cells (omV o) 25)) (omV ⟨o.k, 0, false, 0, z16, z16⟩) 25
  rw [World.size_alloc] at V0
  have A0 : Below w.heap.size w ((w.alloc (.cells (omV o) 25)).alloc (.cells (omV ⟨o.k, 0, false, 0, z16, z16⟩) 25)) := ((Below.refl _ w).alloc (Nat.le_refl _) _).alloc (by simp) _
  have c00 := (bk_new w (omV o) 25).om.1
  have ok1 : (⟨o.k, 0, false, 0, z16, z16⟩ : Om).Ok := ⟨(by show 0 < 4294967296; decide), z16_len, z16_len⟩
  have hq : (hadN o).Ok := had_ok hok
  have he : isK o.k = true → ∀ w, (binOp .eql 25 (.agg (omV (hadN o))) (.agg (omV o))).run Try.prog w = .ok (.bool (canB o)) w := fun _ w => by
    rw [eqlB (hadN o) o hq hok w, eqB_comm]; rfl
  have HN : isK o.k = false → canB o = false := fun h => by
    cases hc : canB o
    · rfl
    · have := can_kind hc; rw [h] at this; cases this
  have HD : Hid (hadN o = if o.k = 0 ∨ o.k = 1 then ⟨o.k, o.d, false, 0, o.p, z16⟩ else if o.k = 4 then ⟨4, 0, false, 0, z16, z16⟩ else if o.k = 8 then ⟨8, 0, o.a, o.t, o.p, o.s⟩ else om0) := rfl
  generalize canB o = cb at *
  generalize hadN o = q at *
  obtain ⟨W, hW⟩ : ∃ W, (w.alloc (.cells (omV o) 25)).alloc (.cells (omV ⟨o.k, 0, false, 0, z16, z16⟩) 25) = W := ⟨_, rfl⟩
  rw [hW] at K0 V0 A0
  have c0 := K0.om.1
  have s1 : ¬ (w.heap.size = w.heap.size + 1) := by omega
  by_cases h01 : o.k = 0 ∨ o.k = 1
  · rw [if_pos h01] at HD
    have he := he (isK_iff.2 (by omega))
    have ok2 : (⟨o.k, o.d, false, 0, z16, z16⟩ : Om).Ok := ⟨(by show 0 < 4294967296; decide), z16_len, z16_len⟩
    have cv := V0.cell 1 (.int .u8 0) (by simp [omV])
    have fz := V0.frozen 1
    have V1 := V0.set 1 (.int .u8 (o.d.toNat : Int))
    rw [omV_d] at V1
    obtain rfl := HD.out
    clear HD HN
    have HKK : Hid (o.k = 0 ∨ o.k = 1) := h01
    clear h01
    obtain ⟨kk, hkk⟩ : ∃ kk, o.k = kk := ⟨_, rfl⟩
    rw [hkk] at HKK
    rw [hkk] at ok1 ok2 hq he V1 V0 c0 c00 hW
    go_enter Try.func22, Try.ntmps22
    rcases HKK.out with h01 | h01
    all_goals
      subst h01
      clear HKK
      go_wp2_with (first | (with_reducible show wpList _ _ _ (Oper.mk _ (Op.build 25 _) _ _ _ _ :: _) _ _; refine wpList_bld (vs := [(0, .int .i64 _)]) rfl rfl rfl (run_bldKindB _ _) ?_; (try simp only [Act.put, List.setIfInBounds_toArray, List.set_cons_zero, List.set_cons_succ, World.size_alloc])) | (with_reducible show wpList _ _ _ (Oper.mk _ (Op.alloc 25) _ _ _ _ :: Oper.mk _ (Op.store 25 _ _) _ _ _ _ :: _) _ _; refine wpList_def rfl rfl rfl rfl rfl zeroB (omV_hiB (by first | assumption | exact om0_ok)) (omV_same (by first | assumption | exact om0_ok) (by first | assumption | exact om0_ok)) (omV_one _) rfl ?_; (try simp only [Act.put, List.setIfInBounds_toArray, List.set_cons_zero, List.set_cons_succ, World.size_alloc])))
      refine wp_region_held_drew (S := (fun w' => BK w' w.heap.size (omV o) 25 ∧ Below w.heap.size w w')) (by kernel_rfl) ⟨K0.drew, A0.drew⟩ (fun hHeld => ?_)
      refine wpAnyH_take (i := 0) (oi := ({ dst := some 12, op := Op.fieldAddr 25 (Operand.tmp 1) 1, type := 0, pos := _, after := #[], guard := none } : Oper)) (v := ?_) rfl (by kernel_rfl) (by kernel_rfl) (by kernel_rfl) (fun _ _ _ h => h) (Or.inl ⟨by rfl, ?_⟩) hHeld ?_
      rotate_left
      · (intro w hS; go_simp; try with_reducible rfl)
      try simp only [Act.put, List.setIfInBounds_toArray, List.set_cons_zero, List.set_cons_succ]
      refine wpAnyH_take (i := 1) (oi := ({ dst := some 13, op := Op.load 5 (Operand.tmp 12), type := 5, pos := _, after := #[{ on := 0, ground := Ground.data }], guard := none } : Oper)) (v := ?_) rfl (by kernel_rfl) (by kernel_rfl) (by kernel_rfl) (fun _ _ _ h => h) (Or.inl ⟨by rfl, ?_⟩) hHeld ?_
      rotate_left
      · (intro w hS; obtain ⟨d0, d1, d2, d3⟩ := hS.1.om; go_simp; try with_reducible rfl)
      try simp only [Act.put, List.setIfInBounds_toArray, List.set_cons_zero, List.set_cons_succ]
      refine wpAnyH_take (i := 2) (oi := ({ dst := some 14, op := Op.fieldAddr 25 (Operand.tmp 1) 4, type := 0, pos := _, after := #[{ on := 5, ground := Ground.gcOnly Departure.lateStores }], guard := none } : Oper)) (v := ?_) rfl (by kernel_rfl) (by kernel_rfl) (by kernel_rfl) (fun _ _ _ h => h) (Or.inl ⟨by rfl, ?_⟩) hHeld ?_
      rotate_left
      · (intro w hS; go_simp; try with_reducible rfl)
      try simp only [Act.put, List.setIfInBounds_toArray, List.set_cons_zero, List.set_cons_succ]
      refine wpAnyH_take (i := 3) (oi := ({ dst := some 15, op := Op.load 23 (Operand.tmp 14), type := 23, pos := _, after := #[{ on := 2, ground := Ground.data }, { on := 5, ground := Ground.gcOnly Departure.lateStores }], guard := none } : Oper))  rfl (by kernel_rfl) (by kernel_rfl) (by kernel_rfl) (fun _ _ _ h => h) (yields_ld rfl rfl rfl (fun w hS => run_ldPl w _ _ _ hS.1 hok)) hHeld ?_
      try simp only [Act.put, List.setIfInBounds_toArray, List.set_cons_zero, List.set_cons_succ]
      refine wpAnyH_take (i := 4) (oi := ({ dst := some 16, op := Op.fieldAddr 25 (Operand.tmp 3) 1, type := 0, pos := _, after := #[{ on := 0, ground := Ground.phase }, { on := 1, ground := Ground.phase }, { on := 2, ground := Ground.textOnly Departure.lateStores }, { on := 3, ground := Ground.textOnly Departure.lateStores }], guard := none } : Oper)) (v := ?_) rfl (by kernel_rfl) (by kernel_rfl) (by kernel_rfl) (fun _ _ _ h => h) (Or.inl ⟨by rfl, ?_⟩) hHeld ?_
      rotate_left
      · (intro w hS; go_simp; try with_reducible rfl)
      try simp only [Act.put, List.setIfInBounds_toArray, List.set_cons_zero, List.set_cons_succ]
      refine wpAnyH_ready (rs := [5]) (by kernel_rfl) (by simp) ?_
      refine AllReadyH.cons (o := ({ dst := none, op := Op.store 5 (Operand.tmp 16) (Operand.tmp 13), type := 0, pos := _, after := #[{ on := 4, ground := Ground.data }, { on := 1, ground := Ground.data }, { on := 0, ground := Ground.phase }, { on := 1, ground := Ground.phase }, { on := 2, ground := Ground.textOnly Departure.lateStores }, { on := 3, ground := Ground.textOnly Departure.lateStores }], guard := none } : Oper)) rfl (fun K hK => ?_) AllReadyH.nil
      go_simp
      skip
      refine hK.out _ _ ⟨hHeld.1.setOther (p := ⟨w.heap.size + 1, 1, none⟩) (show w.heap.size ≠ w.heap.size + 1 by omega) _, hHeld.2.setCell (p := ⟨w.heap.size + 1, 1, none⟩) (show w.heap.size ≤ w.heap.size + 1 by omega) _⟩ (fun hHeld => ?_)
      clear hK K
      try simp only [Act.put, List.setIfInBounds_toArray, List.set_cons_zero, List.set_cons_succ]
      refine wpAnyH_take (i := 6) (oi := ({ dst := some 17, op := Op.fieldAddr 25 (Operand.tmp 3) 4, type := 0, pos := _, after := #[{ on := 0, ground := Ground.phase }, { on := 1, ground := Ground.phase }, { on := 2, ground := Ground.phase }, { on := 3, ground := Ground.phase }, { on := 4, ground := Ground.phase }, { on := 5, ground := Ground.phase }], guard := none } : Oper)) (v := ?_) rfl (by kernel_rfl) (by kernel_rfl) (by kernel_rfl) (fun _ _ _ h => h) (Or.inl ⟨by rfl, ?_⟩) hHeld ?_
      rotate_left
      · (intro w hS; go_simp; try with_reducible rfl)
      try simp only [Act.put, List.setIfInBounds_toArray, List.set_cons_zero, List.set_cons_succ]
      refine wpAnyH_ready (rs := [7]) (by kernel_rfl) (by simp) ?_
      refine AllReadyH.cons (o := ({ dst := none, op := Op.store 23 (Operand.tmp 17) (Operand.tmp 15), type := 0, pos := _, after := #[{ on := 6, ground := Ground.data }, { on := 3, ground := Ground.data }, { on := 5, ground := Ground.chain }, { on := 0, ground := Ground.phase }, { on := 1, ground := Ground.phase }, { on := 2, ground := Ground.phase }, { on := 3, ground := Ground.phase }, { on := 4, ground := Ground.phase }, { on := 5, ground := Ground.phase }], guard := none } : Oper)) rfl (fun K hK => ?_) AllReadyH.nil
      refine step_stm (V := omV ⟨_, o.d, false, 0, z16, z16⟩) (by rfl) (by rfl) (by rfl) (by rfl) V1 (om_fit ok2 hok.p) (pay_hi16 hok.p) (payV_one _) ?_
      have V2 := BK.setCells (vals o.p) 4 V1.drew
      rw [omV_setP _ o.p (z16_len.trans hok.p.symm)] at V2
      refine hK.out _ _ ⟨hHeld.1.setCellsOther (by omega) (vals o.p) 4, below_setC (by omega) (vals o.p) 4 hHeld.2⟩ (fun hHeld => ?_)
      clear hK K
      try simp only [Act.put, List.setIfInBounds_toArray, List.set_cons_zero, List.set_cons_succ]
      refine wpAnyH_done (by kernel_rfl) ?_ _
      skip
      have V3 := bk_of V2 hHeld.2 rfl
      obtain ⟨K4, B4⟩ := hHeld
      clear K0 V0 A0 V1 hW cv fz
      go_wp2_with ((with_reducible show wpList _ _ _ (Oper.mk _ (Op.load 25 _) _ _ _ _ :: _) _ _; refine wpList_ld rfl rfl rfl (run_ldB _ _ _ _ (by assumption) (by first | assumption | exact om0_ok)) ?_; (try simp only [Act.put, List.setIfInBounds_toArray, List.set_cons_zero, List.set_cons_succ, World.size_alloc])))
      go_ret
      exact ⟨rfl, B4⟩
  rw [if_neg h01] at HD
  by_cases h4 : o.k = 4
  · rw [if_pos h4] at HD
    have he := he (isK_iff.2 (by omega))
    obtain rfl := HD.out
    rw [h4] at c0 c00 V0 hW
    clear HD HN h01 h4
    go_enter Try.func22, Try.ntmps22
    go_wp2_with (first | (with_reducible show wpList _ _ _ (Oper.mk _ (Op.build 25 _) _ _ _ _ :: _) _ _; refine wpList_bld (vs := [(0, .int .i64 _)]) rfl rfl rfl (run_bldKindB _ _) ?_; (try simp only [Act.put, List.setIfInBounds_toArray, List.set_cons_zero, List.set_cons_succ, World.size_alloc])) | (with_reducible show wpList _ _ _ (Oper.mk _ (Op.alloc 25) _ _ _ _ :: Oper.mk _ (Op.store 25 _ _) _ _ _ _ :: _) _ _; refine wpList_def rfl rfl rfl rfl rfl zeroB (omV_hiB (by first | assumption | exact om0_ok)) (omV_same (by first | assumption | exact om0_ok) (by first | assumption | exact om0_ok)) (omV_one _) rfl ?_; (try simp only [Act.put, List.setIfInBounds_toArray, List.set_cons_zero, List.set_cons_succ, World.size_alloc])) | (with_reducible show wpList _ _ _ (Oper.mk _ (Op.load 25 _) _ _ _ _ :: _) _ _; refine wpList_ld rfl rfl rfl (run_ldB _ _ _ _ (by assumption) (by first | assumption | exact om0_ok)) ?_; (try simp only [Act.put, List.setIfInBounds_toArray, List.set_cons_zero, List.set_cons_succ, World.size_alloc])))
    go_ret
    exact ⟨rfl, A0⟩
  rw [if_neg h4] at HD
  by_cases h8 : o.k = 8
  · rw [if_pos h8] at HD
    have he := he (isK_iff.2 (by omega))
    obtain rfl := HD.out
    rw [h8] at c0 c00 V0 hW ok1
    clear HD HN h01 h4 h8
    have ok3 : (⟨8, 0, o.a, o.t, z16, z16⟩ : Om).Ok := ⟨hok.t, z16_len, z16_len⟩
    have ok4 : (⟨8, 0, o.a, o.t, o.p, z16⟩ : Om).Ok := ⟨hok.t, hok.p, z16_len⟩
    have cv2 := V0.cell 2 (.bool false) (by simp [omV])
    have fz2 := V0.frozen 2
    have cv3 := V0.cell 3 (.int .u32 0) (by simp [omV])
    have fz3 := V0.frozen 3
    have V1 := (V0.set 2 (.bool o.a)).set 3 (.int .u32 (o.t : Int))
    rw [omV_a, omV_t] at V1
    go_enter Try.func22, Try.ntmps22
    go_wp2_with (first | (with_reducible show wpList _ _ _ (Oper.mk _ (Op.build 25 _) _ _ _ _ :: _) _ _; refine wpList_bld (vs := [(0, .int .i64 _)]) rfl rfl rfl (run_bldKindB _ _) ?_; (try simp only [Act.put, List.setIfInBounds_toArray, List.set_cons_zero, List.set_cons_succ, World.size_alloc])) | (with_reducible show wpList _ _ _ (Oper.mk _ (Op.alloc 25) _ _ _ _ :: Oper.mk _ (Op.store 25 _ _) _ _ _ _ :: _) _ _; refine wpList_def rfl rfl rfl rfl rfl zeroB (omV_hiB (by first | assumption | exact om0_ok)) (omV_same (by first | assumption | exact om0_ok) (by first | assumption | exact om0_ok)) (omV_one _) rfl ?_; (try simp only [Act.put, List.setIfInBounds_toArray, List.set_cons_zero, List.set_cons_succ, World.size_alloc])))
    refine wp_region_held_drew (S := (fun w' => BK w' w.heap.size (omV o) 25 ∧ Below w.heap.size w w')) (by kernel_rfl) ⟨K0.drew, A0.drew⟩ (fun hHeld => ?_)
    refine wpAnyH_take (i := 0) (oi := ({ dst := some 22, op := Op.fieldAddr 25 (Operand.tmp 1) 2, type := 0, pos := _, after := #[], guard := none } : Oper)) (v := ?_) rfl (by kernel_rfl) (by kernel_rfl) (by kernel_rfl) (fun _ _ _ h => h) (Or.inl ⟨by rfl, ?_⟩) hHeld ?_
    rotate_left
    · (intro w hS; go_simp; try with_reducible rfl)
    try simp only [Act.put, List.setIfInBounds_toArray, List.set_cons_zero, List.set_cons_succ]
    refine wpAnyH_take (i := 1) (oi := ({ dst := some 23, op := Op.load 4 (Operand.tmp 22), type := 4, pos := _, after := #[{ on := 0, ground := Ground.data }], guard := none } : Oper)) (v := ?_) rfl (by kernel_rfl) (by kernel_rfl) (by kernel_rfl) (fun _ _ _ h => h) (Or.inl ⟨by rfl, ?_⟩) hHeld ?_
    rotate_left
    · (intro w hS; obtain ⟨d0, d1, d2, d3⟩ := hS.1.om; go_simp; try with_reducible rfl)
    try simp only [Act.put, List.setIfInBounds_toArray, List.set_cons_zero, List.set_cons_succ]
    refine wpAnyH_take (i := 2) (oi := ({ dst := some 24, op := Op.fieldAddr 25 (Operand.tmp 1) 3, type := 0, pos := _, after := #[{ on := 9, ground := Ground.gcOnly Departure.lateStores }], guard := none } : Oper)) (v := ?_) rfl (by kernel_rfl) (by kernel_rfl) (by kernel_rfl) (fun _ _ _ h => h) (Or.inl ⟨by rfl, ?_⟩) hHeld ?_
    rotate_left
    · (intro w hS; go_simp; try with_reducible rfl)
    try simp only [Act.put, List.setIfInBounds_toArray, List.set_cons_zero, List.set_cons_succ]
    refine wpAnyH_take (i := 3) (oi := ({ dst := some 25, op := Op.load 22 (Operand.tmp 24), type := 22, pos := _, after := #[{ on := 2, ground := Ground.data }, { on := 9, ground := Ground.gcOnly Departure.lateStores }], guard := none } : Oper)) (v := ?_) rfl (by kernel_rfl) (by kernel_rfl) (by kernel_rfl) (fun _ _ _ h => h) (Or.inl ⟨by rfl, ?_⟩) hHeld ?_
    rotate_left
    · (intro w hS; obtain ⟨d0, d1, d2, d3⟩ := hS.1.om; go_simp; try with_reducible rfl)
    try simp only [Act.put, List.setIfInBounds_toArray, List.set_cons_zero, List.set_cons_succ]
    refine wpAnyH_take (i := 4) (oi := ({ dst := some 26, op := Op.fieldAddr 25 (Operand.tmp 1) 4, type := 0, pos := _, after := #[{ on := 11, ground := Ground.gcOnly Departure.lateStores }], guard := none } : Oper)) (v := ?_) rfl (by kernel_rfl) (by kernel_rfl) (by kernel_rfl) (fun _ _ _ h => h) (Or.inl ⟨by rfl, ?_⟩) hHeld ?_
    rotate_left
    · (intro w hS; go_simp; try with_reducible rfl)
    try simp only [Act.put, List.setIfInBounds_toArray, List.set_cons_zero, List.set_cons_succ]
    refine wpAnyH_take (i := 5) (oi := ({ dst := some 27, op := Op.load 23 (Operand.tmp 26), type := 23, pos := _, after := #[{ on := 4, ground := Ground.data }, { on := 11, ground := Ground.gcOnly Departure.lateStores }], guard := none } : Oper))  rfl (by kernel_rfl) (by kernel_rfl) (by kernel_rfl) (fun _ _ _ h => h) (yields_ld rfl rfl rfl (fun w hS => run_ldPl w _ _ _ hS.1 hok)) hHeld ?_
    try simp only [Act.put, List.setIfInBounds_toArray, List.set_cons_zero, List.set_cons_succ]
    refine wpAnyH_take (i := 6) (oi := ({ dst := some 28, op := Op.fieldAddr 25 (Operand.tmp 1) 5, type := 0, pos := _, after := #[{ on := 13, ground := Ground.gcOnly Departure.lateStores }], guard := none } : Oper)) (v := ?_) rfl (by kernel_rfl) (by kernel_rfl) (by kernel_rfl) (fun _ _ _ h => h) (Or.inl ⟨by rfl, ?_⟩) hHeld ?_
    rotate_left
    · (intro w hS; go_simp; try with_reducible rfl)
    try simp only [Act.put, List.setIfInBounds_toArray, List.set_cons_zero, List.set_cons_succ]
    refine wpAnyH_take (i := 7) (oi := ({ dst := some 29, op := Op.load 23 (Operand.tmp 28), type := 23, pos := _, after := #[{ on := 6, ground := Ground.data }, { on := 13, ground := Ground.gcOnly Departure.lateStores }], guard := none } : Oper))  rfl (by kernel_rfl) (by kernel_rfl) (by kernel_rfl) (fun _ _ _ h => h) (yields_ld rfl rfl rfl (fun w hS => run_ldSo w _ _ _ hS.1 hok)) hHeld ?_
    try simp only [Act.put, List.setIfInBounds_toArray, List.set_cons_zero, List.set_cons_succ]
    refine wpAnyH_take (i := 8) (oi := ({ dst := some 30, op := Op.fieldAddr 25 (Operand.tmp 3) 2, type := 0, pos := _, after := #[{ on := 0, ground := Ground.phase }, { on := 1, ground := Ground.phase }, { on := 2, ground := Ground.textOnly Departure.lateStores }, { on := 3, ground := Ground.textOnly Departure.lateStores }, { on := 4, ground := Ground.textOnly Departure.lateStores }, { on := 5, ground := Ground.textOnly Departure.lateStores }, { on := 6, ground := Ground.textOnly Departure.lateStores }, { on := 7, ground := Ground.textOnly Departure.lateStores }], guard := none } : Oper)) (v := ?_) rfl (by kernel_rfl) (by kernel_rfl) (by kernel_rfl) (fun _ _ _ h => h) (Or.inl ⟨by rfl, ?_⟩) hHeld ?_
    rotate_left
    · (intro w hS; go_simp; try with_reducible rfl)
    try simp only [Act.put, List.setIfInBounds_toArray, List.set_cons_zero, List.set_cons_succ]
    refine wpAnyH_ready (rs := [9]) (by kernel_rfl) (by simp) ?_
    refine AllReadyH.cons (o := ({ dst := none, op := Op.store 4 (Operand.tmp 30) (Operand.tmp 23), type := 0, pos := _, after := #[{ on := 8, ground := Ground.data }, { on := 1, ground := Ground.data }, { on := 0, ground := Ground.phase }, { on := 1, ground := Ground.phase }, { on := 2, ground := Ground.textOnly Departure.lateStores }, { on := 3, ground := Ground.textOnly Departure.lateStores }, { on := 4, ground := Ground.textOnly Departure.lateStores }, { on := 5, ground := Ground.textOnly Departure.lateStores }, { on := 6, ground := Ground.textOnly Departure.lateStores }, { on := 7, ground := Ground.textOnly Departure.lateStores }], guard := none } : Oper)) rfl (fun K hK => ?_) AllReadyH.nil
    go_simp
    skip
    refine hK.out _ _ ⟨hHeld.1.setOther (p := ⟨w.heap.size + 1, 2, none⟩) (show w.heap.size ≠ w.heap.size + 1 by omega) _, hHeld.2.setCell (p := ⟨w.heap.size + 1, 2, none⟩) (show w.heap.size ≤ w.heap.size + 1 by omega) _⟩ (fun hHeld => ?_)
    clear hK K
    try simp only [Act.put, List.setIfInBounds_toArray, List.set_cons_zero, List.set_cons_succ]
    refine wpAnyH_take (i := 10) (oi := ({ dst := some 31, op := Op.fieldAddr 25 (Operand.tmp 3) 3, type := 0, pos := _, after := #[{ on := 0, ground := Ground.phase }, { on := 1, ground := Ground.phase }, { on := 2, ground := Ground.phase }, { on := 3, ground := Ground.phase }, { on := 4, ground := Ground.textOnly Departure.lateStores }, { on := 5, ground := Ground.textOnly Departure.lateStores }, { on := 6, ground := Ground.textOnly Departure.lateStores }, { on := 7, ground := Ground.textOnly Departure.lateStores }, { on := 8, ground := Ground.phase }, { on := 9, ground := Ground.phase }], guard := none } : Oper)) (v := ?_) rfl (by kernel_rfl) (by kernel_rfl) (by kernel_rfl) (fun _ _ _ h => h) (Or.inl ⟨by rfl, ?_⟩) hHeld ?_
    rotate_left
    · (intro w hS; go_simp; try with_reducible rfl)
    try simp only [Act.put, List.setIfInBounds_toArray, List.set_cons_zero, List.set_cons_succ]
    refine wpAnyH_ready (rs := [11]) (by kernel_rfl) (by simp) ?_
    refine AllReadyH.cons (o := ({ dst := none, op := Op.store 22 (Operand.tmp 31) (Operand.tmp 25), type := 0, pos := _, after := #[{ on := 10, ground := Ground.data }, { on := 3, ground := Ground.data }, { on := 9, ground := Ground.chain }, { on := 0, ground := Ground.phase }, { on := 1, ground := Ground.phase }, { on := 2, ground := Ground.phase }, { on := 3, ground := Ground.phase }, { on := 4, ground := Ground.textOnly Departure.lateStores }, { on := 5, ground := Ground.textOnly Departure.lateStores }, { on := 6, ground := Ground.textOnly Departure.lateStores }, { on := 7, ground := Ground.textOnly Departure.lateStores }, { on := 8, ground := Ground.phase }, { on := 9, ground := Ground.phase }], guard := none } : Oper)) rfl (fun K hK => ?_) AllReadyH.nil
    go_simp
    skip
    refine hK.out _ _ ⟨hHeld.1.setOther (p := ⟨w.heap.size + 1, 3, none⟩) (show w.heap.size ≠ w.heap.size + 1 by omega) _, hHeld.2.setCell (p := ⟨w.heap.size + 1, 3, none⟩) (show w.heap.size ≤ w.heap.size + 1 by omega) _⟩ (fun hHeld => ?_)
    clear hK K
    try simp only [Act.put, List.setIfInBounds_toArray, List.set_cons_zero, List.set_cons_succ]
    refine wpAnyH_take (i := 12) (oi := ({ dst := some 32, op := Op.fieldAddr 25 (Operand.tmp 3) 4, type := 0, pos := _, after := #[{ on := 0, ground := Ground.phase }, { on := 1, ground := Ground.phase }, { on := 2, ground := Ground.phase }, { on := 3, ground := Ground.phase }, { on := 4, ground := Ground.phase }, { on := 5, ground := Ground.phase }, { on := 6, ground := Ground.textOnly Departure.lateStores }, { on := 7, ground := Ground.textOnly Departure.lateStores }, { on := 8, ground := Ground.phase }, { on := 9, ground := Ground.phase }, { on := 10, ground := Ground.phase }, { on := 11, ground := Ground.phase }], guard := none } : Oper)) (v := ?_) rfl (by kernel_rfl) (by kernel_rfl) (by kernel_rfl) (fun _ _ _ h => h) (Or.inl ⟨by rfl, ?_⟩) hHeld ?_
    rotate_left
    · (intro w hS; go_simp; try with_reducible rfl)
    try simp only [Act.put, List.setIfInBounds_toArray, List.set_cons_zero, List.set_cons_succ]
    refine wpAnyH_ready (rs := [13]) (by kernel_rfl) (by simp) ?_
    refine AllReadyH.cons (o := ({ dst := none, op := Op.store 23 (Operand.tmp 32) (Operand.tmp 27), type := 0, pos := _, after := #[{ on := 12, ground := Ground.data }, { on := 5, ground := Ground.data }, { on := 11, ground := Ground.chain }, { on := 0, ground := Ground.phase }, { on := 1, ground := Ground.phase }, { on := 2, ground := Ground.phase }, { on := 3, ground := Ground.phase }, { on := 4, ground := Ground.phase }, { on := 5, ground := Ground.phase }, { on := 6, ground := Ground.textOnly Departure.lateStores }, { on := 7, ground := Ground.textOnly Departure.lateStores }, { on := 8, ground := Ground.phase }, { on := 9, ground := Ground.phase }, { on := 10, ground := Ground.phase }, { on := 11, ground := Ground.phase }], guard := none } : Oper)) rfl (fun K hK => ?_) AllReadyH.nil
    have V2 := bk_of V1.drew hHeld.2 rfl; refine step_stm (V := omV ⟨8, 0, o.a, o.t, z16, z16⟩) (by rfl) (by rfl) (by rfl) (by rfl) V2 (om_fit ok3 hok.p) (pay_hi16 hok.p) (payV_one _) ?_
    have V3 := BK.setCells (vals o.p) 4 V2
    rw [omV_setP _ o.p (z16_len.trans hok.p.symm)] at V3
    refine hK.out _ _ ⟨hHeld.1.setCellsOther (by omega) (vals o.p) 4, below_setC (by omega) (vals o.p) 4 hHeld.2⟩ (fun hHeld => ?_)
    clear hK K
    try simp only [Act.put, List.setIfInBounds_toArray, List.set_cons_zero, List.set_cons_succ]
    refine wpAnyH_take (i := 14) (oi := ({ dst := some 33, op := Op.fieldAddr 25 (Operand.tmp 3) 5, type := 0, pos := _, after := #[{ on := 0, ground := Ground.phase }, { on := 1, ground := Ground.phase }, { on := 2, ground := Ground.phase }, { on := 3, ground := Ground.phase }, { on := 4, ground := Ground.phase }, { on := 5, ground := Ground.phase }, { on := 6, ground := Ground.phase }, { on := 7, ground := Ground.phase }, { on := 8, ground := Ground.phase }, { on := 9, ground := Ground.phase }, { on := 10, ground := Ground.phase }, { on := 11, ground := Ground.phase }, { on := 12, ground := Ground.phase }, { on := 13, ground := Ground.phase }], guard := none } : Oper)) (v := ?_) rfl (by kernel_rfl) (by kernel_rfl) (by kernel_rfl) (fun _ _ _ h => h) (Or.inl ⟨by rfl, ?_⟩) hHeld ?_
    rotate_left
    · (intro w hS; go_simp; try with_reducible rfl)
    try simp only [Act.put, List.setIfInBounds_toArray, List.set_cons_zero, List.set_cons_succ]
    refine wpAnyH_ready (rs := [15]) (by kernel_rfl) (by simp) ?_
    refine AllReadyH.cons (o := ({ dst := none, op := Op.store 23 (Operand.tmp 33) (Operand.tmp 29), type := 0, pos := _, after := #[{ on := 14, ground := Ground.data }, { on := 7, ground := Ground.data }, { on := 13, ground := Ground.chain }, { on := 0, ground := Ground.phase }, { on := 1, ground := Ground.phase }, { on := 2, ground := Ground.phase }, { on := 3, ground := Ground.phase }, { on := 4, ground := Ground.phase }, { on := 5, ground := Ground.phase }, { on := 6, ground := Ground.phase }, { on := 7, ground := Ground.phase }, { on := 8, ground := Ground.phase }, { on := 9, ground := Ground.phase }, { on := 10, ground := Ground.phase }, { on := 11, ground := Ground.phase }, { on := 12, ground := Ground.phase }, { on := 13, ground := Ground.phase }], guard := none } : Oper)) rfl (fun K hK => ?_) AllReadyH.nil
    have V4 := bk_of V3 hHeld.2 rfl; refine step_stm (V := omV ⟨8, 0, o.a, o.t, o.p, z16⟩) (by rfl) (by rfl) (by rfl) (by rfl) V4 (om_fit2 ok4 hok.s) (pay_hi16 hok.s) (payV_one _) ?_
    have V5 := BK.setCells (vals o.s) 20 V4
    rw [omV_setS ⟨8, 0, o.a, o.t, o.p, z16⟩ hok.p o.s (z16_len.trans hok.s.symm)] at V5
    refine hK.out _ _ ⟨hHeld.1.setCellsOther (by omega) (vals o.s) 20, below_setC (by omega) (vals o.s) 20 hHeld.2⟩ (fun hHeld => ?_)
    clear hK K
    try simp only [Act.put, List.setIfInBounds_toArray, List.set_cons_zero, List.set_cons_succ]
    refine wpAnyH_done (by kernel_rfl) ?_ _
    skip
    have V6 := bk_of V5 hHeld.2 rfl
    obtain ⟨K4, B4⟩ := hHeld
    clear K0 V0 A0 V1 V2 V3 V4 V5 hW cv2 fz2 cv3 fz3
    go_wp2_with ((with_reducible show wpList _ _ _ (Oper.mk _ (Op.load 25 _) _ _ _ _ :: _) _ _; refine wpList_ld rfl rfl rfl (run_ldB _ _ _ _ (by assumption) (by first | assumption | exact om0_ok)) ?_; (try simp only [Act.put, List.setIfInBounds_toArray, List.set_cons_zero, List.set_cons_succ, World.size_alloc])))
    go_ret
    exact ⟨rfl, B4⟩
  have g0 : (o.k == 0) = false := beq_eq_false_iff_ne.2 (by omega)
  have g1 : (o.k == 1) = false := beq_eq_false_iff_ne.2 (by omega)
  have g4 : (o.k == 4) = false := beq_eq_false_iff_ne.2 h4
  have g8 : (o.k == 8) = false := beq_eq_false_iff_ne.2 h8
  have hc : cb = false := HN (by unfold isK; rw [g0, g1, g4, g8]; rfl)
  subst hc
  clear HD HN h01 h4 h8 he
  generalize o.k = kk at *
  go_enter Try.func22, Try.ntmps22
  go_wp2_with (first | (with_reducible show wpList _ _ _ (Oper.mk _ (Op.build 25 _) _ _ _ _ :: _) _ _; refine wpList_bld (vs := [(0, .int .i64 _)]) rfl rfl rfl (run_bldKindB _ _) ?_; (try simp only [Act.put, List.setIfInBounds_toArray, List.set_cons_zero, List.set_cons_succ, World.size_alloc])) | (with_reducible show wpList _ _ _ (Oper.mk _ (Op.alloc 25) _ _ _ _ :: Oper.mk _ (Op.store 25 _ _) _ _ _ _ :: _) _ _; refine wpList_def rfl rfl rfl rfl rfl zeroB (omV_hiB (by first | assumption | exact om0_ok)) (omV_same (by first | assumption | exact om0_ok) (by first | assumption | exact om0_ok)) (omV_one _) rfl ?_; (try simp only [Act.put, List.setIfInBounds_toArray, List.set_cons_zero, List.set_cons_succ, World.size_alloc])))
  go_ret
  exact ⟨rfl, A0⟩
end Go.Proofs.Ytpjlcmdidhdbcaa
