/- Proved here: what oam.Reply, and the document's, answer. Conditions: as each theorem states them. -/
import Derived.Test.YtpjlcmdidhdbcaaHa
import Derived.Test.YtpjlcmdidhdbcaaStp
import Derived.Test.YtpjlcmdidhdbcaaMix
namespace Go.Proofs.Ytpjlcmdidhdbcaa
set_option linter.unusedSimpArgs false
set_option linter.unusedVariables false
open Go.RowKit

theorem results_cell_tmp_row2 {P : Program} {fn : Func} {p u : Tmp} {ty : TypeId} (h : fn.results = #[.cell p ty, .tmp u]) (tmps : Array Value) (w : World) (g : Nat) (t : TypeId) (cs : Array Value) (fr : Nat × Nat) (d : TypeDesc) (v : Value)
    (hp : tmps.getD p undef = .pointer (some ⟨g, 0, none⟩)) (hv : tmps.getD u undef = v) (hg : w.heap[g]? = some (.cells cs t fr))
    (hu : P.underlying ty = some d) (hd : (match d with | .struct _ | .array _ _ => true | _ => false) = true) (hi : (P.info? ty).map (·.size) = some cs.size) :
    (results fn tmps).run P w = .ok (.tuple #[.agg cs, v]) w := by
  rw [results_cell_tmp h, hp, hv]
  simp [asAddr, run_loadVar_row w g t ty cs fr d hg hu hd hi]

theorem mix_ones (k : Nat) (h : k < 16) : (mix z16 ones k)[k]? = some 0 := by
  rw [mix_get z16 ones k (by rw [z16_len, ones_len]) (by rw [z16_len]; exact h), z16, List.getElem?_replicate, if_pos h]
theorem mix_ones_set (k : Nat) (h : k < 16) : (mix z16 ones k).set k 255 = mix z16 ones (k + 1) :=
  mix_set z16 ones k (by rw [z16_len, ones_len]) 255 (by rw [ones, List.getElem?_replicate, if_pos h])
theorem mix_ones_len (k : Nat) (h : k ≤ 16) : (mix z16 ones k).length = 16 := by simp [mix, z16_len, ones_len]; omega
set_option maxHeartbeats 4000000 in
theorem everywhere_calls (w : World) : Calls Try.prog 27 #[] w fun e w' => e = .returned (.agg (payV ones)) ∧ Below w.heap.size w w' := by
  have R0 := (bk_new w (payV z16) 23).alloc (.cells (payV z16) 23)
  have V0 := bk_new (w.alloc (.cells (payV z16) 23)) (payV z16) 23
  rw [World.size_alloc] at V0
  have A0 : Below w.heap.size w ((w.alloc (.cells (payV z16) 23)).alloc (.cells (payV z16) 23)) := ((Below.refl _ w).alloc (Nat.le_refl _) _).alloc (by simp) _
  rw [← mix_zero z16 ones] at V0
  go_enter Try.func27, Try.ntmps27
  go_wp2_with ((with_reducible show wpList _ _ _ (Oper.mk _ (Op.alloc 23) _ _ _ _ :: _) _ _; refine wpList_al rfl rfl zero16 ?_; (try simp only [Act.put, List.setIfInBounds_toArray, List.set_cons_zero, List.set_cons_succ, World.size_alloc])))
  go_loopw [3, 2] (fun i j wr => ∃ k : Nat, k ≤ 16 ∧ i = .int .i64 k ∧ BK wr (w.heap.size + 1) (payV (mix z16 ones k)) 23 ∧ BK wr w.heap.size (payV z16) 23 ∧ Below w.heap.size w wr) (fun i _ _ => 16 - (intOf i).toNat)
  case atStart => exact ⟨0, by omega, rfl, V0, R0, A0⟩
  case round =>
    obtain ⟨k, hk, rfl, Vk, Rk, Bk⟩ := hrel
    clear V0 R0 A0
    by_cases hlt : k < 16
    · have cv := Vk.payCell (mix_ones k hlt)
      have fz := Vk.frozen k
      have Vn := Vk.set k (.int .u8 ((255 : UInt8).toNat : Int))
      rw [payV_set, mix_ones_set k hlt] at Vn
      have Rn := Rk.setOther (p := ⟨w.heap.size + 1, k, none⟩) (show w.heap.size ≠ w.heap.size + 1 by omega) (.int .u8 255)
      have Bn := Bk.setCell (p := ⟨w.heap.size + 1, k, none⟩) (show w.heap.size ≤ w.heap.size + 1 by omega) (.int .u8 255)
      have HK : Hid (BK _ _ _ _ ∧ BK _ _ _ _ ∧ Below _ _ _) := ⟨Vn, Rn, Bn⟩
      clear Vn Rn Bn Vk Rk Bk
      go_wp2
      go_roundw
      case rel => exact ⟨k + 1, by omega, by go_num, HK.out.1, HK.out.2.1, HK.out.2.2⟩
      case measure => simp [intOf]; omega
    · obtain rfl : k = 16 := by omega
      have e : mix z16 ones 16 = ones := by have := mix_all z16 ones (by rw [z16_len, ones_len]); rwa [z16_len] at this
      rw [e] at Vk
      go_wp2_with (first | (with_reducible show wpList _ _ _ (Oper.mk _ (Op.load 23 _) _ _ _ _ :: _) _ _; refine wpList_ld rfl rfl rfl (run_ld16 _ _ _ _ (by assumption) (by first | assumption | exact z16_len | exact ones_len | exact Om.Ok.p (by assumption) | exact Om.Ok.s (by assumption))) ?_; (try simp only [Act.put, List.setIfInBounds_toArray, List.set_cons_zero, List.set_cons_succ, World.size_alloc])) | ((with_reducible show wpList _ _ _ (Oper.mk _ (Op.store 23 _ _) _ _ _ _ :: _) _ _; refine wpList_st rfl rfl rfl rfl (by assumption) (pay_hi16 (by first | assumption | exact z16_len | exact ones_len | exact Om.Ok.p (by assumption) | exact Om.Ok.s (by assumption))) (pay_same (n := 16) (by first | assumption | exact z16_len | exact ones_len | exact Om.Ok.p (by assumption) | exact Om.Ok.s (by assumption)) (by first | assumption | exact z16_len | exact ones_len | exact Om.Ok.p (by assumption) | exact Om.Ok.s (by assumption))) (payV_one _) ?_); intro w8 K8 b8 but8 z8))
      refine bodyPost_ret (v := .agg (payV ones)) (results_cell_row Try.results27 _ _ _ _ _ _ _ rfl K8 Try.underlying23 rfl (pay_hi16 ones_len)) rfl ⟨rfl, ?_⟩
      exact Bk.trans (b8 _ (Nat.le_refl _))
set_option maxHeartbeats 4000000 in
theorem refeverywhere_calls (w : World) : Calls Try.prog 28 #[] w fun e w' => e = .returned (.agg (payV ones)) ∧ Below w.heap.size w w' := by
  have R0 := (bk_new w (payV z16) 23).alloc (.cells (payV z16) 23)
  have V0 := bk_new (w.alloc (.cells (payV z16) 23)) (payV z16) 23
  rw [World.size_alloc] at V0
  have A0 : Below w.heap.size w ((w.alloc (.cells (payV z16) 23)).alloc (.cells (payV z16) 23)) := ((Below.refl _ w).alloc (Nat.le_refl _) _).alloc (by simp) _
  rw [← mix_zero z16 ones] at V0
  go_enter Try.func28, Try.ntmps28
  go_wp2_with (first | (with_reducible show wpList _ _ _ (Oper.mk _ (Op.alloc 23) _ _ _ _ :: Oper.mk _ (Op.store 23 _ _) _ _ _ _ :: _) _ _; refine wpList_def rfl rfl rfl rfl rfl zero16 (pay_hi16 (by first | assumption | exact z16_len | exact ones_len | exact Om.Ok.p (by assumption) | exact Om.Ok.s (by assumption))) (pay_same (n := 16) (by first | assumption | exact z16_len | exact ones_len | exact Om.Ok.p (by assumption) | exact Om.Ok.s (by assumption)) (by first | assumption | exact z16_len | exact ones_len | exact Om.Ok.p (by assumption) | exact Om.Ok.s (by assumption))) (payV_one _) rfl ?_; (try simp only [Act.put, List.setIfInBounds_toArray, List.set_cons_zero, List.set_cons_succ, World.size_alloc])) | (with_reducible show wpList _ _ _ (Oper.mk _ (Op.alloc 23) _ _ _ _ :: _) _ _; refine wpList_al rfl rfl zero16 ?_; (try simp only [Act.put, List.setIfInBounds_toArray, List.set_cons_zero, List.set_cons_succ, World.size_alloc])) | (with_reducible show wpList _ _ _ (Oper.mk _ (Op.build 23 _) _ _ _ _ :: _) _ _; refine wpList_bld (vs := []) rfl rfl rfl (run_bz16 _) ?_; (try simp only [Act.put, List.setIfInBounds_toArray, List.set_cons_zero, List.set_cons_succ, World.size_alloc])))
  go_loopw [4, 2] (fun i j wr => ∃ k : Nat, k ≤ 16 ∧ i = .int .i64 k ∧ BK wr (w.heap.size + 1) (payV (mix z16 ones k)) 23 ∧ BK wr w.heap.size (payV z16) 23 ∧ Below w.heap.size w wr) (fun i _ _ => 16 - (intOf i).toNat)
  case atStart => exact ⟨0, by omega, rfl, V0, R0, A0⟩
  case round =>
    obtain ⟨k, hk, rfl, Vk, Rk, Bk⟩ := hrel
    clear V0 R0 A0
    by_cases hlt : k < 16
    · have cv := Vk.payCell (mix_ones k hlt)
      have fz := Vk.frozen k
      have Vn := Vk.set k (.int .u8 ((255 : UInt8).toNat : Int))
      rw [payV_set, mix_ones_set k hlt] at Vn
      have Rn := Rk.setOther (p := ⟨w.heap.size + 1, k, none⟩) (show w.heap.size ≠ w.heap.size + 1 by omega) (.int .u8 255)
      have Bn := Bk.setCell (p := ⟨w.heap.size + 1, k, none⟩) (show w.heap.size ≤ w.heap.size + 1 by omega) (.int .u8 255)
      have HK : Hid (BK _ _ _ _ ∧ BK _ _ _ _ ∧ Below _ _ _) := ⟨Vn, Rn, Bn⟩
      clear Vn Rn Bn Vk Rk Bk
      go_wp2
      go_roundw
      case rel => exact ⟨k + 1, by omega, by go_num, HK.out.1, HK.out.2.1, HK.out.2.2⟩
      case measure => simp [intOf]; omega
    · obtain rfl : k = 16 := by omega
      have e : mix z16 ones 16 = ones := by have := mix_all z16 ones (by rw [z16_len, ones_len]); rwa [z16_len] at this
      rw [e] at Vk
      go_wp2_with (first | (with_reducible show wpList _ _ _ (Oper.mk _ (Op.load 23 _) _ _ _ _ :: _) _ _; refine wpList_ld rfl rfl rfl (run_ld16 _ _ _ _ (by assumption) (by first | assumption | exact z16_len | exact ones_len | exact Om.Ok.p (by assumption) | exact Om.Ok.s (by assumption))) ?_; (try simp only [Act.put, List.setIfInBounds_toArray, List.set_cons_zero, List.set_cons_succ, World.size_alloc])) | ((with_reducible show wpList _ _ _ (Oper.mk _ (Op.store 23 _ _) _ _ _ _ :: _) _ _; refine wpList_st rfl rfl rfl rfl (by assumption) (pay_hi16 (by first | assumption | exact z16_len | exact ones_len | exact Om.Ok.p (by assumption) | exact Om.Ok.s (by assumption))) (pay_same (n := 16) (by first | assumption | exact z16_len | exact ones_len | exact Om.Ok.p (by assumption) | exact Om.Ok.s (by assumption)) (by first | assumption | exact z16_len | exact ones_len | exact Om.Ok.p (by assumption) | exact Om.Ok.s (by assumption))) (payV_one _) ?_); intro w8 K8 b8 but8 z8))
      refine bodyPost_ret (v := .agg (payV ones)) (results_cell_row Try.results28 _ _ _ _ _ _ _ rfl K8 Try.underlying23 rfl (pay_hi16 ones_len)) rfl ⟨rfl, ?_⟩
      exact Bk.trans (b8 _ (Nat.le_refl _))
end Go.Proofs.Ytpjlcmdidhdbcaa
