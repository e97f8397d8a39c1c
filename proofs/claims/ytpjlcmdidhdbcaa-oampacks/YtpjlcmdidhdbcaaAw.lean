/- Proved here: the laws' own awake answers true. Conditions: as each theorem states them. -/
import Derived.Test.YtpjlcmdidhdbcaaPu
namespace Go.Proofs.Ytpjlcmdidhdbcaa
set_option linter.unusedSimpArgs false
set_option linter.unusedVariables false
open Go.RowKit

def oK : Om := ⟨8, 0, true, 7, z16, z16⟩
theorem oK_ok : oK.Ok := ⟨by decide, z16_len, z16_len⟩
theorem oK_can : canB oK = true := can_loop _ _ _ _
theorem run_bldAw (w : World) : (Instr.build 31 #[(0, .int .i64 8), (2, .bool true), (3, .int .u32 7)]).run Try.prog w = .ok (.agg (omV oK)) w := by kernel_rfl
theorem pkK : pkN oK = payN oK ∧ pkE oK = 0 := by unfold pkN pkE; rw [oK_can]; exact ⟨rfl, rfl⟩
theorem g0K : gN (payN oK) 0 = 24 := by
  obtain ⟨x, y, e⟩ := pay_split oK_ok
  rw [e]; rfl

set_option maxHeartbeats 4000000 in
theorem awake_calls (w : World) : Calls Try.prog 9 #[] w fun e w' => e = .returned (.bool true) ∧ Below w.heap.size w w' := by
  have HP := fun w => pack_calls oK oK_ok w
  rw [pkK.1, pkK.2] at HP
  have HU := fun w => unpack_calls (payN oK) (pay_len oK_ok) w
  rw [un_pay oK_ok oK_can] at HU
  have okc : (⟨4, 0, false, 0, z16, z16⟩ : Om).Ok := ⟨(by show 0 < 4294967296; decide), z16_len, z16_len⟩
  have HR := fun w => right_calls ⟨4, 0, false, 0, z16, z16⟩ okc w
  rw [can_check] at HR
  have g0 := g0K
  have HL : Hid ((payN oK).length = 48) := pay_len oK_ok
  have okk := oK_ok
  go_enter Try.func9, Try.ntmps9
  go_wp2_with (with_reducible show wpList _ _ _ (Oper.mk _ (Op.build 31 _) _ _ _ _ :: _) _ _; refine wpList_bld (vs := [(0, .int .i64 8), (2, .bool true), (3, .int .u32 7)]) rfl rfl rfl (run_bldAw _) ?_; (try simp only [Act.put, List.setIfInBounds_toArray, List.set_cons_zero, List.set_cons_succ, World.size_alloc]))
  refine (HP _).mono ?_
  rintro e w1 ⟨rfl, b1⟩
  have P2 := bk_new w1 (payV (payN oK)) 26
  have B2 := b1.alloc b1.size (.cells (payV (payN oK)) 26)
  have s1 := b1.size
  clear b1
  go_wp2_with (first | (with_reducible show wpList _ _ _ (Oper.mk _ (Op.alloc 26) _ _ _ _ :: Oper.mk _ (Op.store 26 _ _) _ _ _ _ :: _) _ _; refine wpList_def rfl rfl rfl rfl rfl zero24 (pay_hi48 (by first | exact HL.out | exact HM.out | assumption | (simp only [zer, List.length_replicate]; done))) (pay_same (n := 48) (by first | exact HL.out | exact HM.out | assumption | (simp only [zer, List.length_replicate]; done)) (by first | exact HL.out | exact HM.out | assumption | (simp only [zer, List.length_replicate]; done))) (payV_one _) rfl ?_; (try simp only [Act.put, List.setIfInBounds_toArray, List.set_cons_zero, List.set_cons_succ, World.size_alloc])) | (with_reducible show wpList _ _ _ (Oper.mk _ (Op.load 26 _) _ _ _ _ :: _) _ _; refine wpList_ld rfl rfl rfl (run_ld24 _ _ _ _ (by assumption) (by first | exact HL.out | exact HM.out | assumption | (simp only [zer, List.length_replicate]; done))) ?_; (try simp only [Act.put, List.setIfInBounds_toArray, List.set_cons_zero, List.set_cons_succ, World.size_alloc])))
  refine (HU _).mono ?_
  rintro e w3 ⟨rfl, b3⟩
  have P3 := P2.below b3 P2.lt
  have B3 : Below w.heap.size w w3 := B2.trans (b3.mono B2.size)
  have V4 := bk_new w3 (omV oK) 31
  have P4 := P3.alloc (.cells (omV oK) 31)
  have B4 := B3.alloc B3.size (.cells (omV oK) 31)
  have c0 := g_cell P4 HL.out 0 (by decide)
  rw [g0] at c0
  obtain ⟨v0, v1, v2, v3⟩ := V4.om
  have e2 : oK.a = true := rfl
  have e3 : oK.t = 7 := rfl
  rw [e2] at v2
  rw [e3] at v3
  clear P2 B2 b3 P3 B3 g0 e2 e3
  go_wp2_with (first | (with_reducible show wpList _ _ _ (Oper.mk _ (Op.alloc 31) _ _ _ _ :: Oper.mk _ (Op.store 31 _ _) _ _ _ _ :: _) _ _; refine wpList_def rfl rfl rfl rfl rfl zeroA (omV_hiA (by first | assumption | exact om0_ok)) (omV_same (by first | assumption | exact om0_ok) (by first | assumption | exact om0_ok)) (omV_one _) rfl ?_; (try simp only [Act.put, List.setIfInBounds_toArray, List.set_cons_zero, List.set_cons_succ, World.size_alloc])) | (with_reducible show wpList _ _ _ (Oper.mk _ (Op.build 31 _) _ _ _ _ :: _) _ _; refine wpList_bld (vs := [(0, .int .i64 _)]) rfl rfl rfl (run_bldKind _ _) ?_; (try simp only [Act.put, List.setIfInBounds_toArray, List.set_cons_zero, List.set_cons_succ, World.size_alloc])))
  refine (HR _).mono ?_
  rintro e w5 ⟨rfl, b5⟩
  go_wp2
  go_ret
  exact ⟨rfl, B4.trans (b5.mono B4.size)⟩
end Go.Proofs.Ytpjlcmdidhdbcaa
