/- Proved here: the laws' own awake answers true. Conditions: as each theorem states them. -/
import Derived.Test.YtfkikbnokjbnhaaPu
import Derived.Test.YtfkikbnokjbnhaaMk
namespace Go.Proofs.Ytfkikbnokjbnhaa
set_option linter.unusedSimpArgs false
set_option linter.unusedVariables false
open Go.RowKit

def rK : Rm := ⟨false, false, true, false, false, 32767, 0, 0, 0, 0⟩
theorem rK_ok : rK.Ok := ⟨by decide, by decide, by decide, by decide, by decide⟩
theorem run_bldK (w : World) : (Instr.build 31 #[(5, .int .u16 32767), (2, .bool true)]).run Try.prog w = .ok (.agg (rmV rK)) w := by kernel_rfl
theorem run_fieldA (r : Rm) (w : World) : (Instr.field 31 (.agg (rmV r)) 0).run Try.prog w = .ok (.bool r.bk) w := by kernel_rfl
theorem canK : canB rK = true := by decide
theorem pkK : pkN rK = payN rK ∧ pkE rK = 0 := by unfold pkN pkE; rw [canK]; exact ⟨rfl, rfl⟩

set_option maxHeartbeats 4000000 in
theorem awake_calls (w : World) : Calls Try.prog 9 #[] w fun e w' => e = .returned (.bool true) ∧ Below w.heap.size w w' := by
  have HP := fun w => pack_calls rK rK_ok w
  rw [pkK.1, pkK.2] at HP
  have HU := fun w => unpack_calls (payN rK) (pay_len _) w
  rw [un_pay rK_ok canK] at HU
  have HT := fun w => turn_calls rK w
  have g0 : gN (payN rK) 0 = 1 := by rw [gN_head (by decide)]; rfl
  have g2 : gN (payN rK) 2 = 127 := by rw [gN_head (by decide)]; rfl
  have HL : Hid ((payN rK).length = 48) := pay_len _
  have hf := run_fieldA (turnN rK)
  go_enter Try.func9, Try.ntmps9
  go_wp2_with ((with_reducible show wpList _ _ _ (Oper.mk _ (Op.build 31 _) _ _ _ _ :: _) _ _; refine wpList_bld (vs := [(5, .int .u16 32767), (2, .bool true)]) rfl rfl rfl (run_bldK _) ?_; (try simp only [Act.put, List.setIfInBounds_toArray, List.set_cons_zero, List.set_cons_succ, World.size_alloc])))
  refine (HP _).mono ?_
  rintro e w1 ⟨rfl, b1⟩
  have P2 := bk_new w1 (payV (payN rK)) 26
  have B2 := b1.alloc b1.size (.cells (payV (payN rK)) 26)
  have s1 := b1.size
  clear b1
  go_wp2_with (first | (with_reducible show wpList _ _ _ (Oper.mk _ (Op.alloc 26) _ _ _ _ :: Oper.mk _ (Op.store 26 _ _) _ _ _ _ :: _) _ _; refine wpList_def rfl rfl rfl rfl rfl zero24 (by rw [size24, payV_size]; (try simp only [Option.some.injEq, zer, List.length_replicate]) <;> first | rfl | (have := HL.out; omega) | (have := HM.out; omega)) (by first | rfl | (simp only [payV_size]; done) | (rw [payV_size, payV_size]; (try simp only [zer, List.length_replicate]) <;> first | rfl | (have := HL.out; omega) | (have := HM.out; omega) | (have := HL.out; have := HM.out; omega))) (payV_one _) rfl ?_; (try simp only [Act.put, List.setIfInBounds_toArray, List.set_cons_zero, List.set_cons_succ, World.size_alloc])) | (with_reducible show wpList _ _ _ (Oper.mk _ (Op.load 26 _) _ _ _ _ :: _) _ _; refine wpList_ld rfl rfl rfl (run_ld24 _ _ _ _ (by assumption) (by first | exact HL.out | exact HM.out)) ?_; (try simp only [Act.put, List.setIfInBounds_toArray, List.set_cons_zero, List.set_cons_succ, World.size_alloc])))
  refine (HU _).mono ?_
  rintro e w3 ⟨rfl, b3⟩
  have P3 := P2.below b3 P2.lt
  have B3 : Below w.heap.size w w3 := B2.trans (b3.mono B2.size)
  have V4 := bk_new w3 (rmV rK) 31
  have P4 := P3.alloc (.cells (rmV rK) 31)
  have B4 := B3.alloc B3.size (.cells (rmV rK) 31)
  have c0 := g_cell P4 HL.out 0 (by decide)
  have c2 := g_cell P4 HL.out 2 (by decide)
  rw [g0] at c0
  rw [g2] at c2
  have v2 := V4.cell 2 (.bool true) rfl
  have v5 := V4.cell 5 (.int .u16 32767) rfl
  clear P2 B2 b3 P3 B3 g0 g2
  go_wp2_with (first | (with_reducible show wpList _ _ _ (Oper.mk _ (Op.alloc 31) _ _ _ _ :: Oper.mk _ (Op.store 31 _ _) _ _ _ _ :: _) _ _; refine wpList_def rfl rfl rfl rfl rfl zeroA (by rw [rmV_size]; exact sizeA) (by first | (with_reducible rfl) | rw [rmV_size, rmV_size]) (rmV_one _) rfl ?_; (try simp only [Act.put, List.setIfInBounds_toArray, List.set_cons_zero, List.set_cons_succ, World.size_alloc])) | (with_reducible show wpList _ _ _ (Oper.mk _ (Op.load 31 _) _ _ _ _ :: _) _ _; refine wpList_ld rfl rfl rfl (run_ldA _ _ _ _ (by assumption)) ?_; (try simp only [Act.put, List.setIfInBounds_toArray, List.set_cons_zero, List.set_cons_succ, World.size_alloc])))
  refine (HT _).mono ?_
  rintro e w5 ⟨rfl, b5⟩
  have hbk : (turnN rK).bk = true := rfl
  rw [hbk] at hf
  go_wp2
  go_ret
  exact ⟨rfl, B4.trans (b5.mono B4.size)⟩
end Go.Proofs.Ytfkikbnokjbnhaa
