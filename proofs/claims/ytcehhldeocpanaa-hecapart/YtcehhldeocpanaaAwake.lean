/- Proved here: the first call of each statement answers true. Conditions: as each theorem states them. -/
import Derived.Test.YtcehhldeocpanaaEql
namespace Go.Proofs.Ytcehhldeocpanaa
open Go.RowKit

theorem bit_aw : bitN (synN [0, 0, 0, 0, 84]) = some 39 := by kernel_rfl
theorem syn_aw : synN [0, 0, 0, 0, 84] ≠ 0 := by have h : synN [0, 0, 0, 0, 84] = 1 := by kernel_rfl
                                                 rw [h]; decide
theorem flip_aw : (flipN [0, 0, 0, 0, 84] 39).take 4 = [0, 0, 0, 0] := by kernel_rfl
theorem chk_aw : ((chk 0 0 0 0).toNat : Int) = 85 := by kernel_rfl
theorem new_rc (w : World) : RC (w.alloc (.cells #[.int .i64 0, .int .i64 0, .bool false] 28)) w.heap.size 0 0 false := bk_new w _ 28

set_option maxHeartbeats 1000000 in
theorem awake_calls (w : World) : Calls Try.prog 9 #[] w fun e W' => e = .returned (.bool true) ∧ Below w.heap.size w W' := by
  have eq0 := eql_self 0 0 0 0
  have ix4 : ∀ w, (Instr.index 35 (.agg #[.int .u8 0, .int .u8 0, .int .u8 0, .int .u8 0, .int .u8 85]) (.int .i64 4)).run Try.prog w = .ok (.int .u8 85) w := fun _ => by kernel_rfl
  have R0 := new_rc w
  have B0 : Below w.heap.size w (w.alloc (.cells #[.int .i64 0, .int .i64 0, .bool false] 28)) := (Below.refl _ w).alloc (Nat.le_refl _) _
  go_enter Try.func9, Try.ntmps9
  go_wp2_with fail
  refine (take_fixed w.heap.size 0 0 0 0 0 0 84 _ R0 (by decide) 39 syn_aw bit_aw).mono ?_
  rintro e w1 ⟨y0, y1, y2, y3, fl, rfl, R1, b1⟩
  rw [flip_aw] at fl
  simp only [List.cons.injEq, and_true] at fl
  obtain ⟨rfl, rfl, rfl, rfl⟩ := fl
  have B1 : Below w.heap.size w w1 := B0.trans (b1.below (by simp) (Nat.le_refl _))
  clear R0 B0 b1
  have R1a : RC (w1.alloc (.cells #[.int .u8 0, .int .u8 0, .int .u8 0, .int .u8 0] 32)) w.heap.size 1 0 true := BK.alloc R1 _
  have F1a := bk_new w1 #[.int .u8 0, .int .u8 0, .int .u8 0, .int .u8 0] 32
  have B1a : Below w.heap.size w (w1.alloc (.cells #[.int .u8 0, .int .u8 0, .int .u8 0, .int .u8 0] 32)) := B1.alloc B1.size _
  go_wp2_with fail
  refine (take_goneB w.heap.size 1 0 0 0 0 0 84 _ R1a (by decide) 39 syn_aw bit_aw).mono ?_
  rintro e w2 ⟨rfl, R2, b2⟩
  have hlt := R1.lt
  have F2 := F1a.but b2 (by simp) (by omega)
  have B2 : Below w.heap.size w w2 := B1a.trans (b2.below (by simp; omega) (Nat.le_refl _))
  clear R1 R1a F1a B1 B1a b2
  have R2a : RC (w2.alloc (.cells #[.int .u8 0, .int .u8 0, .int .u8 0, .int .u8 0] 32)) w.heap.size 1 1 true := BK.alloc R2 _
  have B2a : Below w.heap.size w (w2.alloc (.cells #[.int .u8 0, .int .u8 0, .int .u8 0, .int .u8 0] 32)) := B2.alloc B2.size _
  have hf := F2.lt
  obtain ⟨⟨d0, d1, d2, d3⟩, g0, g1, g2, g3⟩ := F2.four
  clear R2 F2 B2
  go_wp2_with fail
  refine (careful_calls w.heap.size 1 1 true _ R2a).mono ?_
  rintro e w3 ⟨rfl, rfl⟩
  go_wp2_with fail
  refine (repaired_calls w.heap.size 1 1 true _ R2a).mono ?_
  rintro e w3 ⟨rfl, rfl⟩
  go_wp2_with fail
  refine (dropped_calls w.heap.size 1 1 true _ R2a).mono ?_
  rintro e w3 ⟨rfl, rfl⟩
  go_wp2_with fail
  refine (seal_calls 0 0 0 0 _).mono ?_
  rintro e w3 ⟨rfl, b3⟩
  rw [chk_aw]
  go_wp2
  go_ret
  exact ⟨rfl, B2a.trans (b3.mono (by simp; have := R2a.lt; simp at this; omega))⟩
end Go.Proofs.Ytcehhldeocpanaa
