/- Proved here: what the functions of rate answer. Conditions: as each theorem states them. -/
import Derived.Test.YtfkikbnokjbnhaaChecked
import Derived.Test.YtfkikbnokjbnhaaPl
namespace Go.Proofs.Ytfkikbnokjbnhaa
set_option linter.unusedSimpArgs false
set_option linter.unusedVariables false
open Go.RowKit

theorem wraps_u16 (n : Int) (h₀ : 0 ≤ n) (h₁ : n < 2 ^ 16) : IntKind.u16.wrap n = n := by rw [IntKind.wrap_u16]; omega
theorem wraps_i64 (n : Int) (h₀ : 0 ≤ n) (h₁ : n < 2 ^ 63) : IntKind.i64.wrap n = n := by rw [IntKind.wrap_i64]; omega
theorem and_31 {c : Nat} (h : c < 65536) : bits .and .u16 ((c : Int) / 512) 31 = ((c / 512 % 32 : Nat) : Int) := by
  have := bits_mask .u16 16 (by decide) wraps_u16 5 (by decide) ((c : Int) / 512) (by omega) (by omega)
  rw [show (31 : Int) = 2 ^ 5 - 1 by decide, this]; omega
theorem and_511 {c : Nat} (h : c < 65536) : bits .and .u16 (c : Int) 511 = ((c % 512 : Nat) : Int) := by
  have := bits_mask .u16 16 (by decide) wraps_u16 9 (by decide) (c : Int) (by omega) (by omega)
  rw [show (511 : Int) = 2 ^ 9 - 1 by decide, this]; omega
theorem and_z {c : Nat} (h : c < 65536) : bits .and .u16 (c : Int) 16384 = ((c / 16384 % 2 * 16384 : Nat) : Int) := by
  have := (bits_nat .u16 16 (by decide) wraps_u16 c 16384 (by omega) (by omega)).1
  rw [show (16384 : Int) = ((16384 : Nat) : Int) by rfl, this, show 16384 = 2 ^ 14 by rfl, nat_bit]

set_option maxHeartbeats 1000000 in
theorem right_calls (c : Nat) (h : c < 65536) (w : World) : Calls Try.prog 22 #[.int .u16 c] w fun e w' => e = .returned (.bool (riB c)) ∧ w' = w := by
  go_enter Try.func22, Try.ntmps22
  go_wp2 <;> (go_ret; refine ⟨ret_b ?_, rfl⟩; rw [Bool.eq_iff_iff, riB_iff]; simp; omega)

set_option maxHeartbeats 1000000 in
theorem refright_calls (c : Nat) (h : c < 65536) (w : World) : Calls Try.prog 26 #[.int .i64 c] w fun e w' => e = .returned (.bool (riB c)) ∧ w' = w := by
  go_enter Try.func26, Try.ntmps26
  go_wp2 <;> (go_ret; refine ⟨ret_b ?_, rfl⟩; rw [Bool.eq_iff_iff, riB_iff]; simp; omega)

theorem shl_run (e m : Nat) (he : e ≤ 31) (hm : m < 512) : Op.shift .shl .i64 (512 + (m : Int)) .u16 (e : Int) = pure (.int .i64 (((512 + m) * 2 ^ e : Nat) : Int)) := by
  have hle : (512 + m) * 2 ^ e ≤ 1023 * 2147483648 := Nat.mul_le_mul (by omega) (pow_le31 he)
  rw [shift_shl .i64 .u16 _ _ (by omega) (by show (e : Int) ≤ 64; omega), Int.toNat_natCast, show (512 + (m : Int)) * 2 ^ e = (((512 + m) * 2 ^ e : Nat) : Int) by simp]
  rw [wraps_i64 _ (by omega) (by omega)]

theorem shl_wrap (e m : Nat) (he : e ≤ 31) (hm : m < 512) : wrap64 ((512 + (m : Int)) * 2 ^ e) = (((512 + m) * 2 ^ e : Nat) : Int) := by
  have hle : (512 + m) * 2 ^ e ≤ 1023 * 2147483648 := Nat.mul_le_mul (by omega) (pow_le31 he)
  rw [show (512 + (m : Int)) * 2 ^ e = (((512 + m) * 2 ^ e : Nat) : Int) by simp]
  unfold wrap64; omega

set_option maxHeartbeats 1000000 in
theorem scaled_calls (c : Nat) (h : c < 65536) (w : World) : Calls Try.prog 23 #[.int .u16 c] w fun e w' => e = .returned (.int .i64 (scN c)) ∧ w' = w := by
  have a31 := and_31 h
  have a511 := and_511 h
  have az := and_z h
  by_cases hz : c / 16384 % 2 = 0
  · have hs := scN_zero hz
    rw [hz] at az
    go_enter Try.func23, Try.ntmps23
    go_wp2
    go_ret
    exact ⟨ret_i (by rw [hs]; rfl), rfl⟩
  · have hz1 : c / 16384 % 2 = 1 := by omega
    have hs := scN_eq hz1
    rw [hz1] at az
    obtain ⟨e, he⟩ : ∃ e, c / 512 % 32 = e := ⟨_, rfl⟩
    obtain ⟨m, hm⟩ : ∃ m, c % 512 = m := ⟨_, rfl⟩
    have he2 : e ≤ 31 := by omega
    have hm2 : m < 512 := by omega
    rw [he, hm] at hs
    rw [he] at a31
    rw [hm] at a511
    have hsh := shl_run e m he2 hm2
    have HS : Hid (scN c = (512 + m) * 2 ^ e) := hs
    clear hs he hm hz hz1
    go_enter Try.func23, Try.ntmps23
    go_wp2
    go_ret
    exact ⟨ret_i (by rw [HS.out]; exact shl_wrap e m he2 hm2), rfl⟩

end Go.Proofs.Ytfkikbnokjbnhaa
