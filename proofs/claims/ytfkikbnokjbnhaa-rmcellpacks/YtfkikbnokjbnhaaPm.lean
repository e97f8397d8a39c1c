/- Proved here: plain laws of codes, rates and steps. Conditions: as each theorem states them. -/
import Derived.Test.YtfkikbnokjbnhaaPl
namespace Go.Proofs.Ytfkikbnokjbnhaa
set_option linter.unusedSimpArgs false
set_option linter.unusedVariables false
open Go.RowKit Go.Shelf

theorem stN_zero {c : Nat} (h : scN c = 0) : stN c = 1152921504606846976 := if_pos h
theorem stN_eq {c : Nat} (h : 0 < scN c) : stN c = (536870912 + scN c - 1) / scN c := if_neg (by omega)
/-- A step is long enough, and not by a tick too long. -/
theorem stN_fits {c : Nat} (h : 0 < scN c) : 1 ≤ stN c ∧ 536870912 ≤ stN c * scN c ∧ (stN c - 1) * scN c < 536870912 ∧ stN c * scN c < 536870912 + scN c := by
  rw [stN_eq h]
  obtain ⟨s, hs⟩ : ∃ s, scN c = s := ⟨_, rfl⟩
  rw [hs] at h ⊢
  obtain ⟨k, hk⟩ : ∃ k, (536870912 + s - 1) / s = k := ⟨_, rfl⟩
  rw [hk]
  rw [Nat.div_eq_iff h] at hk
  have h1 : 1 ≤ k := by
    rcases Nat.eq_zero_or_pos k with rfl | h1
    · omega
    · exact h1
  obtain ⟨j, rfl⟩ : ∃ j, k = j + 1 := ⟨k - 1, by omega⟩
  rw [Nat.add_mul, Nat.one_mul] at *
  refine ⟨by omega, by omega, ?_, by omega⟩
  rw [Nat.add_sub_cancel]
  omega
theorem stN_le (c : Nat) : stN c ≤ 1152921504606846976 := by
  rcases Nat.eq_zero_or_pos (scN c) with h | h
  · rw [stN_zero h]; exact Nat.le_refl _
  · rw [stN_eq h]
    have h1 := Nat.div_le_self (536870912 + scN c - 1) (scN c)
    have h2 := scN_le c
    omega
theorem stN_anti {a b : Nat} (h : scN a ≤ scN b) : stN b ≤ stN a := by
  rcases Nat.eq_zero_or_pos (scN a) with h0 | h0
  · rw [stN_zero h0]; exact stN_le b
  · have hb : 0 < scN b := by omega
    obtain ⟨a1, a2, a3, a4⟩ := stN_fits h0
    obtain ⟨b1, b2, b3, b4⟩ := stN_fits hb
    rcases Nat.lt_or_ge (stN a) (stN b) with hlt | hge
    · exfalso
      have h1 : stN a * scN a ≤ (stN b - 1) * scN b := Nat.mul_le_mul (by omega) h
      omega
    · exact hge

/-- How far a code's rate is from what it is the code of. -/
theorem isC_near {n c : Nat} (h : IsC n c) (h1 : 1 ≤ n) (h2 : n ≤ 2147483648) : scN c ≤ 512 * n ∧ 512 * n < scN c + 2 ^ (c / 512 % 32) ∧ 16384 ≤ c ∧ c < 32767 := by
  rcases h with ⟨h3, rfl⟩ | ⟨h3, c1, c2, c3, c4⟩
  · omega
  · have hne : c ≠ 32767 := by
      rintro rfl
      rw [show scN 32767 = 2196875771904 by decide] at c3
      omega
    rcases c4 with h | h
    · exact absurd h hne
    · rw [scN_succ c1 (by omega)] at h
      refine ⟨by omega, ?_, c1, by omega⟩
      rw [Int.natCast_add] at h; omega
/-- With an exponent of 9 or less a whole rate has its own code. -/
theorem isC_exact {n c : Nat} (h : IsC n c) (h1 : 1 ≤ n) (h2 : n ≤ 2147483648) (h9 : c / 512 % 32 ≤ 9) : scN c = 512 * n := by
  obtain ⟨a1, a2, a3, a4⟩ := isC_near h h1 h2
  rw [scN_eq (by omega)] at a1 a2 ⊢
  obtain ⟨e, he⟩ : ∃ e, c / 512 % 32 = e := ⟨_, rfl⟩
  rw [he] at a1 a2 h9 ⊢
  obtain ⟨m, hm⟩ : ∃ m, 512 + c % 512 = m := ⟨_, rfl⟩
  rw [hm] at a1 a2 ⊢
  have hd : 512 = 2 ^ (9 - e) * 2 ^ e := by rw [← Nat.pow_add, show 9 - e + e = 9 by omega]
  have hn : 512 * n = (2 ^ (9 - e) * n) * 2 ^ e := by rw [Nat.mul_right_comm, ← hd]
  rw [hn] at a1 a2 ⊢
  have hp := pow_pos2 e
  have b1 := Nat.le_of_mul_le_mul_right a1 hp
  have b2 : 2 ^ (9 - e) * n < m + 1 := by
    have : 2 ^ (9 - e) * n * 2 ^ e < (m + 1) * 2 ^ e := by rw [Nat.add_mul, Nat.one_mul]; exact a2
    exact Nat.lt_of_mul_lt_mul_right this
  rw [show m = 2 ^ (9 - e) * n by omega]
/-- Such an exponent have all codes of rates up to 512. -/
theorem exp_le {c : Nat} (hc : 16384 ≤ c) (hc2 : c < 32768) (h : scN c ≤ 512 * 1023) : c / 512 % 32 ≤ 9 := by
  rcases Nat.lt_or_ge 9 (c / 512 % 32) with h1 | h1
  · exfalso
    have h2 := scN_ge (c := c) (by omega)
    have h3 := Nat.pow_le_pow_right (n := 2) (by decide) (show 10 ≤ c / 512 % 32 by omega)
    omega
  · exact h1
theorem near_small {n c : Nat} (h : IsC n c) (h2 : n ≤ 512) : scN c / 512 = n := by
  rcases Nat.eq_zero_or_pos n with rfl | h1
  · rcases h with ⟨h3, rfl⟩ | ⟨h3, _⟩
    · decide
    · omega
  · obtain ⟨a1, a2, a3, a4⟩ := isC_near h h1 (by omega)
    have := isC_exact h h1 (by omega) (exp_le a3 (by omega) (by omega))
    omega
theorem near_great {n c : Nat} (h : IsC n c) (h1 : 1 ≤ n) (h2 : n ≤ 2147483648) : n < scN c / 512 + n / 512 + 1 := by
  by_cases h9 : c / 512 % 32 ≤ 9
  · have := isC_exact h h1 h2 h9; omega
  · obtain ⟨a1, a2, a3, a4⟩ := isC_near h h1 h2
    rw [scN_eq (by omega)] at a1 a2 ⊢
    obtain ⟨d, hd⟩ : ∃ d, c / 512 % 32 = d + 9 := ⟨c / 512 % 32 - 9, by omega⟩
    rw [hd, Nat.pow_add, show 2 ^ 9 = 512 by rfl, ← Nat.mul_assoc] at a1 a2 ⊢
    rw [Nat.mul_div_cancel _ (by decide)]
    have h5 : 512 * 2 ^ d ≤ (512 + c % 512) * 2 ^ d := Nat.mul_le_mul_right _ (by omega)
    obtain ⟨v, hv⟩ : ∃ v, (512 + c % 512) * 2 ^ d = v := ⟨_, rfl⟩
    obtain ⟨p, hp⟩ : ∃ p, 2 ^ d = p := ⟨_, rfl⟩
    rw [hv] at a1 a2 h5 ⊢
    rw [hp] at a2 h5
    omega
theorem near_le {n : Int} {c : Nat} (h : IsC n c) (h0 : 0 ≤ n) : ((scN c / 512 : Nat) : Int) ≤ n := by
  rcases h with ⟨h3, rfl⟩ | ⟨h3, c1, c2, c3, c4⟩
  · rw [show scN 0 = 0 by decide]; omega
  · omega

/-- The code of a code's rate. -/
theorem back_le {c d : Nat} (hr : riB c = true) (h : IsC ((scN c / 512 : Nat) : Int) d) : d ≤ c := by
  rcases h with ⟨h3, rfl⟩ | ⟨h3, c1, c2, c3, c4⟩
  · omega
  · rcases Nat.lt_or_ge c d with hl | hl
    · exfalso
      rcases riB_iff.1 hr with rfl | h1
      · rw [show scN 0 = 0 by decide] at h3; omega
      · have := scN_lt h1.1 c2 hl; omega
    · exact hl
theorem back_whole {c d : Nat} (hr : riB c = true) (h : IsC ((scN c / 512 : Nat) : Int) d) (hw : scN c % 512 = 0) : d = c := by
  have hle := back_le hr h
  rcases riB_iff.1 hr with rfl | h1
  · omega
  · have h5 := scN_pos (c := c) (by omega)
    rcases h with ⟨h3, rfl⟩ | ⟨h3, c1, c2, c3, c4⟩
    · omega
    · rcases Nat.lt_or_ge d c with hl | hl
      · exfalso
        rcases c4 with rfl | c4
        · omega
        · have := scN_mono (a := d + 1) (b := c) (by omega) h1.2 (by omega); omega
      · omega
theorem whole_nine {c : Nat} (h : c / 16384 % 2 = 1) (h9 : 9 ≤ c / 512 % 32) : scN c % 512 = 0 := by
  rw [scN_eq h]
  obtain ⟨d, hd⟩ : ∃ d, c / 512 % 32 = d + 9 := ⟨c / 512 % 32 - 9, by omega⟩
  rw [hd, Nat.pow_add, show 2 ^ 9 = 512 by rfl, ← Nat.mul_assoc]
  exact Nat.mul_mod_left _ _
theorem back_value {c d : Nat} (hr : riB c = true) (h : IsC ((scN c / 512 : Nat) : Int) d) : scN d / 512 = scN c / 512 := by
  rcases riB_iff.1 hr with rfl | h1
  · rw [back_whole hr h (by decide)]
  · by_cases h9 : 9 ≤ c / 512 % 32
    · rw [back_whole hr h (whole_nine (by omega) h9)]
    · have h5 : scN c ≤ 1023 * 256 := by
        rw [scN_eq (by omega)]
        exact Nat.mul_le_mul (by omega) (Nat.pow_le_pow_right (n := 2) (by decide) (show c / 512 % 32 ≤ 8 by omega))
      exact near_small h (by omega)
/-- An exponent that is greater by one: twice the rate. -/
theorem scN_twice {c : Nat} (h : 16384 ≤ c) (h2 : c < 32256) : scN (c + 512) = 2 * scN c := by
  rw [scN_eq (c := c) (by omega), scN_eq (c := c + 512) (by omega), show (c + 512) / 512 % 32 = c / 512 % 32 + 1 by omega, show (c + 512) % 512 = c % 512 by omega, Nat.pow_succ, ← Nat.mul_assoc, Nat.mul_comm]
end Go.Proofs.Ytfkikbnokjbnhaa
