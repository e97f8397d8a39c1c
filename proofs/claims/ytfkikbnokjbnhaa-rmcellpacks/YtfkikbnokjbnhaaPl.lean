/- Proved here: the plain numbers of codes: a code's rate, the code of a rate, a rate's step. Conditions: as each theorem states them. -/
import Derived.Maps.AppendAt
import Derived.OpenShut
import Derived.WalkKit
import Derived.RangeFuncBox
import Derived.Deep.RegionLaw
import Derived.Deep.RegionHeld
import Derived.Shelf.Abstract
import Derived.Handy
import Derived.WalkLawsBesides
namespace Go.Proofs.Ytfkikbnokjbnhaa
set_option linter.unusedSimpArgs false
set_option linter.unusedVariables false
open Go.RowKit

/-- 512 times a code's rate. -/
def scN (c : Nat) : Nat := if c / 16384 % 2 = 0 then 0 else (512 + c % 512) * 2 ^ (c / 512 % 32)
def riB (c : Nat) : Bool := decide (c = 0) || (decide (16384 ≤ c) && decide (c < 32768))
/-- A code's step. -/
def stN (c : Nat) : Nat := if scN c = 0 then 1152921504606846976 else (536870912 + scN c - 1) / scN c
/-- The exponent of a rate; the code of a rate. -/
def IsE (r e : Nat) : Prop := e ≤ 31 ∧ 2 ^ e ≤ r ∧ (e = 31 ∨ r < 2 ^ (e + 1))
def IsC (n : Int) (c : Nat) : Prop := (n < 1 ∧ c = 0) ∨ (1 ≤ n ∧ 16384 ≤ c ∧ c < 32768 ∧ (scN c : Int) ≤ 512 * n ∧ (c = 32767 ∨ 512 * n < (scN (c + 1) : Int)))

theorem ret_i {a b : Int} (h : a = b) : Ending.returned (.int .i64 a) = .returned (.int .i64 b) := by rw [h]
theorem ret_u {a b : Int} (h : a = b) : Ending.returned (.int .u16 a) = .returned (.int .u16 b) := by rw [h]
theorem ret_b {a b : Bool} (h : a = b) : Ending.returned (.bool a) = .returned (.bool b) := by rw [h]

theorem riB_iff {c : Nat} : riB c = true ↔ c = 0 ∨ (16384 ≤ c ∧ c < 32768) := by simp [riB]
theorem pow_le31 {e : Nat} (h : e ≤ 31) : 2 ^ e ≤ 2147483648 := Nat.pow_le_pow_right (n := 2) (by decide) h
theorem pow_pos2 (e : Nat) : 0 < 2 ^ e := Nat.two_pow_pos e

theorem scN_zero {c : Nat} (h : c / 16384 % 2 = 0) : scN c = 0 := if_pos h
theorem scN_eq {c : Nat} (h : c / 16384 % 2 = 1) : scN c = (512 + c % 512) * 2 ^ (c / 512 % 32) := if_neg (by omega)
theorem scN_le (c : Nat) : scN c ≤ 1023 * 2147483648 := by
  unfold scN
  split
  · omega
  · exact Nat.mul_le_mul (by omega) (pow_le31 (by omega))
theorem scN_ge {c : Nat} (h : c / 16384 % 2 = 1) : 512 * 2 ^ (c / 512 % 32) ≤ scN c := by
  rw [scN_eq h]; exact Nat.mul_le_mul_right _ (by omega)
theorem scN_pos {c : Nat} (h : c / 16384 % 2 = 1) : 512 ≤ scN c := by
  have := scN_ge h; have := pow_pos2 (c / 512 % 32); omega
/-- The next code's rate. -/
theorem scN_succ {c : Nat} (h : 16384 ≤ c) (h2 : c < 32767) : scN (c + 1) = scN c + 2 ^ (c / 512 % 32) := by
  rw [scN_eq (c := c) (by omega), scN_eq (c := c + 1) (by omega)]
  by_cases hm : c % 512 = 511
  · rw [show (c + 1) / 512 % 32 = c / 512 % 32 + 1 by omega, show (c + 1) % 512 = 0 by omega, hm, Nat.pow_succ]
    omega
  · rw [show (c + 1) / 512 % 32 = c / 512 % 32 by omega, show (c + 1) % 512 = c % 512 + 1 by omega, ← Nat.add_assoc, Nat.add_mul (512 + c % 512) 1, Nat.one_mul]
theorem scN_lt_add {c : Nat} (h : 16384 ≤ c) : ∀ j : Nat, c + j + 1 < 32768 → scN c < scN (c + j + 1) := by
  intro j
  induction j with
  | zero => intro h2; rw [scN_succ h (by omega)]; have := pow_pos2 (c / 512 % 32); omega
  | succ j ih =>
    intro h2
    have h3 := scN_succ (c := c + j + 1) (by omega) (by omega)
    have := ih (by omega)
    rw [show c + (j + 1) + 1 = c + j + 1 + 1 by omega, h3]; exact Nat.lt_of_lt_of_le this (Nat.le_add_right _ _)
theorem scN_lt {a b : Nat} (h : 16384 ≤ a) (hb : b < 32768) (hab : a < b) : scN a < scN b := by
  have := scN_lt_add h (b - a - 1) (by omega)
  rwa [show a + (b - a - 1) + 1 = b by omega] at this
theorem scN_mono {a b : Nat} (h : 16384 ≤ a) (hb : b < 32768) (hab : a ≤ b) : scN a ≤ scN b := by
  rcases Nat.lt_or_eq_of_le hab with h1 | rfl
  · exact Nat.le_of_lt (scN_lt h hb h1)
  · exact Nat.le_refl _
theorem scN_zero_iff {c : Nat} (h : riB c = true) : scN c = 0 ↔ c = 0 := by
  constructor
  · intro h0
    rcases riB_iff.1 h with rfl | h1
    · rfl
    · have := scN_pos (c := c) (by omega); omega
  · rintro rfl; decide
/-- Of codes that can be: greater ones have greater rates. -/
theorem scN_lt_iff {a b : Nat} (ha : riB a = true) (hb : riB b = true) : scN a < scN b ↔ a < b := by
  rcases riB_iff.1 ha with rfl | h1 <;> rcases riB_iff.1 hb with rfl | h2
  · simp
  · have := scN_pos (c := b) (by omega); rw [show scN 0 = 0 by decide]; omega
  · rw [show scN 0 = 0 by decide]; omega
  · constructor
    · intro h
      rcases Nat.lt_or_ge a b with h3 | h3
      · exact h3
      · have := scN_mono h2.1 h1.2 h3; omega
    · intro h; exact scN_lt h1.1 h2.2 h

theorem isC_unique {n : Int} {c d : Nat} (hc : IsC n c) (hd : IsC n d) : c = d := by
  rcases hc with ⟨h1, rfl⟩ | ⟨h1, c1, c2, c3, c4⟩ <;> rcases hd with ⟨h2, rfl⟩ | ⟨h2, d1, d2, d3, d4⟩
  · rfl
  · omega
  · omega
  · rcases Nat.lt_trichotomy c d with h | h | h
    · rcases c4 with rfl | c4
      · omega
      · have := scN_mono (a := c + 1) (b := d) (by omega) d2 (by omega); omega
    · exact h
    · rcases d4 with rfl | d4
      · omega
      · have := scN_mono (a := d + 1) (b := c) (by omega) c2 (by omega); omega
/-- A greater rate has no lesser code. -/
theorem isC_mono {n m : Int} {c d : Nat} (hc : IsC n c) (hd : IsC m d) (h : n ≤ m) : c ≤ d := by
  rcases hc with ⟨h1, rfl⟩ | ⟨h1, c1, c2, c3, c4⟩ <;> rcases hd with ⟨h2, rfl⟩ | ⟨h2, d1, d2, d3, d4⟩
  · omega
  · omega
  · omega
  · rcases Nat.lt_or_ge d c with hl | hl
    · rcases d4 with rfl | d4
      · omega
      · have := scN_mono (a := d + 1) (b := c) (by omega) c2 (by omega); omega
    · exact hl
theorem isC_right {n : Int} {c : Nat} (hc : IsC n c) : riB c = true ∧ c < 32768 := by
  rcases hc with ⟨h1, rfl⟩ | ⟨h1, c1, c2, c3, c4⟩
  · exact ⟨rfl, by decide⟩
  · exact ⟨riB_iff.2 (.inr ⟨c1, c2⟩), c2⟩

/-- What the code's own Code reckons. -/
theorem isC_of_e {r e : Nat} {n : Int} (hr : (r : Int) = min n 4290772992) (hn : 1 ≤ n) (he : IsE r e) : 512 ≤ r * 512 / 2 ^ e ∧ r * 512 / 2 ^ e < 1024 ∧ IsC n (16384 + e * 512 + (r * 512 / 2 ^ e - 512)) := by
  obtain ⟨e1, e2, e3⟩ := he
  have hp := pow_pos2 e
  have hr2 : r ≤ 4290772992 := by omega
  have lo : 512 ≤ r * 512 / 2 ^ e := by rw [Nat.le_div_iff_mul_le hp]; omega
  have hi : r * 512 / 2 ^ e < 1024 := by
    rw [Nat.div_lt_iff_lt_mul hp]
    rcases e3 with rfl | e3
    · omega
    · rw [Nat.pow_succ] at e3; omega
  refine ⟨lo, hi, .inr ⟨hn, by omega, by omega, ?_⟩⟩
  obtain ⟨q, hq⟩ : ∃ q, r * 512 / 2 ^ e = q := ⟨_, rfl⟩
  rw [hq] at lo hi ⊢
  have s1 : scN (16384 + e * 512 + (q - 512)) = q * 2 ^ e := by
    rw [scN_eq (by omega), show (16384 + e * 512 + (q - 512)) % 512 = q - 512 by omega, show (16384 + e * 512 + (q - 512)) / 512 % 32 = e by omega, show 512 + (q - 512) = q by omega]
  have d1 : q * 2 ^ e ≤ r * 512 := by rw [← hq]; exact Nat.div_mul_le_self _ _
  have d2 : r * 512 < q * 2 ^ e + 2 ^ e := by
    have := Nat.div_add_mod (r * 512) (2 ^ e)
    have h3 := Nat.mod_lt (r * 512) hp
    rw [hq, Nat.mul_comm] at this
    omega
  refine ⟨by rw [s1]; omega, ?_⟩
  by_cases hc : 16384 + e * 512 + (q - 512) = 32767
  · exact .inl hc
  · right
    rw [scN_succ (by omega) (by omega), s1, show (16384 + e * 512 + (q - 512)) / 512 % 32 = e by omega]
    by_cases hcap : n ≤ 4290772992
    · have : (r : Int) = n := by omega
      omega
    · exfalso
      have hr3 : r = 4290772992 := by omega
      subst hr3
      have he : e = 31 := by
        rcases e3 with h | h
        · exact h
        · have := Nat.pow_le_pow_right (n := 2) (by decide) e1
          by_cases h31 : e = 31
          · exact h31
          · have h5 := Nat.pow_le_pow_right (n := 2) (by decide) (show e + 1 ≤ 31 by omega)
            omega
      subst he
      omega

/-- What the document's Step keeps in its rounds. -/
theorem step_end {k n : Nat} (h0 : 0 < n) (h1 : k * n < 536870912 + n) (h2 : 536870912 ≤ k * n) : k = (536870912 + n - 1) / n := by
  symm
  rw [Nat.div_eq_iff h0]
  omega
theorem step_round {k s P : Nat} (hs : 0 < s) (hP : P = k * s) (h : P < 536870912) :
    ∃ d : Nat, (if 1 < (536870912 - (P : Int)) / (s : Int) then (536870912 - (P : Int)) / (s : Int) else 1) = (d : Int) ∧ 1 ≤ d ∧ (k + d) * s < 536870912 + s ∧ k + d ≤ 536870912 := by
  have e : (536870912 - (P : Int)) / (s : Int) = (((536870912 - P) / s : Nat) : Int) := by rw [Int.natCast_ediv]; congr 1; omega
  rw [e]
  have hq : (536870912 - P) / s * s ≤ 536870912 - P := Nat.div_mul_le_self _ _
  obtain ⟨q, hq1⟩ : ∃ q, (536870912 - P) / s = q := ⟨_, rfl⟩
  rw [hq1] at hq ⊢
  have fin : ∀ d : Nat, 1 ≤ d → (k + d) * s < 536870912 + s → k + d ≤ 536870912 := by
    intro d hd h2
    obtain ⟨j, rfl⟩ : ∃ j, d = j + 1 := ⟨d - 1, by omega⟩
    rw [← Nat.add_assoc, Nat.add_mul, Nat.one_mul] at h2
    have : (k + j) * 1 ≤ (k + j) * s := Nat.mul_le_mul_left _ hs
    omega
  by_cases h1 : 1 < q
  · have hb : (k + q) * s < 536870912 + s := by rw [Nat.add_mul, ← hP]; omega
    exact ⟨q, by rw [if_pos (by omega)], by omega, hb, fin q (by omega) hb⟩
  · have hb : (k + 1) * s < 536870912 + s := by rw [Nat.add_mul, ← hP]; omega
    exact ⟨1, by rw [if_neg (by omega)]; rfl, by omega, hb, fin 1 (by omega) hb⟩

/-- What the document's Code keeps: where it has come to. -/
def InC (n : Int) (l h : Nat) : Prop := 16384 ≤ l ∧ l ≤ h ∧ h ≤ 32767 ∧ (scN l : Int) ≤ 512 * n ∧ (h = 32767 ∨ 512 * n < (scN (h + 1) : Int))
theorem inC_start {n : Int} (h : 1 ≤ n) : InC n 16384 32767 := ⟨by omega, by omega, by omega, by rw [show scN 16384 = 512 by decide]; omega, .inl rfl⟩
theorem inC_end {n : Int} {l : Nat} (hn : 1 ≤ n) (h : InC n l l) : IsC n l := .inr ⟨hn, h.1, by have := h.2.2.1; omega, h.2.2.2.1, h.2.2.2.2⟩
theorem inC_up {n : Int} {l h m : Nat} (hi : InC n l h) (hm : m = (l + h + 1) / 2) (hlt : l < h) (ht : (scN m : Int) ≤ 512 * n) : InC n m h :=
  ⟨by have := hi.1; omega, by omega, hi.2.2.1, ht, hi.2.2.2.2⟩
theorem inC_down {n : Int} {l h m : Nat} (hi : InC n l h) (hm : m = (l + h + 1) / 2) (hlt : l < h) (ht : ¬ (scN m : Int) ≤ 512 * n) : InC n l (m - 1) :=
  ⟨hi.1, by omega, by have := hi.2.2.1; omega, hi.2.2.2.1, .inr (by rw [show m - 1 + 1 = m by omega]; omega)⟩
end Go.Proofs.Ytfkikbnokjbnhaa
