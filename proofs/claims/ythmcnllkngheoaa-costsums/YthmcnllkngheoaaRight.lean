/- Proved here: what contract.Right answers, of any contract. Conditions: as each theorem states them. -/
import Derived.Test.YthmcnllkngheoaaBut
namespace Go.Proofs.Ythmcnllkngheoaa
set_option linter.unusedSimpArgs false
set_option linter.unusedVariables false
open Go.RowKit Go.Shelf

/-- A contract, as a value. -/
abbrev cV (k p e w b l : Int) : Value := .agg #[.int .i64 k, .int .i64 p, .int .i64 e, .int .i64 w, .int .i64 b, .int .i64 l]
/-- Is a span from lo to Longest? -/
def inB (x lo : Int) : Bool := decide (lo ≤ x) && decide (x ≤ 1099511627776)
theorem inB_iff {x lo : Int} : inB x lo = true ↔ lo ≤ x ∧ x ≤ 1099511627776 := by simp [inB]
theorem inB_not {x lo : Int} : inB x lo = false ↔ ¬ (lo ≤ x ∧ x ≤ 1099511627776) := by
  rw [← inB_iff]; simp
def vbrB (k : Int) : Bool := decide (2 ≤ k) && decide (k ≤ 4)
/-- Can a contract be, but for its kind? -/
def canB (k p e w b l : Int) : Bool :=
  inB p 1 && inB e 0 && (bif vbrB k then inB w p && inB b 0 && (l == 0) else (w == 0) && (b == 0) && ((l == 0) || ((k == 5) && inB l p)))
/-- The error's number. -/
def errN (k p e w b l : Int) : Int := bif decide (1 ≤ k) && decide (k ≤ 7) then (bif canB k p e w b l then 0 else 11) else 12

theorem ret_i {a b : Int} (h : a = b) : Ending.returned (.int .i64 a) = .returned (.int .i64 b) := by rw [h]
theorem ret_b {a b : Bool} (h : a = b) : Ending.returned (.bool a) = .returned (.bool b) := by rw [h]

set_option maxHeartbeats 400000 in
theorem within_calls (x lo : Int) (w : World) : Calls Try.prog 22 #[.int .i64 x, .int .i64 lo] w fun e w' => e = .returned (.bool (inB x lo)) ∧ w' = w := by
  go_enter Try.func22, Try.ntmps22
  go_wp2 <;> (go_ret; exact ⟨ret_b (by simp [inB, *] <;> omega), rfl⟩)

/-- Of a test of the walk, and its answer, what the numbers' equality is. -/
theorem not_eq0 {l : Int} (h : (!l == 0) = true) : (l == 0) = false := by simpa using h
theorem not_eq1 {l : Int} (h : (!l == 0) = false) : (l == 0) = true := by simpa using h

set_option maxHeartbeats 2000000 in
theorem right_vbr (k p e w b l : Int) (hk : k = 2 ∨ k = 3 ∨ k = 4) (W : World) : Calls Try.prog 15 #[cV k p e w b l] W fun x W' => x = .returned (.int .i64 (errN k p e w b l)) ∧ Below W.heap.size W W' := by
  rcases hk with rfl | rfl | rfl <;>
  · go_enter Try.func15, Try.ntmps15
    go_wp2_with (go_at_call 22; refine (within_calls _ _ _).mono ?_; rintro x w1 ⟨rfl, rfl⟩)
    all_goals (go_ret; refine ⟨ret_i ?_, (Below.refl _ W).alloc (Nat.le_refl _) _⟩; first | (simp [errN, canB, vbrB, *]; done) | (rename_i h; (first | replace h := not_eq0 h | replace h := not_eq1 h); simp [errN, canB, vbrB, *]; done) | (have hb : (b == 0) = false := beq_false_of_ne (by assumption); simp [errN, canB, vbrB, *]; done) | (have hb : (w == 0) = false := beq_false_of_ne (by assumption); simp [errN, canB, vbrB, *]; done))

set_option maxHeartbeats 2000000 in
theorem right_plain (k p e w b l : Int) (hk : k = 1 ∨ k = 6 ∨ k = 7) (W : World) : Calls Try.prog 15 #[cV k p e w b l] W fun x W' => x = .returned (.int .i64 (errN k p e w b l)) ∧ Below W.heap.size W W' := by
  rcases hk with rfl | rfl | rfl <;>
  · go_enter Try.func15, Try.ntmps15
    go_wp2_with (go_at_call 22; refine (within_calls _ _ _).mono ?_; rintro x w1 ⟨rfl, rfl⟩)
    all_goals (go_ret; refine ⟨ret_i ?_, (Below.refl _ W).alloc (Nat.le_refl _) _⟩; first | (simp [errN, canB, vbrB, *]; done) | (rename_i h; (first | replace h := not_eq0 h | replace h := not_eq1 h); simp [errN, canB, vbrB, *]; done) | (have hb : (b == 0) = false := beq_false_of_ne (by assumption); simp [errN, canB, vbrB, *]; done) | (have hb : (w == 0) = false := beq_false_of_ne (by assumption); simp [errN, canB, vbrB, *]; done))

set_option maxHeartbeats 2000000 in
theorem right_abr (p e w b l : Int) (W : World) : Calls Try.prog 15 #[cV 5 p e w b l] W fun x W' => x = .returned (.int .i64 (errN 5 p e w b l)) ∧ Below W.heap.size W W' := by
  go_enter Try.func15, Try.ntmps15
  go_wp2_with (go_at_call 22; refine (within_calls _ _ _).mono ?_; rintro x w1 ⟨rfl, rfl⟩)
  all_goals (go_ret; refine ⟨ret_i ?_, (Below.refl _ W).alloc (Nat.le_refl _) _⟩; first | (simp [errN, canB, vbrB, *]; done) | (rename_i h; (first | replace h := not_eq0 h | replace h := not_eq1 h); simp [errN, canB, vbrB, *]; done) | (have hb : (b == 0) = false := beq_false_of_ne (by assumption); simp [errN, canB, vbrB, *]; done) | (have hb : (w == 0) = false := beq_false_of_ne (by assumption); simp [errN, canB, vbrB, *]; done))

set_option maxHeartbeats 2000000 in
theorem right_other (k p e w b l : Int) (hk : ¬ (1 ≤ k ∧ k ≤ 7)) (W : World) : Calls Try.prog 15 #[cV k p e w b l] W fun x W' => x = .returned (.int .i64 (errN k p e w b l)) ∧ Below W.heap.size W W' := by
  have hE : errN k p e w b l = 12 := by
    have : (decide (1 ≤ k) && decide (k ≤ 7)) = false := by simp; omega
    simp [errN, this]
  have n1 : (k == 1) = false := by simp; omega
  have n2 : (k == 2) = false := by simp; omega
  have n3 : (k == 3) = false := by simp; omega
  have n4 : (k == 4) = false := by simp; omega
  have n5 : (k == 5) = false := by simp; omega
  have n6 : (k == 6) = false := by simp; omega
  have n7 : (k == 7) = false := by simp; omega
  rw [hE]
  clear hE hk
  go_enter Try.func15, Try.ntmps15
  go_wp2_with (go_at_call 22; refine (within_calls _ _ _).mono ?_; rintro x w1 ⟨rfl, rfl⟩)
  all_goals (go_ret; exact ⟨rfl, (Below.refl _ W).alloc (Nat.le_refl _) _⟩)

theorem right_calls (k p e w b l : Int) (W : World) : Calls Try.prog 15 #[cV k p e w b l] W fun x W' => x = .returned (.int .i64 (errN k p e w b l)) ∧ Below W.heap.size W W' := by
  by_cases hk : 1 ≤ k ∧ k ≤ 7
  · by_cases h2 : 2 ≤ k ∧ k ≤ 4
    · exact right_vbr k p e w b l (by omega) W
    · by_cases h5 : k = 5
      · subst h5; exact right_abr p e w b l W
      · exact right_plain k p e w b l (by omega) W
  · exact right_other k p e w b l hk W

/-- What can be, in plain words. -/
theorem errN_zero {k p e w b l : Int} : errN k p e w b l = 0 ↔ (1 ≤ k ∧ k ≤ 7) ∧ canB k p e w b l = true := by
  unfold errN
  by_cases h : 1 ≤ k ∧ k ≤ 7
  · rw [show (decide (1 ≤ k) && decide (k ≤ 7)) = true by simp; exact h]
    cases canB k p e w b l <;> simp [h]
  · rw [show (decide (1 ≤ k) && decide (k ≤ 7)) = false by simp; omega]
    simp; omega
theorem errN_cases (k p e w b l : Int) : errN k p e w b l = 0 ∨ errN k p e w b l = 11 ∨ errN k p e w b l = 12 := by
  unfold errN
  cases (decide (1 ≤ k) && decide (k ≤ 7)) <;> cases canB k p e w b l <;> simp
theorem canB_vbr {k p e w b l : Int} (hk : vbrB k = true) : canB k p e w b l = true ↔ (1 ≤ p ∧ p ≤ 1099511627776) ∧ (0 ≤ e ∧ e ≤ 1099511627776) ∧ (p ≤ w ∧ w ≤ 1099511627776) ∧ (0 ≤ b ∧ b ≤ 1099511627776) ∧ l = 0 := by
  unfold canB
  rw [hk]
  simp only [cond_true, Bool.and_eq_true, inB_iff, beq_iff_eq, and_assoc]
theorem canB_plain {k p e w b l : Int} (hk : vbrB k = false) : canB k p e w b l = true ↔ (1 ≤ p ∧ p ≤ 1099511627776) ∧ (0 ≤ e ∧ e ≤ 1099511627776) ∧ w = 0 ∧ b = 0 ∧ (l = 0 ∨ k = 5 ∧ p ≤ l ∧ l ≤ 1099511627776) := by
  unfold canB
  rw [hk]
  simp only [cond_false, Bool.and_eq_true, Bool.or_eq_true, inB_iff, beq_iff_eq, and_assoc]
theorem vbrB_iff {k : Int} : vbrB k = true ↔ 2 ≤ k ∧ k ≤ 4 := by simp [vbrB]
theorem vbrB_not {k : Int} : vbrB k = false ↔ ¬ (2 ≤ k ∧ k ≤ 4) := by rw [← vbrB_iff]; simp
end Go.Proofs.Ythmcnllkngheoaa
