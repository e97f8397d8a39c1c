/- Proved here: what the document's Right answers, of any contract. Conditions: as each theorem states them. -/
import Derived.Test.YthmcnllkngheoaaSmall
namespace Go.Proofs.Ythmcnllkngheoaa
set_option linter.unusedSimpArgs false
set_option linter.unusedVariables false
open Go.RowKit Go.Shelf

/-- Is a number from one to another one? -/
def fromB (x lo hi : Int) : Bool := decide (lo ≤ x) && decide (x ≤ hi)
set_option maxHeartbeats 400000 in
theorem from_calls (x lo hi : Int) (w : World) : Calls Try.prog 24 #[.int .i64 x, .int .i64 lo, .int .i64 hi] w fun e w' => e = .returned (.bool (fromB x lo hi)) ∧ w' = w := by
  go_enter Try.func24, Try.ntmps24
  go_wp2 <;> (go_ret; exact ⟨ret_b (by simp [fromB, *] <;> omega), rfl⟩)
theorem from_in (x lo : Int) (w : World) : Calls Try.prog 24 #[.int .i64 x, .int .i64 lo, .int .i64 1099511627776] w fun e w' => e = .returned (.bool (inB x lo)) ∧ w' = w := from_calls x lo 1099511627776 w

set_option maxHeartbeats 2000000 in
theorem refright_other (k p e w b l : Int) (hk : ¬ (1 ≤ k ∧ k ≤ 7)) (W : World) : Calls Try.prog 18 #[cV k p e w b l] W fun x W' => x = .returned (.int .i64 (errN k p e w b l)) ∧ Below W.heap.size W W' := by
  have hE : errN k p e w b l = 12 := by
    have : (decide (1 ≤ k) && decide (k ≤ 7)) = false := by simp; omega
    simp [errN, this]
  have hF : fromB k 1 7 = false := by unfold fromB; simp; omega
  rw [hE]
  clear hE hk
  go_enter Try.func18, Try.ntmps18
  go_wp2_with fail
  refine (from_calls _ 1 7 _).mono ?_
  rintro x w1 ⟨rfl, rfl⟩
  rw [hF]
  go_wp2
  go_ret
  exact ⟨rfl, (Below.refl _ W).alloc (Nat.le_refl _) _⟩

set_option maxHeartbeats 4000000 in
theorem refright_vbr (k p e w b l : Int) (hk : k = 2 ∨ k = 3 ∨ k = 4) (W : World) : Calls Try.prog 18 #[cV k p e w b l] W fun x W' => x = .returned (.int .i64 (errN k p e w b l)) ∧ Below W.heap.size W W' := by
  rcases hk with rfl | rfl | rfl <;>
  · go_enter Try.func18, Try.ntmps18
    go_wp2_with fail
    refine (from_calls _ 1 7 _).mono ?_
    rintro x w1 ⟨rfl, rfl⟩
    rw [show fromB _ 1 7 = true by decide]
    go_wp2_with (go_at_call 24; refine (from_in _ _ _).mono ?_; rintro x w1 ⟨rfl, rfl⟩)
    all_goals (go_ret; refine ⟨ret_i ?_, (Below.refl _ W).alloc (Nat.le_refl _) _⟩; first | (simp [errN, canB, vbrB, *]; done) | (rename_i h; (first | replace h := not_eq0 h | replace h := not_eq1 h); simp [errN, canB, vbrB, *]; done) | (have hb : (b == 0) = false := beq_false_of_ne (by assumption); simp [errN, canB, vbrB, *]; done) | (have hb : (w == 0) = false := beq_false_of_ne (by assumption); simp [errN, canB, vbrB, *]; done) | (have hb : (l == 0) = false := beq_false_of_ne (by assumption); simp [errN, canB, vbrB, *]; done))

set_option maxHeartbeats 4000000 in
theorem refright_plain (k p e w b l : Int) (hk : k = 1 ∨ k = 6 ∨ k = 7) (W : World) : Calls Try.prog 18 #[cV k p e w b l] W fun x W' => x = .returned (.int .i64 (errN k p e w b l)) ∧ Below W.heap.size W W' := by
  rcases hk with rfl | rfl | rfl <;>
  · go_enter Try.func18, Try.ntmps18
    go_wp2_with fail
    refine (from_calls _ 1 7 _).mono ?_
    rintro x w1 ⟨rfl, rfl⟩
    rw [show fromB _ 1 7 = true by decide]
    go_wp2_with (go_at_call 24; refine (from_in _ _ _).mono ?_; rintro x w1 ⟨rfl, rfl⟩)
    all_goals (go_ret; refine ⟨ret_i ?_, (Below.refl _ W).alloc (Nat.le_refl _) _⟩; first | (simp [errN, canB, vbrB, *]; done) | (rename_i h; (first | replace h := not_eq0 h | replace h := not_eq1 h); simp [errN, canB, vbrB, *]; done) | (have hb : (b == 0) = false := beq_false_of_ne (by assumption); simp [errN, canB, vbrB, *]; done) | (have hb : (w == 0) = false := beq_false_of_ne (by assumption); simp [errN, canB, vbrB, *]; done) | (have hb : (l == 0) = false := beq_false_of_ne (by assumption); simp [errN, canB, vbrB, *]; done))

set_option maxHeartbeats 4000000 in
theorem refright_abr (k p e w b l : Int) (hk : k = 5) (W : World) : Calls Try.prog 18 #[cV k p e w b l] W fun x W' => x = .returned (.int .i64 (errN k p e w b l)) ∧ Below W.heap.size W W' := by
  subst hk
  cases hl : inB l p <;>
  · go_enter Try.func18, Try.ntmps18
    go_wp2_with fail
    refine (from_calls _ 1 7 _).mono ?_
    rintro x w1 ⟨rfl, rfl⟩
    rw [show fromB _ 1 7 = true by decide]
    go_wp2_with (go_at_call 24; refine (from_in _ _ _).mono ?_; rintro x w1 ⟨rfl, rfl⟩)
    all_goals (go_ret; refine ⟨ret_i ?_, (Below.refl _ W).alloc (Nat.le_refl _) _⟩; first | (simp [errN, canB, vbrB, *]; done) | (rename_i h; (first | replace h := not_eq0 h | replace h := not_eq1 h); simp [errN, canB, vbrB, *]; done) | (have hb : (b == 0) = false := beq_false_of_ne (by assumption); simp [errN, canB, vbrB, *]; done) | (have hb : (w == 0) = false := beq_false_of_ne (by assumption); simp [errN, canB, vbrB, *]; done) | (have hb : (l == 0) = false := beq_false_of_ne (by assumption); simp [errN, canB, vbrB, *]; done))

theorem refright_calls (k p e w b l : Int) (W : World) : Calls Try.prog 18 #[cV k p e w b l] W fun x W' => x = .returned (.int .i64 (errN k p e w b l)) ∧ Below W.heap.size W W' := by
  by_cases hk : 1 ≤ k ∧ k ≤ 7
  · by_cases h2 : 2 ≤ k ∧ k ≤ 4
    · exact refright_vbr k p e w b l (by omega) W
    · by_cases h5 : k = 5
      · exact refright_abr k p e w b l h5 W
      · exact refright_plain k p e w b l (by omega) W
  · exact refright_other k p e w b l hk W
end Go.Proofs.Ythmcnllkngheoaa
