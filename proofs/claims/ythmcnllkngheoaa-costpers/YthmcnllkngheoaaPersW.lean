/- Proved here: the walk of CostPers. Conditions: as each theorem states them. -/
import Derived.Test.YthmcnllkngheoaaAw
namespace Go.Proofs.Ythmcnllkngheoaa
set_option linter.unusedSimpArgs false
set_option linter.unusedVariables false
open Go.RowKit Go.Shelf

/-- What the law says of two steps, in order. -/
theorem pers_facts {x y : Int} (h : 1 ≤ x) (hxy : x ≤ y) : perN y ≤ perN x ∧ 1 ≤ perN x ∧ perN x ≤ 1048576 ∧ (1048576 < x → perN x = 1) ∧ (x ≤ 1048576 → 1048576 ≤ perN x * x ∧ perN x * x ≤ 1099511627776 ∧ (perN x - 1) * x < 1048576 ∧ 0 ≤ (perN x - 1) * x) := by
  have h1 := perN_pos h
  have h2 := perN_mul h
  refine ⟨perN_anti h hxy, h1.1, h1.2, perN_one, fun hx => ⟨h2.1, ?_, h2.2, Int.mul_nonneg (by omega) (by omega)⟩⟩
  exact Int.le_trans (Int.mul_le_mul h1.2 hx (by omega) (by omega)) (by decide)

set_option maxHeartbeats 4000000 in
theorem pers_walk (a b : Int) (W : World) :
    Calls Try.prog 7 #[.int .i64 a, .int .i64 b] W fun e w' => e = .returned (.bool true) ∧ Below W.heap.size W w' := by
  obtain ⟨x, hx⟩ : ∃ x, (if b < a then b else a) = x := ⟨_, rfl⟩
  obtain ⟨y, hy⟩ : ∃ y, (if a < b then b else a) = y := ⟨_, rfl⟩
  have hxy : x ≤ y := by rw [← hx, ← hy]; split <;> split <;> omega
  by_cases h : x < 1
  · have HZ : Hid (perN x = 0) := perN_no h
    go_enter Try.func7, Try.ntmps7
    go_wp2_with fail
    refine (awake_calls _).mono ?_
    rintro x1 w1 ⟨rfl, b1⟩
    go_wp2_with fail
    refine (per_calls x _).mono ?_
    rintro x2 w2 ⟨rfl, rfl⟩
    rw [HZ.out]
    go_wp2
    go_ret
    exact ⟨rfl, b1⟩
  · obtain ⟨f1, f2, f3, f4, f5⟩ := pers_facts (show 1 ≤ x by omega) hxy
    obtain ⟨n, hn⟩ : ∃ n, perN x = n := ⟨_, rfl⟩
    obtain ⟨m, hm⟩ : ∃ m, perN y = m := ⟨_, rfl⟩
    have HN : Hid (perN x = n) := hn
    have HM : Hid (perN y = m) := hm
    rw [hn] at f1 f2 f3 f4 f5
    rw [hm] at f1
    clear hn hm
    by_cases hb : 1048576 < x
    · obtain rfl := f4 hb
      clear f4 f5
      go_enter Try.func7, Try.ntmps7
      go_wp2_with fail
      refine (awake_calls _).mono ?_
      rintro x1 w1 ⟨rfl, b1⟩
      go_wp2_with fail
      refine (per_calls x _).mono ?_
      rintro x2 w2 ⟨rfl, rfl⟩
      rw [HN.out]
      go_wp2_with fail
      refine (per_calls y _).mono ?_
      rintro x2 w2 ⟨rfl, rfl⟩
      rw [HM.out]
      go_wp2
      go_ret
      exact ⟨rfl, b1⟩
    · obtain ⟨g1, g2, g3, g4⟩ := f5 (by omega)
      obtain ⟨u, hu⟩ : ∃ u, n * x = u := ⟨_, rfl⟩
      obtain ⟨v, hv⟩ : ∃ v, (n - 1) * x = v := ⟨_, rfl⟩
      rw [hu] at g1 g2
      rw [hv] at g3 g4
      clear f4 f5
      go_enter Try.func7, Try.ntmps7
      go_wp2_with fail
      refine (awake_calls _).mono ?_
      rintro x1 w1 ⟨rfl, b1⟩
      go_wp2_with fail
      refine (per_calls x _).mono ?_
      rintro x2 w2 ⟨rfl, rfl⟩
      rw [HN.out]
      go_wp2_with fail
      refine (per_calls y _).mono ?_
      rintro x2 w2 ⟨rfl, rfl⟩
      rw [HM.out]
      go_wp2
      go_ret
      exact ⟨rfl, b1⟩
end Go.Proofs.Ythmcnllkngheoaa
