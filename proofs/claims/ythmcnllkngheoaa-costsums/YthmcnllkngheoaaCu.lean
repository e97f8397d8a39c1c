/- Proved here: what cost.cutUp, cost.Per, cost.between and the document's up and Per answer. Conditions: as each theorem states them. -/
import Derived.Test.YthmcnllkngheoaaPl
namespace Go.Proofs.Ythmcnllkngheoaa
set_option linter.unusedSimpArgs false
set_option linter.unusedVariables false
open Go.RowKit Go.Shelf

theorem up_parts {x b : Int} (hx : 0 ≤ x) (hb : 1 ≤ b) : 0 ≤ x.tdiv b ∧ x.tdiv b ≤ x ∧ 0 ≤ x.tmod b := by
  rw [Int.tdiv_eq_ediv_of_nonneg hx, Int.tmod_eq_emod_of_nonneg hx]
  exact ⟨Int.ediv_nonneg hx (by omega), Int.ediv_le_self _ hx, Int.emod_nonneg _ (by omega)⟩

set_option maxHeartbeats 1000000 in
theorem cutUp_calls (x b : Int) (hx : 0 ≤ x) (hx1 : x ≤ 2305843009213693952) (hb : 1 ≤ b) (w : World) : Calls Try.prog 21 #[.int .i64 x, .int .i64 b] w fun e w' => e = .returned (.int .i64 (upN x b)) ∧ w' = w := by
  obtain ⟨q0, q1, r0⟩ := up_parts hx hb
  unfold upN
  have hz : (b == 0) = false := beq_false_of_ne (by omega)
  obtain ⟨q, hq⟩ : ∃ q, x.tdiv b = q := ⟨_, rfl⟩
  obtain ⟨r, hr⟩ : ∃ r, x.tmod b = r := ⟨_, rfl⟩
  rw [hq] at q0 q1 ⊢
  rw [hr] at r0 ⊢
  cases h0 : (r == 0)
  · have hn : (r != 0) = true := by simp [bne, h0]
    go_enter Try.func21, Try.ntmps21
    go_wp2
    go_ret
    exact ⟨rfl, rfl⟩
  · have hn : (r != 0) = false := by simp [bne, h0]
    go_enter Try.func21, Try.ntmps21
    go_wp2
    go_ret
    exact ⟨ret_i (by simp), rfl⟩

set_option maxHeartbeats 1000000 in
theorem refup_calls (x b : Int) (hx : 0 ≤ x) (hx1 : x ≤ 2305843009213693952) (hb : 1 ≤ b) (w : World) : Calls Try.prog 20 #[.int .i64 x, .int .i64 b] w fun e w' => e = .returned (.int .i64 (upN x b)) ∧ w' = w := by
  obtain ⟨q0, q1, r0⟩ := up_parts hx hb
  unfold upN
  have hz : (b == 0) = false := beq_false_of_ne (by omega)
  obtain ⟨q, hq⟩ : ∃ q, x.tdiv b = q := ⟨_, rfl⟩
  obtain ⟨r, hr⟩ : ∃ r, x.tmod b = r := ⟨_, rfl⟩
  rw [hq] at q0 q1 ⊢
  rw [hr] at r0 ⊢
  cases h0 : (r == 0)
  · have hn : decide (r > 0) = true := by simp at h0 ⊢; omega
    have hn' : 0 < r := by simpa using hn
    go_enter Try.func20, Try.ntmps20
    go_wp2
    go_ret
    exact ⟨rfl, rfl⟩
  · obtain rfl : r = 0 := by simpa using h0
    go_enter Try.func20, Try.ntmps20
    go_wp2
    go_ret
    exact ⟨ret_i (by simp), rfl⟩

set_option maxHeartbeats 1000000 in
theorem per_calls (s : Int) (w : World) : Calls Try.prog 13 #[.int .i64 s] w fun e w' => e = .returned (.int .i64 (perN s)) ∧ w' = w := by
  by_cases h : s < 1
  · rw [perN_no h]
    go_enter Try.func13, Try.ntmps13
    go_wp2
    go_ret
    exact ⟨rfl, rfl⟩
  · rw [perN_yes (by omega)]
    go_enter Try.func13, Try.ntmps13
    go_wp2_with fail
    refine (cutUp_calls 1048576 s (by decide) (by decide) (by omega) _).mono ?_
    rintro x w1 ⟨rfl, rfl⟩
    go_wp2
    go_ret
    exact ⟨rfl, rfl⟩

set_option maxHeartbeats 1000000 in
theorem refper_calls (s : Int) (w : World) : Calls Try.prog 14 #[.int .i64 s] w fun e w' => e = .returned (.int .i64 (perN s)) ∧ w' = w := by
  by_cases h : s < 1
  · rw [perN_no h]
    go_enter Try.func14, Try.ntmps14
    go_wp2
    go_ret
    exact ⟨rfl, rfl⟩
  · rw [perN_yes (by omega)]
    go_enter Try.func14, Try.ntmps14
    go_wp2_with fail
    refine (refup_calls 1048576 s (by decide) (by decide) (by omega) _).mono ?_
    rintro x w1 ⟨rfl, rfl⟩
    go_wp2
    go_ret
    exact ⟨rfl, rfl⟩

theorem bet_arg {s p b : Int} (hs : 0 ≤ s) (hs1 : s ≤ 1048576) (hp : 0 ≤ p) (hp1 : p ≤ 1048576) (hb : 0 ≤ b) (hb1 : b ≤ 1099511627776) : 0 ≤ p * b ∧ p * b ≤ 1152921504606846976 :=
  ⟨Int.mul_nonneg hp hb, Int.le_trans (Int.mul_le_mul hp1 hb1 hb (by decide)) (by decide)⟩
set_option maxHeartbeats 1000000 in
theorem between_calls (s p b : Int) (hs : 0 ≤ s) (hs1 : s ≤ 1048576) (hp : 0 ≤ p) (hp1 : p ≤ 1048576) (hb : 0 ≤ b) (hb1 : b ≤ 1099511627776) (w : World) : Calls Try.prog 19 #[.int .i64 s, .int .i64 p, .int .i64 b] w fun e w' => e = .returned (.int .i64 (betN s p b)) ∧ w' = w := by
  obtain ⟨m0, m1⟩ := bet_arg hs hs1 hp hp1 hb hb1
  unfold betN
  obtain ⟨m, hm⟩ : ∃ m, p * b = m := ⟨_, rfl⟩
  rw [hm] at m0 m1 ⊢
  go_enter Try.func19, Try.ntmps19
  go_wp2_with fail
  refine (cutUp_calls (s * 4096 + m) (b + 4096) (by omega) (by omega) (by omega) _).mono ?_
  rintro x w1 ⟨rfl, rfl⟩
  go_wp2
  go_ret
  exact ⟨rfl, rfl⟩
end Go.Proofs.Ythmcnllkngheoaa
