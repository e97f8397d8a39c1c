/- Proved here: awake answers true, and what the functions of a nil Shaper answer. Conditions: as each theorem states them. -/
import Derived.Test.YtcenipihbmifpaaSW
namespace Go.Proofs.Ytcenipihbmifpaa
set_option linter.unusedSimpArgs false
set_option linter.unusedVariables false
open Go.RowKit Go.Shelf

theorem sset_nil (t st : Int) (w : World) : Calls Try.prog 12 #[.pointer none, .int .i64 t, .int .i64 st] w fun e w' => e = .returned (.int .i64 9) ∧ w' = w := by
  go_enter Try.func12, Try.ntmps12
  go_wp2
  go_ret
  exact ⟨rfl, rfl⟩
theorem stake_nil (t : Int) (w : World) : Calls Try.prog 14 #[.pointer none, .int .i64 t] w fun e w' => e = .returned (.bool false) ∧ w' = w := by
  go_enter Try.func14, Try.ntmps14
  go_wp2
  go_ret
  exact ⟨rfl, rfl⟩
theorem sstep_nil (t : Int) (w : World) : Calls Try.prog 18 #[.pointer none, .int .i64 t] w fun e w' => e = .returned (.int .i64 0) ∧ w' = w := by
  go_enter Try.func18, Try.ntmps18
  go_wp2
  go_ret
  exact ⟨rfl, rfl⟩
theorem swait_nil (w : World) : Calls Try.prog 17 #[.pointer none] w fun e w' => e = .returned (.int .i64 0) ∧ w' = w := by
  go_enter Try.func17, Try.ntmps17
  go_wp2
  go_ret
  exact ⟨rfl, rfl⟩

/-- What is made from n on stays there. -/
theorem ft_new {F F' : Nat → Prop} {n : Nat} {w w1 w2 : World} (b : Below n w w1) (hF : ∀ k, F k → n ≤ k) (hn : n ≤ w.heap.size) (h : Ft F F' w1 w2) : Below n w w2 ∧ ∀ k, F' k → n ≤ k :=
  ⟨b.trans (h.below hF (Nat.le_trans hn b.size)), h.from hF (Nat.le_trans hn b.size)⟩

set_option maxHeartbeats 1000000 in
theorem awake_calls (w : World) : Calls Try.prog 9 #[] w fun e w' => e = .returned (.bool true) ∧ Below w.heap.size w w' := by
  obtain ⟨S0, hS0⟩ : ∃ S0, S0 = Sh.mk0 10 0 5 2 := ⟨_, rfl⟩
  obtain ⟨S1, hS1⟩ : ∃ S1, S1 = S0.set (hM 0) (hS 4) := ⟨_, rfl⟩
  obtain ⟨S2, hS2⟩ : ∃ S2, S2 = S1.set (hM 0) (hS 9) := ⟨_, rfl⟩
  obtain ⟨S3, hS3⟩ : ∃ S3, S3 = S2.take (hM 3) := ⟨_, rfl⟩
  have E1 : Hid (S0.setE (hM 0) = 0) := by subst hS0; show _ = _; decide
  have E2 : Hid (S1.setE (hM 0) = 0) := by subst hS1 hS0; show _ = _; decide
  have E3 : Hid (stN S2.s S2.L (hM 1) = 10) := by subst hS2 hS1 hS0; show _ = _; decide
  have E4 : Hid (stN S2.s S2.L (hM 2) = 4) := by subst hS2 hS1 hS0; show _ = _; decide
  have E5 : Hid (stN S2.s S2.L (hM 5) = 9) := by subst hS2 hS1 hS0; show _ = _; decide
  have E6 : Hid ((S2.L.length : Int) = 2) := by subst hS2 hS1 hS0; show _ = _; decide
  have E7 : Hid (S2.fit (hM 3) = true) := by subst hS2 hS1 hS0; show _ = _; decide
  have E8 : Hid (S3.fit (hM 4) = false) := by subst hS3 hS2 hS1 hS0; show _ = _; decide
  go_enter Try.func9, Try.ntmps9
  go_wp2_with fail
  refine (snew_calls 10 0 5 2 _).mono ?_
  rintro e w0 ⟨rfl, h0, b0⟩
  rw [← hS0] at h0
  go_wp2_with fail
  refine (sset_calls h0 0 4).mono ?_
  rintro e w1 ⟨rfl, F1, h1, g1⟩
  have ⟨b1, n1⟩ := ft_new b0 (fun k e => by omega) (Nat.le_refl _) g1
  rw [← hS1] at h1
  rw [E1.out]
  clear h0 b0 g1
  go_wp2_with fail
  refine (sset_calls h1 0 9).mono ?_
  rintro e w2 ⟨rfl, F2, h2, g2⟩
  have ⟨b2, n2⟩ := ft_new b1 n1 (Nat.le_refl _) g2
  rw [← hS2] at h2
  rw [E2.out]
  clear h1 b1 g2 n1
  go_wp2_with fail
  refine (sstep_calls h2 1).mono ?_
  rintro e w3 ⟨rfl, b3⟩
  rw [E3.out]
  have h3 := h2.below b3 (Nat.le_refl _)
  have B3 := b2.trans (b3.mono b2.size)
  clear h2 b2 b3
  go_wp2_with fail
  refine (sstep_calls h3 2).mono ?_
  rintro e w4 ⟨rfl, b4⟩
  rw [E4.out]
  have h4 := h3.below b4 (Nat.le_refl _)
  have B4 := B3.trans (b4.mono B3.size)
  clear h3 B3 b4
  go_wp2_with fail
  refine (sstep_calls h4 5).mono ?_
  rintro e w5 ⟨rfl, b5⟩
  rw [E5.out]
  have h5 := h4.below b5 (Nat.le_refl _)
  have B5 := B4.trans (b5.mono B4.size)
  clear h4 B4 b5
  go_wp2_with fail
  refine (swait_calls h5).mono ?_
  rintro e w6 ⟨rfl, rfl⟩
  rw [E6.out]
  go_wp2_with fail
  refine (stake_calls h5 3).mono ?_
  rintro e w7 ⟨rfl, h7, g7⟩
  have ⟨b7, n7⟩ := ft_new B5 n2 (Nat.le_refl _) g7
  rw [← hS3] at h7
  rw [E7.out]
  clear h5 B5 g7 n2
  go_wp2_with fail
  refine (stake_calls h7 4).mono ?_
  rintro e w8 ⟨rfl, h8, g8⟩
  have ⟨b8, n8⟩ := ft_new b7 n7 (Nat.le_refl _) g8
  rw [E8.out]
  clear h7 b7 g8 n7 h8
  go_wp2
  go_ret
  exact ⟨rfl, b8⟩
end Go.Proofs.Ytcenipihbmifpaa
