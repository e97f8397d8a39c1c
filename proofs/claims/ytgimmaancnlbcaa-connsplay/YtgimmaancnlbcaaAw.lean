/- Proved here: awake answers true. No condition. -/
import Derived.Test.YtgimmaancnlbcaaFr
namespace Go.Proofs.Ytgimmaancnlbcaa
set_option linter.unusedSimpArgs false
set_option linter.unusedVariables false
open Go.RowKit Go.Shelf

/-- A table that was made from n on stays there when it is put into, or dropped from. -/
theorem But.own {r n : Nat} {w w1 w' : World} (b : Below n w w1) (hr : n ≤ r) (h : But r w1.heap.size w1 w') (hn : n ≤ w.heap.size) : Below n w w' :=
  b.trans (h.below (Nat.le_trans hn b.size) hr)

set_option maxHeartbeats 2000000 in
theorem awake_calls (w : World) : Calls Try.prog 9 #[] w fun e w' => e = .returned (.bool true) ∧ Below w.heap.size w w' := by
  have R2 : roomN 2 = 2 := by decide
  obtain ⟨L1, h1⟩ : ∃ L1, putL [] 2 ((1, 0, 32), 7) = L1 := ⟨_, rfl⟩
  obtain ⟨L2, h2⟩ : ∃ L2, putL L1 2 ((0, 9, 40), 8) = L2 := ⟨_, rfl⟩
  have E1 : Hid (putE [] 2 (1, 0, 32) = 0) := by show _ = _; decide
  have E2 : Hid (putE L1 2 (0, 9, 40) = 0) := by show _ = _; subst h1; decide
  have E3 : Hid (getN L2 (1, 0, 32) = 7 ∧ getB L2 (1, 0, 32) = true) := by show _ ∧ _; subst h2 h1; decide
  have E4 : Hid ((L2.length : Int) = 2) := by show _ = _; subst h2 h1; decide
  have E5 : Hid (putE L2 2 (0, 0, 0) = 9) := by show _ = _; subst h2 h1; decide
  have H1 : Hid (putL [] 2 ((1, 0, 32), 7) = L1) := h1
  have H2 : Hid (putL L1 2 ((0, 9, 40), 8) = L2) := h2
  clear h1 h2
  go_enter Try.func9, Try.ntmps9
  go_wp2_with fail
  refine (new_calls 2 _).mono ?_
  rintro e w0 ⟨rfl, T0, b0⟩
  rw [R2] at T0
  clear R2
  go_wp2_with fail
  refine (put_calls T0 (1, 0, 32) 7).mono ?_
  rintro e w1 ⟨rfl, T1, q1⟩
  rw [E1.out]
  rw [H1.out] at T1
  have B1 := But.own b0 (Nat.le_refl _) q1 (Nat.le_refl _)
  clear T0 b0 q1
  go_wp2_with fail
  refine (put_calls T1 (0, 9, 40) 8).mono ?_
  rintro e w2 ⟨rfl, T2, q2⟩
  rw [E2.out]
  rw [H2.out] at T2
  have B2 := But.own B1 (Nat.le_refl _) q2 (Nat.le_refl _)
  clear T1 B1 q2
  go_wp2_with fail
  refine (get_calls T2 (1, 0, 32)).mono ?_
  rintro e w3 ⟨rfl, b3⟩
  rw [E3.out.1, E3.out.2]
  have T3 := T2.below b3 T2.lt
  have B3 := B2.trans (b3.mono B2.size)
  clear T2 B2 b3
  go_wp2_with fail
  refine (len_calls T3).mono ?_
  rintro e w4 ⟨rfl, e4⟩
  rw [e4, E4.out]
  clear e4
  go_wp2_with fail
  refine (put_calls T3 (0, 0, 0) 1).mono ?_
  rintro e w5 ⟨rfl, T5, q5⟩
  rw [E5.out]
  have B5 := But.own B3 (Nat.le_refl _) q5 (Nat.le_refl _)
  go_wp2
  go_ret
  exact ⟨rfl, B5⟩
end Go.Proofs.Ytgimmaancnlbcaa
