/- Proved here: the law's own awake answers true. Conditions: as each theorem states them. -/
import Derived.Test.YtkndejpklibkfaaTake
namespace Go.Proofs.Ytkndejpklibkfaa
set_option linter.unusedSimpArgs false
set_option linter.unusedVariables false
open Go.RowKit

theorem fitN_true {e T t : Int} (h : T - hM e ≤ hM t) : fitN e T t = true := decide_eq_true h
theorem fitN_false {e T t : Int} (h : hM t < T - hM e) : fitN e T t = false := decide_eq_false (by omega)

set_option maxHeartbeats 1000000 in
theorem awake_calls (w : World) : Calls Try.prog 9 #[] w fun e w' => e = .returned (.bool true) ∧ Below w.heap.size w w' := by
  go_enter Try.func9, Try.ntmps9
  go_wp2_with fail
  refine (new_calls 10 3 _).mono ?_
  rintro e w1 ⟨rfl, C1, b1⟩
  go_wp2_with fail
  refine (take_yes w.heap.size 10 3 0 0 _ C1 (by decide) (by decide) (by decide)).mono ?_
  rintro e w2 ⟨rfl, C2, b2⟩
  rw [show nextN 10 0 0 = 10 by decide] at C2
  have B2 : Below w.heap.size w w2 := b1.trans (b2.below b1.size (Nat.le_refl _))
  clear C1 b1 b2
  go_wp2_with fail
  refine (take_no w.heap.size 10 3 10 6 _ C2 (by decide) (by decide) (by decide)).mono ?_
  rintro e w3 ⟨rfl, b3⟩
  have C3 := C2.below b3 C2.lt
  have B3 := B2.trans (b3.mono B2.size)
  clear C2 b3 B2
  go_wp2_with fail
  refine (take_yes w.heap.size 10 3 10 7 _ C3 (by decide) (by decide) (by decide)).mono ?_
  rintro e w4 ⟨rfl, C4, b4⟩
  rw [show nextN 10 10 7 = 20 by decide] at C4
  have B4 := B3.trans (b4.below B3.size (Nat.le_refl _))
  clear C3 b4 B3
  go_wp2_with fail
  refine (due_calls w.heap.size 10 3 20 _ C4 (by decide) (by decide)).mono ?_
  rintro e w5 ⟨rfl, b5⟩
  rw [show max 0 (20 - hM 3) = 17 by decide]
  have C5 := C4.below b5 C4.lt
  have B5 := B4.trans (b5.mono B4.size)
  clear C4 b5 B4
  go_wp2_with fail
  refine (level_calls w.heap.size 10 3 20 18 _ C5 (by decide) (by decide)).mono ?_
  rintro e w6 ⟨rfl, b6⟩
  rw [show max 0 (20 - hM 18) = 2 by decide]
  have B6 := B5.trans (b6.mono B5.size)
  clear C5 b6 B5
  go_wp2
  go_ret
  exact ⟨rfl, B6⟩
end Go.Proofs.Ytkndejpklibkfaa
