/- Proved here: the law's own awake answers true. Conditions: as each theorem states them. -/
import Derived.Test.YthmcnllkngheoaaNd
namespace Go.Proofs.Ythmcnllkngheoaa
set_option linter.unusedSimpArgs false
set_option linter.unusedVariables false
open Go.RowKit Go.Shelf

set_option maxHeartbeats 1000000 in
theorem awake_calls (W : World) : Calls Try.prog 10 #[] W fun e w' => e = .returned (.bool true) ∧ Below W.heap.size W w' := by
  go_enter Try.func10, Try.ntmps10
  go_wp2_with fail
  refine (per_calls 1000 _).mono ?_
  rintro x w1 ⟨rfl, rfl⟩
  rw [show perN 1000 = 1049 by decide]
  go_wp2_with fail
  refine (need_calls 2 1000 0 10000 4096 0 _).mono ?_
  rintro x w1 ⟨rfl, b1⟩
  rw [show needN 2 1000 0 10000 4096 0 = 577 by decide]
  go_wp2
  go_ret
  exact ⟨rfl, b1⟩
end Go.Proofs.Ythmcnllkngheoaa
