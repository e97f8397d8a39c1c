/- Proved here: the law's own awake answers true. Conditions: as each theorem states them. -/
import Derived.Test.YtelbfjjilccpbaaRu
namespace Go.Proofs.Ytelbfjjilccpbaa
set_option linter.unusedSimpArgs false
set_option linter.unusedVariables false
open Go.RowKit Go.Shelf

theorem eql_rule (w : World) (s e s2 e2 : Int) (z t z2 t2 : Bool) :
    (binOp .eql 35 (.agg #[.int .i64 s, .int .i64 e, .bool z, .bool t]) (.agg #[.int .i64 s2, .int .i64 e2, .bool z2, .bool t2])).run Try.prog w = .ok (.bool ((s == s2) && ((e == e2) && ((z == z2) && (t == t2))))) w := by
  cases a : s == s2 <;> cases b : e == e2 <;> cases z <;> cases z2 <;> cases t <;> cases t2 <;> go_simp <;> simp [a, b]

set_option maxHeartbeats 2000000 in
theorem awake_calls (W : World) : Calls Try.prog 9 #[] W fun e w' => e = .returned (.bool true) ∧ Below W.heap.size W w' := by
  have C0 := cc_new W 4 2 1 10 40 0
  go_enter Try.func9, Try.ntmps9
  go_wp2_with fail
  refine (rules_two 4 2 1 10 40 0 (by decide) (by decide) _).mono ?_
  rintro x w1 ⟨g, c, rfl, hg1, hg2, hr, hs, b1⟩
  have C1 := C0.below b1 C0.lt
  have B1 := below_box2 b1
  obtain ⟨c0, c1, c2, c3, c4, c5⟩ := C1.facts
  obtain ⟨s0, s1, s2, s3⟩ := hs
  rw [show zeroB 4 = true by decide] at s2
  rw [show tagB 4 = true by decide] at s3
  rw [show (40 + 1 : Int) = 41 by decide] at s1
  have q : ∀ w : World, (binOp .eql 35 (.agg #[.int .i64 10, .int .i64 41, .bool true, .bool true]) (.agg #[.int .i64 10, .int .i64 41, .bool true, .bool true])).run Try.prog w = .ok (.bool true) w := fun w => eql_rule w 10 41 10 41 true true true true
  clear hr C0 b1
  go_wp2_with fail
  refine (most_calls 4 2 1 10 40 0 _).mono ?_
  rintro x w2 ⟨rfl, b2⟩
  rw [show mostN 4 2 1 10 40 0 = 6 by decide]
  have C2 := C1.below b2 C1.lt
  have B2 := B1.trans (b2.mono B1.size)
  clear c0 c1 c2 c3 c4 c5 s0 s1 s2 s3 C1 B1 b2 q hg1 hg2
  go_wp2_with fail
  refine (right_calls 0 0 0 0 0 0 _).mono ?_
  rintro x w3 ⟨rfl, b3⟩
  rw [show errN 0 0 0 0 0 0 = 12 by decide]
  have C3 := C2.below b3 C2.lt
  have B3 := B2.trans (b3.mono B2.size)
  obtain ⟨c0, c1, c2, c3, c4, c5⟩ := C3.facts
  clear C2 B2 b3
  go_wp2_with fail
  refine (fewer_calls 4 2 1 10 40 0 4 2 1 10 40 0 _).mono ?_
  rintro x w4 ⟨rfl, b4⟩
  rw [show fewB 4 2 1 10 40 0 4 2 1 10 40 0 = true by decide]
  have B4 := B3.trans (b4.mono B3.size)
  go_wp2
  go_ret
  exact ⟨rfl, B4⟩
end Go.Proofs.Ytelbfjjilccpbaa
