/- Proved here: the walk of ContractRules. Conditions: as each theorem states them. -/
import Derived.Test.YtelbfjjilccpbaaAwake
import Derived.BigQuiet
import Derived.Deep.QuietTactic
namespace Go.Proofs.Ytelbfjjilccpbaa
set_option linter.unusedSimpArgs false
set_option linter.unusedVariables false
open Go.RowKit Go.Shelf

theorem below_drewN {n k : Nat} {a w : World} (h : Below n a w) : Below n a (w.drewN k) := ⟨h.os, h.tape, h.output, h.size, h.block⟩

set_option maxHeartbeats 2000000 in
theorem rules_walk_no (k p e w b l : Int) (W : World) (ho : okB k p e w b l = false) :
    Calls Try.prog 4 #[cV k p e w b l] W fun e w' => e = .returned (.bool true) ∧ Below W.heap.size W w' := by
  have H : Hid (okB k p e w b l = false) := ho
  have C0 := cc_new W k p e w b l
  clear ho
  go_enter Try.func4, Try.ntmps4
  go_wp2_with fail
  refine (awake_calls _).mono ?_
  rintro x w1 ⟨rfl, b1⟩
  have C1 := C0.below b1 C0.lt
  have B1 := below_box2 b1
  obtain ⟨c0, c1, c2, c3, c4, c5⟩ := C1.facts
  clear C0 b1
  go_wp2_with fail
  refine (rules_no _ _ _ _ _ _ H.out _).mono ?_
  rintro x w2 ⟨rfl, b2⟩
  have C2 := C1.below b2 C1.lt
  have B2 := B1.trans (b2.mono B1.size)
  clear c0 c1 c2 c3 c4 c5 C1 B1 b2
  obtain ⟨c0, c1, c2, c3, c4, c5⟩ := C2.facts
  go_wp2_with fail
  refine (right_no H.out _).mono ?_
  rintro x w3 ⟨E, rfl, hE, b3⟩
  have C3 := C2.below b3 C2.lt
  have B3 := B2.trans (b3.mono B2.size)
  have hE2 : (E != 0) = true := by rcases hE with rfl | rfl <;> rfl
  clear c0 c1 c2 c3 c4 c5 C2 B2 b3 hE
  obtain ⟨c0, c1, c2, c3, c4, c5⟩ := C3.facts
  go_wp2_with fail
  refine (always_calls k p e w b l _).mono ?_
  rintro x w4 ⟨rfl, b4⟩
  rw [H.out, Bool.and_false]
  have C4 := C3.below b4 C3.lt
  have B4 := B3.trans (b4.mono B3.size)
  clear c0 c1 c2 c3 c4 c5 C3 B3 b4
  obtain ⟨c0, c1, c2, c3, c4, c5⟩ := C4.facts
  go_wp2_with fail
  refine (most_no k p e w b l H.out _).mono ?_
  rintro x w5 ⟨rfl, b5⟩
  have B5 := B4.trans (b5.mono B4.size)
  go_wp2
  go_ret
  exact ⟨rfl, B5⟩

set_option maxHeartbeats 2000000 in
theorem rules_walk_one (k p e w b l : Int) (W : World) (ho : okB k p e w b l = true) (hv : vbrB k = false) :
    Calls Try.prog 4 #[cV k p e w b l] W fun e w' => e = .returned (.bool true) ∧ Below W.heap.size W w' := by
  have H : Hid (okB k p e w b l = true) := ho
  have HV : Hid (vbrB k = false) := hv
  have C0 := cc_new W k p e w b l
  clear ho hv
  go_enter Try.func4, Try.ntmps4
  go_wp2_with fail
  refine (awake_calls _).mono ?_
  rintro x w1 ⟨rfl, b1⟩
  have C1 := C0.below b1 C0.lt
  have B1 := below_box2 b1
  obtain ⟨c0, c1, c2, c3, c4, c5⟩ := C1.facts
  clear C0 b1
  go_wp2_with fail
  refine (rules_one _ _ _ _ _ _ H.out HV.out _).mono ?_
  rintro x w2 ⟨g, rfl, hg1, hg2, hr, b2⟩
  have C2 := C1.below b2 C1.lt
  have B2 := B1.trans (b2.mono B1.size)
  clear c0 c1 c2 c3 c4 c5 C1 B1 b2
  obtain ⟨c0, c1, c2, c3, c4, c5⟩ := C2.facts
  go_wp2_with fail
  refine (right_ok H.out _).mono ?_
  rintro x w3 ⟨rfl, b3⟩
  have C3 := C2.below b3 C2.lt
  have B3 := B2.trans (b3.mono B2.size)
  have R3 := hr.below b3 hg2
  clear c0 c1 c2 c3 c4 c5 C2 B2 b3 hr
  obtain ⟨c0, c1, c2, c3, c4, c5⟩ := C3.facts
  obtain ⟨r0, r1, r2, r3⟩ := R3
  go_wp2
  go_quiet (fail)
  go_wp2
  go_quiet (fail)
  go_wp2
  go_ret
  exact ⟨rfl, below_drewN (below_drewN B3)⟩

set_option maxHeartbeats 2000000 in
theorem rules_walk_two (k p e w b l : Int) (W : World) (ho : okB k p e w b l = true) (hv : vbrB k = true) :
    Calls Try.prog 4 #[cV k p e w b l] W fun e w' => e = .returned (.bool true) ∧ Below W.heap.size W w' := by
  have H : Hid (okB k p e w b l = true) := ho
  have HV : Hid (vbrB k = true) := hv
  have C0 := cc_new W k p e w b l
  have hpw : p ≤ w ∧ 0 ≤ b := by have := (canB_vbr hv).1 (okB_iff.1 ho).2; omega
  have q1 : decide (p ≤ w) = true := by simp; omega
  have q2 : decide (e ≤ b + e) = true := by simp; omega
  have q3 : (zeroB k || !tagB k) = true := by
    have := vbrB_iff.1 hv
    simp only [zeroB, tagB, Bool.or_eq_true, decide_eq_true_eq, Bool.not_eq_true', decide_eq_false_iff_not]
    omega
  clear ho hv hpw
  go_enter Try.func4, Try.ntmps4
  go_wp2_with fail
  refine (awake_calls _).mono ?_
  rintro x w1 ⟨rfl, b1⟩
  have C1 := C0.below b1 C0.lt
  have B1 := below_box2 b1
  obtain ⟨c0, c1, c2, c3, c4, c5⟩ := C1.facts
  clear C0 b1
  go_wp2_with fail
  refine (rules_two _ _ _ _ _ _ H.out HV.out _).mono ?_
  rintro x w2 ⟨g, c, rfl, hg1, hg2, hr, hs, b2⟩
  generalize zeroB k = zb at hs q3
  generalize tagB k = tb at hs q3
  have C2 := C1.below b2 C1.lt
  have B2 := B1.trans (b2.mono B1.size)
  clear c0 c1 c2 c3 c4 c5 C1 B1 b2
  obtain ⟨c0, c1, c2, c3, c4, c5⟩ := C2.facts
  go_wp2_with fail
  refine (right_ok H.out _).mono ?_
  rintro x w3 ⟨rfl, b3⟩
  have C3 := C2.below b3 C2.lt
  have B3 := B2.trans (b3.mono B2.size)
  have R3 := hr.below b3 hg2
  have S3 := hs.below b3 hg2
  clear c0 c1 c2 c3 c4 c5 C2 B2 b3 hr hs
  obtain ⟨c0, c1, c2, c3, c4, c5⟩ := C3.facts
  obtain ⟨r0, r1, r2, r3⟩ := R3
  obtain ⟨s0, s1, s2, s3⟩ := S3
  cases zb <;> cases tb
  · go_wp2
    go_quiet (fail)
    go_wp2
    go_quiet (fail)
    go_wp2
    go_ret
    exact ⟨rfl, below_drewN (below_drewN B3)⟩
  · cases q3
  · go_wp2
    go_quiet (fail)
    go_wp2
    go_quiet (fail)
    go_wp2
    go_ret
    exact ⟨rfl, below_drewN (below_drewN B3)⟩
  · go_wp2
    go_quiet (fail)
    go_wp2
    go_quiet (fail)
    go_wp2
    go_ret
    exact ⟨rfl, below_drewN (below_drewN B3)⟩

theorem rules_walk (k p e w b l : Int) (W : World) :
    Calls Try.prog 4 #[cV k p e w b l] W fun e w' => e = .returned (.bool true) ∧ Below W.heap.size W w' := by
  cases ho : okB k p e w b l
  · exact rules_walk_no k p e w b l W ho
  · cases hv : vbrB k
    · exact rules_walk_one k p e w b l W ho hv
    · exact rules_walk_two k p e w b l W ho hv
end Go.Proofs.Ytelbfjjilccpbaa
