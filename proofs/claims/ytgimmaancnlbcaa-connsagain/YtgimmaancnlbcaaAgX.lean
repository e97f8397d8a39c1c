/- Proved here: ConnsAgain answers true. Conditions: as the theorem states them. -/
import Derived.Test.YtgimmaancnlbcaaAgW
namespace Go.Proofs.Ytgimmaancnlbcaa
set_option linter.unusedSimpArgs false
set_option linter.unusedVariables false
open Go.RowKit Go.Shelf

set_option maxHeartbeats 2000000 in
set_option maxRecDepth 20000 in
theorem again_walk (s1 s2 : Option Addr) (len1 cap1 len2 cap2 : Nat) (M1 M2 : List En) (w : World) (hL1 : IsE w.heap.size w s1 len1 M1) (hL2 : IsE w.heap.size w s2 len2 M2) :
    Calls Try.prog 8 #[.slice s1 len1 cap1, .slice s2 len2 cap2] w fun e w' => e = .returned (.bool true) ∧ Below w.heap.size w w' := by
  by_cases hl1 : 30 < len1
  · have q1 : decide (30 < (len1 : Int)) = true := by simp; omega
    clear hL1 hL2
    go_enter Try.func8, Try.ntmps8
    go_wp2_with fail
    refine (awake_calls _).mono ?_
    rintro e w1 ⟨rfl, b1⟩
    go_wp2_with fail
    refine (awake_calls _).mono ?_
    rintro e w2 ⟨rfl, b2⟩
    go_wp2
    go_ret
    exact ⟨rfl, b1.trans (b2.mono b1.size)⟩
  · by_cases hl2 : 30 < len2
    · have q1 : decide (30 < (len1 : Int)) = false := by simp; omega
      have q2 : decide (30 < (len2 : Int)) = true := by simp; omega
      clear hL1 hL2
      go_enter Try.func8, Try.ntmps8
      go_wp2_with fail
      refine (awake_calls _).mono ?_
      rintro e w1 ⟨rfl, b1⟩
      go_wp2_with fail
      refine (awake_calls _).mono ?_
      rintro e w2 ⟨rfl, b2⟩
      go_wp2
      go_ret
      exact ⟨rfl, b1.trans (b2.mono b1.size)⟩
    · exact callsIn_wide.1 (again_in s1 s2 len1 cap1 len2 cap2 M1 M2 (by omega) (by omega) w hL1 hL2)
end Go.Proofs.Ytgimmaancnlbcaa
