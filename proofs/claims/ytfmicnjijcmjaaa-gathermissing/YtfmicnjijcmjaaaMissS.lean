/- Proved here: what GatherMissing answers where it looks at nothing. Conditions: as each theorem states them. -/
import Derived.Test.YtfmicnjijcmjaaaLateS
import Derived.Test.YtfmicnjijcmjaaaCt
namespace Go.Proofs.Ytfmicnjijcmjaaa
set_option linter.unusedSimpArgs false
set_option linter.unusedVariables false
open Go.RowKit Go.Shelf
attribute [local go_sem] Oper.semAt_some

set_option maxHeartbeats 2000000 in
set_option maxRecDepth 20000 in
theorem miss_skip (a : Option Addr) (la ca : Nat) (b : Option Addr) (lb cb : Nat) (cut : Int) (w : World) (h : ¬ (88 < la ∧ la ≤ 900 ∧ 0 < lb ∧ lb ≤ 1000)) :
    Calls Try.prog 6 #[.slice a la ca, .slice b lb cb, .int .u8 cut] w fun e w' => e = .returned (.bool true) ∧ Below w.heap.size w w' := by
  obtain ⟨M0, B0, _⟩ := late_boxes w b lb cb
  by_cases q1 : 900 < la
  · have d1 : decide (900 < (la : Int)) = true := by simp; omega
    clear h q1
    go_enter Try.func6, Try.ntmps6
    go_wp2_with fail
    generalize (w.alloc (.cells #[.slice b lb cb] 32)).alloc (.cells #[.bool false] 4) = W0 at *
    refine (awake_calls _).mono ?_
    rintro e w1 ⟨rfl, b1⟩
    have M1 := M0.below b1 (Nat.le_refl _)
    have B1 := B0.trans (b1.mono B0.size)
    have kb := M1 (w.heap.size, .slice b lb cb, 32) (by simp)
    have c0 := kb.cell 0 _ rfl
    go_wp2_with fail
    refine (awake_calls _).mono ?_
    rintro e w2 ⟨rfl, b2⟩
    have kr := (M1.below b2 (Nat.le_refl _)) (w.heap.size + 1, .bool false, 4) (by simp)
    have B2 := B1.trans (b2.mono B1.size)
    have c2 := kr.cell 0 _ rfl
    have f2 := kr.frozen 0
    have c3 := (kr.set 0 (.bool true)).cell 0 (.bool true) rfl
    clear kb c0 b1 b2 B0 B1 M0 M1
    go_wp2
    refine bodyPost_ret (v := .bool true) (by simp [results, Try.results6, go_sem, c3]) rfl ?_
    exact ⟨rfl, B2.setCell (p := ⟨w.heap.size + 1, 0, none⟩) (by show w.heap.size ≤ w.heap.size + 1; omega) _⟩
  by_cases q2 : 1000 < lb
  · have d1 : decide (900 < (la : Int)) = false := by simp; omega
    have d2 : decide (1000 < (lb : Int)) = true := by simp; omega
    clear h q1 q2
    go_enter Try.func6, Try.ntmps6
    go_wp2_with fail
    generalize (w.alloc (.cells #[.slice b lb cb] 32)).alloc (.cells #[.bool false] 4) = W0 at *
    refine (awake_calls _).mono ?_
    rintro e w1 ⟨rfl, b1⟩
    have M1 := M0.below b1 (Nat.le_refl _)
    have B1 := B0.trans (b1.mono B0.size)
    have kb := M1 (w.heap.size, .slice b lb cb, 32) (by simp)
    have c0 := kb.cell 0 _ rfl
    go_wp2_with fail
    refine (awake_calls _).mono ?_
    rintro e w2 ⟨rfl, b2⟩
    have kr := (M1.below b2 (Nat.le_refl _)) (w.heap.size + 1, .bool false, 4) (by simp)
    have B2 := B1.trans (b2.mono B1.size)
    have c2 := kr.cell 0 _ rfl
    have f2 := kr.frozen 0
    have c3 := (kr.set 0 (.bool true)).cell 0 (.bool true) rfl
    clear kb c0 b1 b2 B0 B1 M0 M1
    go_wp2
    refine bodyPost_ret (v := .bool true) (by simp [results, Try.results6, go_sem, c3]) rfl ?_
    exact ⟨rfl, B2.setCell (p := ⟨w.heap.size + 1, 0, none⟩) (by show w.heap.size ≤ w.heap.size + 1; omega) _⟩
  by_cases q3 : la ≤ 88
  · have d1 : decide (900 < (la : Int)) = false := by simp; omega
    have d2 : decide (1000 < (lb : Int)) = false := by simp; omega
    have d3 : decide ((la : Int) ≤ 88) = true := by simp; omega
    clear h q1 q2 q3
    go_enter Try.func6, Try.ntmps6
    go_wp2_with fail
    generalize (w.alloc (.cells #[.slice b lb cb] 32)).alloc (.cells #[.bool false] 4) = W0 at *
    refine (awake_calls _).mono ?_
    rintro e w1 ⟨rfl, b1⟩
    have M1 := M0.below b1 (Nat.le_refl _)
    have B1 := B0.trans (b1.mono B0.size)
    have kb := M1 (w.heap.size, .slice b lb cb, 32) (by simp)
    have c0 := kb.cell 0 _ rfl
    go_wp2_with fail
    refine (awake_calls _).mono ?_
    rintro e w2 ⟨rfl, b2⟩
    have kr := (M1.below b2 (Nat.le_refl _)) (w.heap.size + 1, .bool false, 4) (by simp)
    have B2 := B1.trans (b2.mono B1.size)
    have c2 := kr.cell 0 _ rfl
    have f2 := kr.frozen 0
    have c3 := (kr.set 0 (.bool true)).cell 0 (.bool true) rfl
    clear kb c0 b1 b2 B0 B1 M0 M1
    go_wp2
    refine bodyPost_ret (v := .bool true) (by simp [results, Try.results6, go_sem, c3]) rfl ?_
    exact ⟨rfl, B2.setCell (p := ⟨w.heap.size + 1, 0, none⟩) (by show w.heap.size ≤ w.heap.size + 1; omega) _⟩
  · have d1 : decide (900 < (la : Int)) = false := by simp; omega
    have d2 : decide (1000 < (lb : Int)) = false := by simp; omega
    have d3 : decide ((la : Int) ≤ 88) = false := by simp; omega
    have d4 : ((lb : Int) == 0) = true := by rw [beq_iff_eq]; omega
    clear h q1 q2 q3
    go_enter Try.func6, Try.ntmps6
    go_wp2_with fail
    generalize (w.alloc (.cells #[.slice b lb cb] 32)).alloc (.cells #[.bool false] 4) = W0 at *
    refine (awake_calls _).mono ?_
    rintro e w1 ⟨rfl, b1⟩
    have M1 := M0.below b1 (Nat.le_refl _)
    have B1 := B0.trans (b1.mono B0.size)
    have kb := M1 (w.heap.size, .slice b lb cb, 32) (by simp)
    have c0 := kb.cell 0 _ rfl
    go_wp2_with fail
    refine (awake_calls _).mono ?_
    rintro e w2 ⟨rfl, b2⟩
    have kr := (M1.below b2 (Nat.le_refl _)) (w.heap.size + 1, .bool false, 4) (by simp)
    have B2 := B1.trans (b2.mono B1.size)
    have c2 := kr.cell 0 _ rfl
    have f2 := kr.frozen 0
    have c3 := (kr.set 0 (.bool true)).cell 0 (.bool true) rfl
    clear kb c0 b1 b2 B0 B1 M0 M1
    go_wp2
    refine bodyPost_ret (v := .bool true) (by simp [results, Try.results6, go_sem, c3]) rfl ?_
    exact ⟨rfl, B2.setCell (p := ⟨w.heap.size + 1, 0, none⟩) (by show w.heap.size ≤ w.heap.size + 1; omega) _⟩
end Go.Proofs.Ytfmicnjijcmjaaa
