/- Proved here: the walk of GatherLate. Conditions: as each theorem states them. -/
import Derived.Test.YtfmicnjijcmjaaaFS
namespace Go.Proofs.Ytfmicnjijcmjaaa
set_option linter.unusedSimpArgs false
set_option linter.unusedVariables false
open Go.RowKit Go.Shelf
attribute [local go_sem] Oper.semAt_some

theorem late_boxes (w : World) (b : Option Addr) (lb cb : Nat) : BX [(w.heap.size, .slice b lb cb, 32), (w.heap.size + 1, .bool false, 4)] ((w.alloc (.cells #[.slice b lb cb] 32)).alloc (.cells #[.bool false] 4)) ∧
    Below w.heap.size w ((w.alloc (.cells #[.slice b lb cb] 32)).alloc (.cells #[.bool false] 4)) ∧ ((w.alloc (.cells #[.slice b lb cb] 32)).alloc (.cells #[.bool false] 4)).heap.size = w.heap.size + 2 := by
  have k2 := bk_new (w.alloc (.cells #[.slice b lb cb] 32)) #[.bool false] 4
  rw [World.size_alloc] at k2
  exact ⟨BX.cons ((bk_new w #[.slice b lb cb] 32).alloc _) (BX.cons k2 (BX.nil _)), ((Below.refl _ w).alloc (Nat.le_refl _) _).alloc (by simp) _, by simp⟩

set_option maxHeartbeats 2000000 in
set_option maxRecDepth 20000 in
theorem late_skip (a : Option Addr) (la ca : Nat) (b : Option Addr) (lb cb : Nat) (cut wt : Int) (tick : Bool) (w : World) (h : ¬ (40 < la ∧ la ≤ 1000 ∧ 0 < lb ∧ lb ≤ 1000)) :
    Calls Try.prog 5 #[.slice a la ca, .slice b lb cb, .int .u8 cut, .int .u16 wt, .bool tick] w fun e w' => e = .returned (.bool true) ∧ Below w.heap.size w w' := by
  obtain ⟨M0, B0, _⟩ := late_boxes w b lb cb
  by_cases q1 : 1000 < la
  · have d1 : decide (1000 < (la : Int)) = true := by simp; omega
    clear h q1
    go_enter Try.func5, Try.ntmps5
    go_wp2_with fail
    generalize (w.alloc (.cells #[.slice b lb cb] 32)).alloc (.cells #[.bool false] 4) = W0 at *
    refine (awake_calls _).mono ?_
    rintro e w1 ⟨rfl, b1⟩
    have M1 := M0.below b1 (Nat.le_refl _)
    have B1 := B0.trans (b1.mono B0.size)
    have kb := M1 (w.heap.size, .slice b lb cb, 32) (by simp)
    have c0 := kb.cell 0 _ rfl
    go_wp2_with fail
    refine (awake_calls _).mono ?_
    rintro e w2 ⟨rfl, b2⟩
    have kr := (M1.below b2 (Nat.le_refl _)) (w.heap.size + 1, .bool false, 4) (by simp)
    have B2 := B1.trans (b2.mono B1.size)
    have c2 := kr.cell 0 _ rfl
    have f2 := kr.frozen 0
    have c3 := (kr.set 0 (.bool true)).cell 0 (.bool true) rfl
    clear kb c0 b1 b2 B0 B1 M0 M1
    go_wp2
    refine bodyPost_ret (v := .bool true) (by simp [results, Try.results5, go_sem, c3]) rfl ?_
    exact ⟨rfl, B2.setCell (p := ⟨w.heap.size + 1, 0, none⟩) (by show w.heap.size ≤ w.heap.size + 1; omega) _⟩
  by_cases q2 : 1000 < lb
  · have d1 : decide (1000 < (la : Int)) = false := by simp; omega
    have d2 : decide (1000 < (lb : Int)) = true := by simp; omega
    clear h q1 q2
    go_enter Try.func5, Try.ntmps5
    go_wp2_with fail
    generalize (w.alloc (.cells #[.slice b lb cb] 32)).alloc (.cells #[.bool false] 4) = W0 at *
    refine (awake_calls _).mono ?_
    rintro e w1 ⟨rfl, b1⟩
    have M1 := M0.below b1 (Nat.le_refl _)
    have B1 := B0.trans (b1.mono B0.size)
    have kb := M1 (w.heap.size, .slice b lb cb, 32) (by simp)
    have c0 := kb.cell 0 _ rfl
    go_wp2_with fail
    refine (awake_calls _).mono ?_
    rintro e w2 ⟨rfl, b2⟩
    have kr := (M1.below b2 (Nat.le_refl _)) (w.heap.size + 1, .bool false, 4) (by simp)
    have B2 := B1.trans (b2.mono B1.size)
    have c2 := kr.cell 0 _ rfl
    have f2 := kr.frozen 0
    have c3 := (kr.set 0 (.bool true)).cell 0 (.bool true) rfl
    clear kb c0 b1 b2 B0 B1 M0 M1
    go_wp2
    refine bodyPost_ret (v := .bool true) (by simp [results, Try.results5, go_sem, c3]) rfl ?_
    exact ⟨rfl, B2.setCell (p := ⟨w.heap.size + 1, 0, none⟩) (by show w.heap.size ≤ w.heap.size + 1; omega) _⟩
  by_cases q3 : la ≤ 40
  · have d1 : decide (1000 < (la : Int)) = false := by simp; omega
    have d2 : decide (1000 < (lb : Int)) = false := by simp; omega
    have d3 : decide ((la : Int) ≤ 40) = true := by simp; omega
    clear h q1 q2 q3
    go_enter Try.func5, Try.ntmps5
    go_wp2_with fail
    generalize (w.alloc (.cells #[.slice b lb cb] 32)).alloc (.cells #[.bool false] 4) = W0 at *
    refine (awake_calls _).mono ?_
    rintro e w1 ⟨rfl, b1⟩
    have M1 := M0.below b1 (Nat.le_refl _)
    have B1 := B0.trans (b1.mono B0.size)
    have kb := M1 (w.heap.size, .slice b lb cb, 32) (by simp)
    have c0 := kb.cell 0 _ rfl
    go_wp2_with fail
    refine (awake_calls _).mono ?_
    rintro e w2 ⟨rfl, b2⟩
    have kr := (M1.below b2 (Nat.le_refl _)) (w.heap.size + 1, .bool false, 4) (by simp)
    have B2 := B1.trans (b2.mono B1.size)
    have c2 := kr.cell 0 _ rfl
    have f2 := kr.frozen 0
    have c3 := (kr.set 0 (.bool true)).cell 0 (.bool true) rfl
    clear kb c0 b1 b2 B0 B1 M0 M1
    go_wp2
    refine bodyPost_ret (v := .bool true) (by simp [results, Try.results5, go_sem, c3]) rfl ?_
    exact ⟨rfl, B2.setCell (p := ⟨w.heap.size + 1, 0, none⟩) (by show w.heap.size ≤ w.heap.size + 1; omega) _⟩
  · have d1 : decide (1000 < (la : Int)) = false := by simp; omega
    have d2 : decide (1000 < (lb : Int)) = false := by simp; omega
    have d3 : decide ((la : Int) ≤ 40) = false := by simp; omega
    have d4 : ((lb : Int) == 0) = true := by rw [beq_iff_eq]; omega
    clear h q1 q2 q3
    go_enter Try.func5, Try.ntmps5
    go_wp2_with fail
    generalize (w.alloc (.cells #[.slice b lb cb] 32)).alloc (.cells #[.bool false] 4) = W0 at *
    refine (awake_calls _).mono ?_
    rintro e w1 ⟨rfl, b1⟩
    have M1 := M0.below b1 (Nat.le_refl _)
    have B1 := B0.trans (b1.mono B0.size)
    have kb := M1 (w.heap.size, .slice b lb cb, 32) (by simp)
    have c0 := kb.cell 0 _ rfl
    go_wp2_with fail
    refine (awake_calls _).mono ?_
    rintro e w2 ⟨rfl, b2⟩
    have kr := (M1.below b2 (Nat.le_refl _)) (w.heap.size + 1, .bool false, 4) (by simp)
    have B2 := B1.trans (b2.mono B1.size)
    have c2 := kr.cell 0 _ rfl
    have f2 := kr.frozen 0
    have c3 := (kr.set 0 (.bool true)).cell 0 (.bool true) rfl
    clear kb c0 b1 b2 B0 B1 M0 M1
    go_wp2
    refine bodyPost_ret (v := .bool true) (by simp [results, Try.results5, go_sem, c3]) rfl ?_
    exact ⟨rfl, B2.setCell (p := ⟨w.heap.size + 1, 0, none⟩) (by show w.heap.size ≤ w.heap.size + 1; omega) _⟩
end Go.Proofs.Ytfmicnjijcmjaaa
