/- Proved here: the table of kinds, and what known answers, the code's and the document's. Conditions: as each theorem states them. -/
import Derived.Laws.Rows
import Derived.LoopN
import Derived.WalkMore
import Derived.Test.YtbjeljmnknibnaaDoorMp
import Derived.Test.YtbjeljmnknibnaaDoorBut
import Derived.Test.YtbjeljmnknibnaaDoorSame
namespace Go.Proofs.YtbjeljmnknibnaaDoor
set_option linter.unusedSimpArgs false
set_option linter.unusedVariables false
open Go.RowKit

/-- The table lies in its variable. -/
def Tab (w : World) : Prop := 1 ≤ w.heap.size ∧
  (w.cell? ⟨0, 0, none⟩ = some (.int .i64 2) ∧ w.cell? ⟨0, 1, none⟩ = some (.int .i64 5) ∧ w.cell? ⟨0, 2, none⟩ = some (.int .i64 7) ∧ w.cell? ⟨0, 3, none⟩ = some (.int .i64 77) ∧ w.cell? ⟨0, 4, none⟩ = some (.int .i64 90))
theorem Tab.below {w w' : World} {B : Nat} (h : Tab w) (hb : Below B w w') (hB : 1 ≤ B) : Tab w' := by
  obtain ⟨h2, a0, a1, a2, a3, a4⟩ := h
  have c : ∀ o, w'.cell? ⟨0, o, none⟩ = w.cell? ⟨0, o, none⟩ := fun o => hb.cell (p := ⟨0, o, none⟩) hB
  exact ⟨Nat.le_trans h2 hb.size, (c 0).trans a0, (c 1).trans a1, (c 2).trans a2, (c 3).trans a3, (c 4).trans a4⟩
theorem Tab.on {w w' : World} (h : Tab w) (hb : Below w.heap.size w w') : Tab w' := h.below hb h.1

theorem idx5 (x0 x1 x2 x3 x4 : Value) : (∀ w, (Instr.index 97 (.agg #[x0, x1, x2, x3, x4]) (.int .i64 0)).run Tryd.prog w = .ok x0 w) ∧ (∀ w, (Instr.index 97 (.agg #[x0, x1, x2, x3, x4]) (.int .i64 1)).run Tryd.prog w = .ok x1 w) ∧
    (∀ w, (Instr.index 97 (.agg #[x0, x1, x2, x3, x4]) (.int .i64 2)).run Tryd.prog w = .ok x2 w) ∧ (∀ w, (Instr.index 97 (.agg #[x0, x1, x2, x3, x4]) (.int .i64 3)).run Tryd.prog w = .ok x3 w) ∧
    (∀ w, (Instr.index 97 (.agg #[x0, x1, x2, x3, x4]) (.int .i64 4)).run Tryd.prog w = .ok x4 w) :=
  ⟨fun _ => by kernel_rfl, fun _ => by kernel_rfl, fun _ => by kernel_rfl, fun _ => by kernel_rfl, fun _ => by kernel_rfl⟩

set_option maxHeartbeats 1000000 in
theorem known_calls (k : Int) (w : World) (ht : Tab w) : Calls Tryd.prog 37 #[.int .i64 k] w fun e w' => e = .returned (.bool (knownB k)) ∧ Below w.heap.size w w' := by
  obtain ⟨h2, a0, a1, a2, a3, a4⟩ := ht
  have h0 : 0 < w.heap.size := h2
  obtain ⟨i0, i1, i2, i3, i4⟩ := idx5 (.int .i64 2) (.int .i64 5) (.int .i64 7) (.int .i64 77) (.int .i64 90)
  by_cases e0 : k = 2
  · subst e0
    go_enter Tryd.func37, Tryd.ntmps37
    go_wp2
    go_step3
    go_wp2
    go_step3
    go_wp2
    refine wp_loop_rounds 6 ?_
    rw [rounds_succ]
    go_wp2
    rw [Exit.noGoto_ret]
    go_ret
    exact ⟨rfl, Below.refl _ _⟩
  by_cases e1 : k = 5
  · subst e1
    go_enter Tryd.func37, Tryd.ntmps37
    go_wp2
    go_step3
    go_wp2
    go_step3
    go_wp2
    refine wp_loop_rounds 6 ?_
    rw [rounds_succ]
    go_wp2
    rw [rounds_succ]
    go_wp2
    rw [Exit.noGoto_ret]
    go_ret
    exact ⟨rfl, Below.refl _ _⟩
  by_cases e2 : k = 7
  · subst e2
    go_enter Tryd.func37, Tryd.ntmps37
    go_wp2
    go_step3
    go_wp2
    go_step3
    go_wp2
    refine wp_loop_rounds 6 ?_
    rw [rounds_succ]
    go_wp2
    rw [rounds_succ]
    go_wp2
    rw [rounds_succ]
    go_wp2
    rw [Exit.noGoto_ret]
    go_ret
    exact ⟨rfl, Below.refl _ _⟩
  by_cases e3 : k = 77
  · subst e3
    go_enter Tryd.func37, Tryd.ntmps37
    go_wp2
    go_step3
    go_wp2
    go_step3
    go_wp2
    refine wp_loop_rounds 6 ?_
    rw [rounds_succ]
    go_wp2
    rw [rounds_succ]
    go_wp2
    rw [rounds_succ]
    go_wp2
    rw [rounds_succ]
    go_wp2
    rw [Exit.noGoto_ret]
    go_ret
    exact ⟨rfl, Below.refl _ _⟩
  by_cases e4 : k = 90
  · subst e4
    go_enter Tryd.func37, Tryd.ntmps37
    go_wp2
    go_step3
    go_wp2
    go_step3
    go_wp2
    refine wp_loop_rounds 6 ?_
    rw [rounds_succ]
    go_wp2
    rw [rounds_succ]
    go_wp2
    rw [rounds_succ]
    go_wp2
    rw [rounds_succ]
    go_wp2
    rw [rounds_succ]
    go_wp2
    rw [Exit.noGoto_ret]
    go_ret
    exact ⟨rfl, Below.refl _ _⟩
  · have HK : Hid (knownB k = false) := by
      show _ = false
      simp [knownB, e0, e1, e2, e3, e4]
    have q0 : ((2 : Int) == k) = false := by simp; omega
    have q1 : ((5 : Int) == k) = false := by simp; omega
    have q2 : ((7 : Int) == k) = false := by simp; omega
    have q3 : ((77 : Int) == k) = false := by simp; omega
    have q4 : ((90 : Int) == k) = false := by simp; omega
    clear e0 e1 e2 e3 e4
    go_enter Tryd.func37, Tryd.ntmps37
    go_wp2
    go_step3
    go_wp2
    go_step3
    go_wp2
    refine wp_loop_rounds 6 ?_
    rw [rounds_succ]
    go_wp2
    rw [rounds_succ]
    go_wp2
    rw [rounds_succ]
    go_wp2
    rw [rounds_succ]
    go_wp2
    rw [rounds_succ]
    go_wp2
    rw [rounds_succ]
    go_wp2
    rw [Exit.noGoto_ret]
    go_ret
    exact ⟨ret_bool HK.out.symm, Below.refl _ _⟩

set_option maxHeartbeats 1000000 in
theorem refknown_calls (k : Int) (w : World) : Calls Tryd.prog 34 #[.int .i64 k] w fun e w' => e = .returned (.bool (knownB k)) ∧ w' = w := by
  by_cases e0 : k = 2
  · subst e0
    go_enter Tryd.func34, Tryd.ntmps34
    go_wp2
    go_ret
    exact ⟨rfl, rfl⟩
  by_cases e1 : k = 5
  · subst e1
    go_enter Tryd.func34, Tryd.ntmps34
    go_wp2
    go_ret
    exact ⟨rfl, rfl⟩
  by_cases e2 : k = 7
  · subst e2
    go_enter Tryd.func34, Tryd.ntmps34
    go_wp2
    go_ret
    exact ⟨rfl, rfl⟩
  by_cases e3 : k = 77
  · subst e3
    go_enter Tryd.func34, Tryd.ntmps34
    go_wp2
    go_ret
    exact ⟨rfl, rfl⟩
  by_cases e4 : k = 90
  · subst e4
    go_enter Tryd.func34, Tryd.ntmps34
    go_wp2
    go_ret
    exact ⟨rfl, rfl⟩
  · have HK : Hid (knownB k = false) := by
      show _ = false
      simp [knownB, e0, e1, e2, e3, e4]
    have q0 : (k == (2 : Int)) = false := by simp; omega
    have q1 : (k == (5 : Int)) = false := by simp; omega
    have q2 : (k == (7 : Int)) = false := by simp; omega
    have q3 : (k == (77 : Int)) = false := by simp; omega
    have q4 : (k == (90 : Int)) = false := by simp; omega
    clear e0 e1 e2 e3 e4
    go_enter Tryd.func34, Tryd.ntmps34
    go_wp2
    go_ret
    exact ⟨ret_bool HK.out.symm, rfl⟩
end Go.Proofs.YtbjeljmnknibnaaDoor
