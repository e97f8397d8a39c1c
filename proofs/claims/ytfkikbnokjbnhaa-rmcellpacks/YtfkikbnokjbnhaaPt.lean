/- Proved here: where a cell's flags, rates and numbers lie, and whether it can be. Conditions: as each theorem states them. -/
import Derived.Test.YtfkikbnokjbnhaaRw
namespace Go.Proofs.Ytfkikbnokjbnhaa
set_option linter.unusedSimpArgs false
set_option linter.unusedVariables false
open Go.RowKit

/-- The walk stops here. -/
structure Stop (p : Prop) : Prop where
  go : p
theorem stop_here {p : Prop} (h : Stop p) : p := h.go

set_option maxHeartbeats 1000000 in
theorem rates_calls (b : Nat) (w : World) : Calls Try.prog 35 #[.pointer (some ⟨b, 0, none⟩)] w fun e w' => e = .returned (.agg #[.pointer (some ⟨b, 5, none⟩), .pointer (some ⟨b, 6, none⟩), .pointer (some ⟨b, 7, none⟩)]) ∧ Below w.heap.size w w' := by
  go_enter Try.func35, Try.ntmps35
  go_wp2
  go_region
  go_wp2
  go_returns
  exact ⟨rfl, ((Below.refl _ w).alloc (Nat.le_refl _) _).drew⟩
set_option maxHeartbeats 1000000 in
theorem numbers_calls (b : Nat) (w : World) : Calls Try.prog 37 #[.pointer (some ⟨b, 0, none⟩)] w fun e w' => e = .returned (.agg #[.pointer (some ⟨b, 8, none⟩), .pointer (some ⟨b, 9, none⟩)]) ∧ Below w.heap.size w w' := by
  go_enter Try.func37, Try.ntmps37
  go_wp2
  go_region
  go_wp2
  go_returns
  exact ⟨rfl, ((Below.refl _ w).alloc (Nat.le_refl _) _).drew⟩
set_option maxHeartbeats 1000000 in
theorem flags_calls (b : Nat) (w : World) : Calls Try.prog 40 #[.pointer (some ⟨b, 0, none⟩)] w fun e w' => e = .returned (.agg #[.pointer (some ⟨b, 0, none⟩), .pointer (some ⟨b, 1, none⟩), .pointer (some ⟨b, 2, none⟩), .pointer (some ⟨b, 3, none⟩), .pointer (some ⟨b, 4, none⟩)]) ∧ Below w.heap.size w w' := by
  go_enter Try.func40, Try.ntmps40
  go_wp2
  go_region
  go_wp2
  go_returns
  exact ⟨rfl, ((Below.refl _ w).alloc (Nat.le_refl _) _).drew⟩

theorem idxF (b : Nat) : (∀ w, (Instr.index 80 (.agg #[.pointer (some ⟨b, 0, none⟩), .pointer (some ⟨b, 1, none⟩), .pointer (some ⟨b, 2, none⟩), .pointer (some ⟨b, 3, none⟩), .pointer (some ⟨b, 4, none⟩)]) (.int .i64 0)).run Try.prog w = .ok (.pointer (some ⟨b, 0, none⟩)) w) ∧ (∀ w, (Instr.index 80 (.agg #[.pointer (some ⟨b, 0, none⟩), .pointer (some ⟨b, 1, none⟩), .pointer (some ⟨b, 2, none⟩), .pointer (some ⟨b, 3, none⟩), .pointer (some ⟨b, 4, none⟩)]) (.int .i64 1)).run Try.prog w = .ok (.pointer (some ⟨b, 1, none⟩)) w) ∧ (∀ w, (Instr.index 80 (.agg #[.pointer (some ⟨b, 0, none⟩), .pointer (some ⟨b, 1, none⟩), .pointer (some ⟨b, 2, none⟩), .pointer (some ⟨b, 3, none⟩), .pointer (some ⟨b, 4, none⟩)]) (.int .i64 2)).run Try.prog w = .ok (.pointer (some ⟨b, 2, none⟩)) w) ∧ (∀ w, (Instr.index 80 (.agg #[.pointer (some ⟨b, 0, none⟩), .pointer (some ⟨b, 1, none⟩), .pointer (some ⟨b, 2, none⟩), .pointer (some ⟨b, 3, none⟩), .pointer (some ⟨b, 4, none⟩)]) (.int .i64 3)).run Try.prog w = .ok (.pointer (some ⟨b, 3, none⟩)) w) ∧ (∀ w, (Instr.index 80 (.agg #[.pointer (some ⟨b, 0, none⟩), .pointer (some ⟨b, 1, none⟩), .pointer (some ⟨b, 2, none⟩), .pointer (some ⟨b, 3, none⟩), .pointer (some ⟨b, 4, none⟩)]) (.int .i64 4)).run Try.prog w = .ok (.pointer (some ⟨b, 4, none⟩)) w) :=
  ⟨fun _ => by kernel_rfl, fun _ => by kernel_rfl, fun _ => by kernel_rfl, fun _ => by kernel_rfl, fun _ => by kernel_rfl⟩
theorem idxR (b : Nat) : (∀ w, (Instr.index 68 (.agg #[.pointer (some ⟨b, 5, none⟩), .pointer (some ⟨b, 6, none⟩), .pointer (some ⟨b, 7, none⟩)]) (.int .i64 0)).run Try.prog w = .ok (.pointer (some ⟨b, 5, none⟩)) w) ∧ (∀ w, (Instr.index 68 (.agg #[.pointer (some ⟨b, 5, none⟩), .pointer (some ⟨b, 6, none⟩), .pointer (some ⟨b, 7, none⟩)]) (.int .i64 1)).run Try.prog w = .ok (.pointer (some ⟨b, 6, none⟩)) w) ∧ (∀ w, (Instr.index 68 (.agg #[.pointer (some ⟨b, 5, none⟩), .pointer (some ⟨b, 6, none⟩), .pointer (some ⟨b, 7, none⟩)]) (.int .i64 2)).run Try.prog w = .ok (.pointer (some ⟨b, 7, none⟩)) w) :=
  ⟨fun _ => by kernel_rfl, fun _ => by kernel_rfl, fun _ => by kernel_rfl⟩
theorem idxN (b : Nat) : (∀ w, (Instr.index 73 (.agg #[.pointer (some ⟨b, 8, none⟩), .pointer (some ⟨b, 9, none⟩)]) (.int .i64 0)).run Try.prog w = .ok (.pointer (some ⟨b, 8, none⟩)) w) ∧ (∀ w, (Instr.index 73 (.agg #[.pointer (some ⟨b, 8, none⟩), .pointer (some ⟨b, 9, none⟩)]) (.int .i64 1)).run Try.prog w = .ok (.pointer (some ⟨b, 9, none⟩)) w) :=
  ⟨fun _ => by kernel_rfl, fun _ => by kernel_rfl⟩

set_option maxHeartbeats 2000000 in
theorem rmright_calls (r : Rm) (h : r.Ok) (w : World) : Calls Try.prog 24 #[.agg (rmV r)] w fun e w' => e = .returned (.bool (canB r)) ∧ Below w.heap.size w w' := by
  have A0 : Below w.heap.size w (w.alloc (.cells (rmV r) 31)) := (Below.refl _ w).alloc (Nat.le_refl _) _
  have K0 := bk_new w (rmV r) 31
  have L0 := K0.lt
  obtain ⟨q1, q2, q3, _, _⟩ := h
  obtain ⟨i0, i1, i2⟩ := idxR w.heap.size
  have HC : Hid (canB r = (riB r.er && (riB r.cc && riB r.mc))) := rfl
  go_enter Try.func24, Try.ntmps24
  go_wp2_with fail
  refine (rates_calls _ _).mono ?_
  rintro e w1 ⟨rfl, b1⟩
  have B1 : Below w.heap.size w w1 := A0.trans (b1.mono (by simp))
  have K1 := K0.below b1 L0
  obtain ⟨_, _, _, _, _, c5, c6, c7, _, _⟩ := K1.rm
  have r1 := right_calls r.er q1
  have r2 := right_calls r.cc q2
  have r3 := right_calls r.mc q3
  generalize riB r.er = x1 at *
  generalize riB r.cc = x2 at *
  generalize riB r.mc = x3 at *
  clear b1 A0 K0 L0 K1 q1 q2 q3
  go_wp2
  refine wp_loop_rounds 4 ?_
  rw [rounds_succ]
  go_wp2_with fail
  refine (r1 _).mono ?_
  rintro e w2 ⟨rfl, rfl⟩
  cases x1
  · go_wp2
    go_ret
    exact ⟨ret_b HC.out.symm, B1⟩
  go_wp2
  rw [rounds_succ]
  go_wp2_with fail
  refine (r2 _).mono ?_
  rintro e w3 ⟨rfl, rfl⟩
  cases x2
  · go_wp2
    go_ret
    exact ⟨ret_b HC.out.symm, B1⟩
  go_wp2
  rw [rounds_succ]
  go_wp2_with fail
  refine (r3 _).mono ?_
  rintro e w4 ⟨rfl, rfl⟩
  cases x3
  · go_wp2
    go_ret
    exact ⟨ret_b HC.out.symm, B1⟩
  go_wp2
  rw [rounds_succ]
  go_wp2
  go_ret
  exact ⟨ret_b HC.out.symm, B1⟩
end Go.Proofs.Ytfkikbnokjbnhaa
