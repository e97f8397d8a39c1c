/- Proved here: the law's own clp and awake, and a policer's Counts. Conditions: as each theorem states them. -/
import Derived.Test.YtlaomjhibaoglaaView
namespace Go.Proofs.Ytlaomjhibaoglaa
set_option linter.unusedSimpArgs false
set_option linter.unusedVariables false
open Go.RowKit Go.Shelf

/-- A cell's loss priority. -/
def clN (low : Bool) : Int := bif low then 1 else 0
theorem clN_cases (low : Bool) : clN low = 0 ∨ clN low = 1 := by cases low <;> simp [clN]
set_option maxHeartbeats 400000 in
theorem clp_calls (q : Int) (low : Bool) (w : World) : Calls Try.prog 12 #[.agg #[.int .u32 q, .bool low]] w fun e w' => e = .returned (.int .i64 (clN low)) ∧ Below w.heap.size w w' := by
  cases low
  all_goals
    go_enter Try.func12, Try.ntmps12
    go_wp2
    go_ret
    exact ⟨rfl, below_box w _⟩

/-- Four counts, as a value. -/
abbrev v4 (c0 c1 c2 c3 : Int) : Value := .agg #[.int .i64 c0, .int .i64 c1, .int .i64 c2, .int .i64 c3]
set_option maxHeartbeats 400000 in
theorem counts_calls {K : PK} {A : PA} {al : Bool} {T1 T2 c0 c1 c2 c3 : Int} {w : World} (h : PV w K A al T1 T2 c0 c1 c2 c3) : Calls Try.prog 14 #[.pointer (some ⟨A.r, 0, none⟩)] w fun e w' => e = .returned (v4 c0 c1 c2 c3) ∧ Below w.heap.size w w' := by
  obtain ⟨m1, m2, m3, m4, m5, f2, f3, f4, f5⟩ := h.pc.facts
  have hlt := h.pc.own.lt
  clear h
  go_enter Try.func14, Try.ntmps14
  go_wp2
  go_returns
  exact ⟨rfl, below_box w _⟩

set_option maxHeartbeats 400000 in
theorem counts_nil (w : World) : Calls Try.prog 14 #[.pointer none] w fun e w' => e = .returned (v4 0 0 0 0) ∧ Below w.heap.size w w' := by
  go_enter Try.func14, Try.ntmps14
  go_wp2
  go_returns
  exact ⟨rfl, below_box w _⟩

theorem equal_arr (w : World) (x0 x1 x2 x3 y0 y1 y2 y3 : Int) :
    (Op.equalIn 10000 38 (.agg #[.int .i64 x0, .int .i64 x1, .int .i64 x2, .int .i64 x3]) (.agg #[.int .i64 y0, .int .i64 y1, .int .i64 y2, .int .i64 y3])).run Try.prog w = .ok (x0 == y0 && (x1 == y1 && (x2 == y2 && x3 == y3))) w := by
  have e5 : ∀ w, (sizeOf 3).run Try.prog w = .ok 1 w := fun _ => by kernel_rfl
  have i5 := fun (w : World) (a b : Int) => run_equalIn_int (P := Try.prog) w 9998 3 .i64 .i64 a b Try.underlying3
  have p0 : ∀ (w : World) (z0 z1 z2 z3 : Int), (part 3 #[.int .i64 z0, .int .i64 z1, .int .i64 z2, .int .i64 z3] 0).run Try.prog w = .ok (.int .i64 z0) w := fun _ _ _ _ _ => by kernel_rfl
  have p1 : ∀ (w : World) (z0 z1 z2 z3 : Int), (part 3 #[.int .i64 z0, .int .i64 z1, .int .i64 z2, .int .i64 z3] 1).run Try.prog w = .ok (.int .i64 z1) w := fun _ _ _ _ _ => by kernel_rfl
  have p2 : ∀ (w : World) (z0 z1 z2 z3 : Int), (part 3 #[.int .i64 z0, .int .i64 z1, .int .i64 z2, .int .i64 z3] 2).run Try.prog w = .ok (.int .i64 z2) w := fun _ _ _ _ _ => by kernel_rfl
  have p3 : ∀ (w : World) (z0 z1 z2 z3 : Int), (part 3 #[.int .i64 z0, .int .i64 z1, .int .i64 z2, .int .i64 z3] 3).run Try.prog w = .ok (.int .i64 z3) w := fun _ _ _ _ _ => by kernel_rfl
  rw [show (10000 : Nat) = 9999 + 1 from rfl]
  unfold Op.equalIn
  simp only [Sem.run_bind, run_underlying Try.underlying38, Result.andThen_ok, e5]
  simp only [Std.Legacy.Range.forIn_eq_forIn_range', Std.Legacy.Range.size, List.range'_succ, List.range'_zero, List.forIn_cons]
  simp only [Nat.zero_add, Nat.mul_one, Nat.reduceAdd, List.forIn_nil, Sem.run_bind, p0, Result.andThen_ok]
  cases a : x0 == y0 <;> cases b : x1 == y1 <;> cases c : x2 == y2 <;> cases d : x3 == y3 <;> simp [*]
theorem eql_arr (w : World) (x0 x1 x2 x3 y0 y1 y2 y3 : Int) :
    (binOp .eql 38 (.agg #[.int .i64 x0, .int .i64 x1, .int .i64 x2, .int .i64 x3]) (.agg #[.int .i64 y0, .int .i64 y1, .int .i64 y2, .int .i64 y3])).run Try.prog w = .ok (.bool (x0 == y0 && (x1 == y1 && (x2 == y2 && x3 == y3)))) w := by
  rw [run_eql_struct, equal_arr]; rfl
theorem eql_self (x0 x1 x2 x3 : Int) (w : World) : (binOp .eql 38 (.agg #[.int .i64 x0, .int .i64 x1, .int .i64 x2, .int .i64 x3]) (.agg #[.int .i64 x0, .int .i64 x1, .int .i64 x2, .int .i64 x3])).run Try.prog w = .ok (.bool true) w := by
  rw [eql_arr]; simp

theorem awake_ok : okB 4 1 0 10 10 0 = true := by decide
set_option maxHeartbeats 2000000 in
theorem awake_calls (w : World) : Calls Try.prog 9 #[] w fun e w' => e = .returned (.bool true) ∧ Below w.heap.size w w' := by
  have hq := eql_self 4 3 1 0
  go_enter Try.func9, Try.ntmps9
  go_wp2_with fail
  refine (pnew_calls 4 1 0 10 10 0 awake_ok _).mono ?_
  rintro x w1 ⟨A, rfl, P1, lo, b1⟩
  rw [show ((4 : Int) == 7) = false by decide] at P1
  have t1 := pv_take _ (kOf_tz 4 1 0 10 10) A _ _ _ _ _ _ _ 0 0 _ P1 (by decide) (by decide) (by decide) (by decide)
  rw [show vN (kOf 4 1 0 10 10) false 0 0 0 0 = 1 by decide, show n1N (kOf 4 1 0 10 10) 0 0 0 0 = 1 by decide, show n2N (kOf 4 1 0 10 10) 0 0 0 0 = 10 by decide, show cnt 1 1 0 = 1 by decide, show cnt 1 2 0 = 0 by decide, show cnt 1 3 0 = 0 by decide, show (0 : Int) + 1 = 1 by decide] at t1
  have hall := lo.all
  clear P1 lo
  go_wp2_with fail
  refine t1.mono ?_
  clear t1
  rintro x w2 ⟨rfl, P2, b2⟩
  have B2 : Below w.heap.size w w2 := b1.trans (b2.below b1.size hall)
  have t1 := pv_take _ (kOf_tz 4 1 0 10 10) A _ _ _ _ _ _ _ 1 0 _ P2 (by decide) (by decide) (by decide) (by decide)
  rw [show vN (kOf 4 1 0 10 10) false 1 10 1 0 = 1 by decide, show n1N (kOf 4 1 0 10 10) 1 10 1 0 = 2 by decide, show n2N (kOf 4 1 0 10 10) 1 10 1 0 = 20 by decide, show cnt 1 1 1 = 2 by decide, show cnt 1 2 0 = 0 by decide, show cnt 1 3 0 = 0 by decide, show (1 : Int) + 1 = 2 by decide] at t1
  clear P2 b1 b2
  go_wp2_with fail
  refine t1.mono ?_
  clear t1
  rintro x w3 ⟨rfl, P3, b3⟩
  have B3 : Below w.heap.size w w3 := B2.trans (b3.below B2.size hall)
  have t1 := pv_take _ (kOf_tz 4 1 0 10 10) A _ _ _ _ _ _ _ 2 0 _ P3 (by decide) (by decide) (by decide) (by decide)
  rw [show vN (kOf 4 1 0 10 10) false 2 20 2 0 = 2 by decide, show n1N (kOf 4 1 0 10 10) 2 20 2 0 = 3 by decide, show n2N (kOf 4 1 0 10 10) 2 20 2 0 = 20 by decide, show cnt 2 1 2 = 2 by decide, show cnt 2 2 0 = 1 by decide, show cnt 2 3 0 = 0 by decide, show (2 : Int) + 1 = 3 by decide] at t1
  clear P3 B2 b3
  go_wp2_with fail
  refine t1.mono ?_
  clear t1
  rintro x w4 ⟨rfl, P4, b4⟩
  have B4 : Below w.heap.size w w4 := B3.trans (b4.below B3.size hall)
  have t1 := pv_take _ (kOf_tz 4 1 0 10 10) A _ _ _ _ _ _ _ 3 1 _ P4 (by decide) (by decide) (by decide) (by decide)
  rw [show vN (kOf 4 1 0 10 10) false 3 20 3 1 = 1 by decide, show n1N (kOf 4 1 0 10 10) 3 20 3 1 = 4 by decide, show n2N (kOf 4 1 0 10 10) 3 20 3 1 = 20 by decide, show cnt 1 1 2 = 3 by decide, show cnt 1 2 1 = 1 by decide, show cnt 1 3 0 = 0 by decide, show (3 : Int) + 1 = 4 by decide] at t1
  clear P4 B3 b4
  go_wp2_with fail
  refine t1.mono ?_
  clear t1
  rintro x w5 ⟨rfl, P5, b5⟩
  have B5 : Below w.heap.size w w5 := B4.trans (b5.below B4.size hall)
  go_wp2_with fail
  refine (counts_calls P5).mono ?_
  rintro x w6 ⟨rfl, b6⟩
  go_wp2
  go_ret
  exact ⟨rfl, B5.trans (b6.mono B5.size)⟩
end Go.Proofs.Ytlaomjhibaoglaa
