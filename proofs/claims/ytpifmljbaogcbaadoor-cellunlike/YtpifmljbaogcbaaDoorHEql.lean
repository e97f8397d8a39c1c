/- Proved here: how two headers, and two arrays of four bytes, are compared. Conditions: as each theorem states them. -/
import Derived.Test.YtpifmljbaogcbaaDoorRet
import Derived.Test.YtpifmljbaogcbaaDoorProg
namespace Go.Proofs.YtpifmljbaogcbaaDoor.H
open Go.RowKit

theorem eql_hdr (w : World) (g p v t c g2 p2 v2 t2 c2 : Int) :
    (binOp .eql 23 (.agg #[.int .i64 g, .int .i64 p, .int .i64 v, .int .i64 t, .int .i64 c]) (.agg #[.int .i64 g2, .int .i64 p2, .int .i64 v2, .int .i64 t2, .int .i64 c2])).run Tryd.prog w = .ok (.bool (g == g2 && (p == p2 && (v == v2 && (t == t2 && c == c2))))) w := by
  cases a : g == g2 <;> cases b : p == p2 <;> cases c' : v == v2 <;> cases d : t == t2 <;> cases e : c == c2 <;> go_simp <;> simp [a, b, c', d, e]
theorem eql_arr (w : World) (x0 x1 x2 x3 y0 y1 y2 y3 : Int) :
    (binOp .eql 65 (.agg #[.int .u8 x0, .int .u8 x1, .int .u8 x2, .int .u8 x3]) (.agg #[.int .u8 y0, .int .u8 y1, .int .u8 y2, .int .u8 y3])).run Tryd.prog w = .ok (.bool (x0 == y0 && (x1 == y1 && (x2 == y2 && x3 == y3)))) w := by
  have e5 : ∀ w, (sizeOf 5).run Tryd.prog w = .ok 1 w := fun _ => by kernel_rfl
  have i5 := fun (w : World) (a b : Int) => run_equalIn_int (P := Tryd.prog) w 9998 5 .u8 .u8 a b Tryd.underlying5
  have p0 : ∀ (w : World) (z0 z1 z2 z3 : Int), (part 5 #[.int .u8 z0, .int .u8 z1, .int .u8 z2, .int .u8 z3] 0).run Tryd.prog w = .ok (.int .u8 z0) w := fun _ _ _ _ _ => by kernel_rfl
  have p1 : ∀ (w : World) (z0 z1 z2 z3 : Int), (part 5 #[.int .u8 z0, .int .u8 z1, .int .u8 z2, .int .u8 z3] 1).run Tryd.prog w = .ok (.int .u8 z1) w := fun _ _ _ _ _ => by kernel_rfl
  have p2 : ∀ (w : World) (z0 z1 z2 z3 : Int), (part 5 #[.int .u8 z0, .int .u8 z1, .int .u8 z2, .int .u8 z3] 2).run Tryd.prog w = .ok (.int .u8 z2) w := fun _ _ _ _ _ => by kernel_rfl
  have p3 : ∀ (w : World) (z0 z1 z2 z3 : Int), (part 5 #[.int .u8 z0, .int .u8 z1, .int .u8 z2, .int .u8 z3] 3).run Tryd.prog w = .ok (.int .u8 z3) w := fun _ _ _ _ _ => by kernel_rfl
  rw [run_eql_struct]
  rw [show (10000 : Nat) = 9999 + 1 from rfl]
  unfold Op.equalIn
  simp only [Sem.run_bind, run_underlying Tryd.underlying65, Result.andThen_ok, e5]
  simp only [Std.Legacy.Range.forIn_eq_forIn_range', Std.Legacy.Range.size, List.range'_succ, List.range'_zero, List.forIn_cons]
  simp only [Nat.zero_add, Nat.mul_one, Nat.reduceAdd, List.forIn_nil, Sem.run_bind, p0, Result.andThen_ok]
  cases a : x0 == y0 <;> cases b : x1 == y1 <;> cases c : x2 == y2 <;> cases d : x3 == y3 <;> simp [*]

theorem and5_ne {g p v t c g2 p2 v2 t2 c2 : Int} (h : ¬ (g = g2 ∧ p = p2 ∧ v = v2 ∧ t = t2 ∧ c = c2)) : (g == g2 && (p == p2 && (v == v2 && (t == t2 && c == c2)))) = false := by
  cases e : (g == g2 && (p == p2 && (v == v2 && (t == t2 && c == c2))))
  · rfl
  · simp only [Bool.and_eq_true, beq_iff_eq] at e
    exact absurd e h
theorem and4_ne {g p v t g2 p2 v2 t2 : Int} (h : ¬ (g = g2 ∧ p = p2 ∧ v = v2 ∧ t = t2)) : (g == g2 && (p == p2 && (v == v2 && t == t2))) = false := by
  cases e : (g == g2 && (p == p2 && (v == v2 && t == t2)))
  · rfl
  · simp only [Bool.and_eq_true, beq_iff_eq] at e
    exact absurd e h
end Go.Proofs.YtpifmljbaogcbaaDoor.H
