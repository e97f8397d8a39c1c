/- Proved here: how two arrays of four bytes are compared. Conditions: as each theorem states them. -/
import Derived.Test.YtcehhldeocpanaaTake
namespace Go.Proofs.Ytcehhldeocpanaa
open Go.RowKit

theorem equal_arr (w : World) (x0 x1 x2 x3 y0 y1 y2 y3 : Int) :
    (Op.equalIn 10000 32 (.agg #[.int .u8 x0, .int .u8 x1, .int .u8 x2, .int .u8 x3]) (.agg #[.int .u8 y0, .int .u8 y1, .int .u8 y2, .int .u8 y3])).run Try.prog w = .ok (x0 == y0 && (x1 == y1 && (x2 == y2 && x3 == y3))) w := by
  have e5 : ∀ w, (sizeOf 5).run Try.prog w = .ok 1 w := fun _ => by kernel_rfl
  have i5 := fun (w : World) (a b : Int) => run_equalIn_int (P := Try.prog) w 9998 5 .u8 .u8 a b Try.underlying5
  have p0 : ∀ (w : World) (z0 z1 z2 z3 : Int), (part 5 #[.int .u8 z0, .int .u8 z1, .int .u8 z2, .int .u8 z3] 0).run Try.prog w = .ok (.int .u8 z0) w := fun _ _ _ _ _ => by kernel_rfl
  have p1 : ∀ (w : World) (z0 z1 z2 z3 : Int), (part 5 #[.int .u8 z0, .int .u8 z1, .int .u8 z2, .int .u8 z3] 1).run Try.prog w = .ok (.int .u8 z1) w := fun _ _ _ _ _ => by kernel_rfl
  have p2 : ∀ (w : World) (z0 z1 z2 z3 : Int), (part 5 #[.int .u8 z0, .int .u8 z1, .int .u8 z2, .int .u8 z3] 2).run Try.prog w = .ok (.int .u8 z2) w := fun _ _ _ _ _ => by kernel_rfl
  have p3 : ∀ (w : World) (z0 z1 z2 z3 : Int), (part 5 #[.int .u8 z0, .int .u8 z1, .int .u8 z2, .int .u8 z3] 3).run Try.prog w = .ok (.int .u8 z3) w := fun _ _ _ _ _ => by kernel_rfl
  rw [show (10000 : Nat) = 9999 + 1 from rfl]
  unfold Op.equalIn
  simp only [Sem.run_bind, run_underlying Try.underlying32, Result.andThen_ok, e5]
  simp only [Std.Legacy.Range.forIn_eq_forIn_range', Std.Legacy.Range.size, List.range'_succ, List.range'_zero, List.forIn_cons]
  simp only [Nat.zero_add, Nat.mul_one, Nat.reduceAdd, List.forIn_nil, Sem.run_bind, p0, Result.andThen_ok]
  cases a : x0 == y0 <;> cases b : x1 == y1 <;> cases c : x2 == y2 <;> cases d : x3 == y3 <;> simp [*]

theorem eql_arr (w : World) (x0 x1 x2 x3 y0 y1 y2 y3 : Int) :
    (binOp .eql 32 (.agg #[.int .u8 x0, .int .u8 x1, .int .u8 x2, .int .u8 x3]) (.agg #[.int .u8 y0, .int .u8 y1, .int .u8 y2, .int .u8 y3])).run Try.prog w = .ok (.bool (x0 == y0 && (x1 == y1 && (x2 == y2 && x3 == y3)))) w := by
  rw [run_eql_struct, equal_arr]; rfl
theorem neq_arr (w : World) (x0 x1 x2 x3 y0 y1 y2 y3 : Int) :
    (binOp .neq 32 (.agg #[.int .u8 x0, .int .u8 x1, .int .u8 x2, .int .u8 x3]) (.agg #[.int .u8 y0, .int .u8 y1, .int .u8 y2, .int .u8 y3])).run Try.prog w = .ok (.bool (!(x0 == y0 && (x1 == y1 && (x2 == y2 && x3 == y3))))) w := by
  rw [run_neq_struct, equal_arr]; rfl
/-- Alike, as the walk wants it. -/
theorem eql_self (x0 x1 x2 x3 : Int) (w : World) : (binOp .eql 32 (.agg #[.int .u8 x0, .int .u8 x1, .int .u8 x2, .int .u8 x3]) (.agg #[.int .u8 x0, .int .u8 x1, .int .u8 x2, .int .u8 x3])).run Try.prog w = .ok (.bool true) w := by
  rw [eql_arr]; simp
theorem neq_self (x0 x1 x2 x3 : Int) (w : World) : (binOp .neq 32 (.agg #[.int .u8 x0, .int .u8 x1, .int .u8 x2, .int .u8 x3]) (.agg #[.int .u8 x0, .int .u8 x1, .int .u8 x2, .int .u8 x3])).run Try.prog w = .ok (.bool false) w := by
  rw [neq_arr]; simp
end Go.Proofs.Ytcehhldeocpanaa
