/- Proved here: the given Flip answers the bytes with one bit turned over, in memory of its own. Conditions: as each theorem states them. -/
import Derived.Test.YtfmicnjijcmjaaaApp
namespace Go.Proofs.Ytfmicnjijcmjaaa
open Go.RowKit

/-- Bytes with bit n turned over. -/
def flipN (zs : List UInt8) (n : Nat) : List UInt8 := zs.set (n / 8) ((zs[n / 8]?.getD 0) ^^^ UInt8.ofNat (128 / 2 ^ (n % 8)))
theorem flipN_length (zs : List UInt8) (n : Nat) : (flipN zs n).length = zs.length := by simp [flipN]
end Go.Proofs.Ytfmicnjijcmjaaa
