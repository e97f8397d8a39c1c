/- Proved here: what the document's Parse of cells answers. Conditions: as each theorem states them. -/
import Derived.Test.YtpifmljbaogcbaaDoorWholeC
import Derived.Test.YtpifmljbaogcbaaDoorCParse
import Derived.Test.YtpifmljbaogcbaaDoorRefTake
import Derived.Test.YtpifmljbaogcbaaDoorHRefU
namespace Go.Proofs.YtpifmljbaogcbaaDoor
set_option linter.unusedSimpArgs false
set_option linter.unusedVariables false
open Go.RowKit
open H (numN dG dP dV dT dC refunpack_four)

set_option maxHeartbeats 1000000 in
theorem refparse_short (nni : Bool) (a : Option Addr) (len cap : Nat) (r : Value) (hl : len < 53) (w : World) :
    Calls Tryd.prog 21 #[.slice a len cap, r, .bool nni] w fun e w' => e = .returned (.tuple #[.agg #[.int .i64 0, .int .i64 0, .int .i64 0, .int .i64 0, .int .i64 0], .slice none 0 0, .int .i64 2]) ∧ Below w.heap.size w w' := by
  go_enter Tryd.func21, Tryd.ntmps21
  go_wp2
  go_returns
  exact ⟨rfl, by go_grown⟩
set_option maxHeartbeats 1000000 in
theorem refparse_long (nni : Bool) (a : Option Addr) (len cap : Nat) (r : Value) (hl : 53 < len) (w : World) :
    Calls Tryd.prog 21 #[.slice a len cap, r, .bool nni] w fun e w' => e = .returned (.tuple #[.agg #[.int .i64 0, .int .i64 0, .int .i64 0, .int .i64 0, .int .i64 0], .slice none 0 0, .int .i64 3]) ∧ Below w.heap.size w w' := by
  have h5 : ¬ len < 53 := by omega
  go_enter Tryd.func21, Tryd.ntmps21
  go_wp2
  go_returns
  exact ⟨rfl, by go_grown⟩
end Go.Proofs.YtpifmljbaogcbaaDoor
