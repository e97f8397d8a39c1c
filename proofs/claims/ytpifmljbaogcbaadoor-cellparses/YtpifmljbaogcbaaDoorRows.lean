/-
  NARROWER THAN 'FOR EVERY INPUT', by the rows' own cells (each row's printed sentence says how): CellBuilds: laid · CellParses: laid · CellBack: laid · CellSeals: laid · CellEmpty: laid · CellSides: laid · CellUnlike: laid.
  DERIVED. THE GIVEN ROWS OF THIS SEAT. 7 by the template 'for every input the law returns true; each argument reads behind the call as it read before'; 0 by the template 'total and deterministic' (their statements: YtpifmljbaogcbaaDoorTotals.lean).
  GIVEN WITH THE SEED: the statements are not yours to turn. If you find one false, say at which input.
  Laid BY PROGRAM, IN A SANDBOX (cutbox-rows.mjs): the forced cells as the released guide's own fill.sh prints them over the translation f4b0b01cdc5e64d0… (all of the seat's roots in one cut). By AI agents, Wed Nov 11 2026. No macro, syntax, notation, axiom, sorry.
-/
import Derived.Test.YtpifmljbaogcbaaDoorChecked
import GoSem.Claim
import GoSem.ClaimJoined
import GoSem.ClaimMapViews
import Derived.JoinedTies
import Derived.KernelRfl
namespace Go.Proofs.YtpifmljbaogcbaaDoor
/- THE CELL 'sum', in the pinned program and in every row, IS THE sha256 OF THE DUMP (.gsa) THAT YtpifmljbaogcbaaDoorProg.lean LOADS. Nothing in Lean hashes anything: it is a label: what it is worth is what the hold of that sum in a sandbox is worth. -/
noncomputable def Tryd.pinned : Pinned := { name := "ytpifmljbaogcbaadoor", sum := "f4b0b01cdc5e64d06eb083705a4c6817630ccde4e53d36dc9404feb8a47ec783", checked := Tryd.checked }
namespace Rows
def none {H : Type} : Left H := { results := [], args := [] }

/- WHAT THE LISTED PACKAGE-LEVEL VARIABLES READ AS WHEN THE CALL BEGINS. Each datum BY PROGRAM (the guide's laid-datum.mjs) off the statement by which the dump's own 'gosem.cut.vars' lays the variable. In a bare row this is a premise. The card (YtpifmljbaogcbaaDoorCards.lean) ties it to the program's text. -/
def laid_trunkline_header_userBits {H : Type} : DataW H := .agg [.lit (.int .u64 4), .lit (.int .u64 8), .lit (.int .u64 16), .lit (.int .u64 3), .lit (.int .u64 1)]
def laid_trunkline_header_switchBits {H : Type} : DataW H := .agg [.lit (.int .u64 0), .lit (.int .u64 12), .lit (.int .u64 16), .lit (.int .u64 3), .lit (.int .u64 1)]

/-- 'trunklinelaw04.CellBuilds': WHATEVER THE INPUT: true; the input reads as it did. -/
def cellBuildsSpec : ChangeSpec := { name := "cellBuilds", fn := fun _ => fun
  | [d1, d2, d3] => { results := [.lit (.bool true)], args := [d1, d2, d3] }
  | _ => none }
def cellBuildsRow : OpenClaim := { program := "ytpifmljbaogcbaadoor", sum := "f4b0b01cdc5e64d06eb083705a4c6817630ccde4e53d36dc9404feb8a47ec783", func := "trunkline/trunklinelaw04.CellBuilds", spec := "cellBuilds", unfollowed := true, recurses := true, named := ["trunkline/header.switchBits", "trunkline/header.userBits"], apart := false, laid := [("trunkline/header.userBits", laid_trunkline_header_userBits), ("trunkline/header.switchBits", laid_trunkline_header_switchBits)] }
def CellBuildsSaid : Prop := cellBuildsRow.holds Tryd.pinned (OpenSpec.ofChange cellBuildsSpec)

/-- ITS FALSE NEIGHBOUR: 'it returns false'. Refute it at one input. -/
def cellBuildsWrong : ChangeSpec := { name := "cellBuilds", fn := fun _ => fun
  | [d1, d2, d3] => { results := [.lit (.bool false)], args := [d1, d2, d3] }
  | _ => none }
def CellBuildsWrongFalsely : Prop := cellBuildsRow.holds Tryd.pinned (OpenSpec.ofChange cellBuildsWrong)

/-- 'trunklinelaw04.CellParses': WHATEVER THE INPUT: true; the input reads as it did. -/
def cellParsesSpec : ChangeSpec := { name := "cellParses", fn := fun _ => fun
  | [d1, d2] => { results := [.lit (.bool true)], args := [d1, d2] }
  | _ => none }
def cellParsesRow : OpenClaim := { program := "ytpifmljbaogcbaadoor", sum := "f4b0b01cdc5e64d06eb083705a4c6817630ccde4e53d36dc9404feb8a47ec783", func := "trunkline/trunklinelaw04.CellParses", spec := "cellParses", unfollowed := true, recurses := true, named := ["trunkline/header.switchBits", "trunkline/header.userBits"], apart := false, laid := [("trunkline/header.userBits", laid_trunkline_header_userBits), ("trunkline/header.switchBits", laid_trunkline_header_switchBits)] }
def CellParsesSaid : Prop := cellParsesRow.holds Tryd.pinned (OpenSpec.ofChange cellParsesSpec)

/-- ITS FALSE NEIGHBOUR: 'it returns false'. Refute it at one input. -/
def cellParsesWrong : ChangeSpec := { name := "cellParses", fn := fun _ => fun
  | [d1, d2] => { results := [.lit (.bool false)], args := [d1, d2] }
  | _ => none }
def CellParsesWrongFalsely : Prop := cellParsesRow.holds Tryd.pinned (OpenSpec.ofChange cellParsesWrong)

/-- 'trunklinelaw04.CellBack': WHATEVER THE INPUT: true; the input reads as it did. -/
def cellBackSpec : ChangeSpec := { name := "cellBack", fn := fun _ => fun
  | [d1, d2, d3, d4] => { results := [.lit (.bool true)], args := [d1, d2, d3, d4] }
  | _ => none }
def cellBackRow : OpenClaim := { program := "ytpifmljbaogcbaadoor", sum := "f4b0b01cdc5e64d06eb083705a4c6817630ccde4e53d36dc9404feb8a47ec783", func := "trunkline/trunklinelaw04.CellBack", spec := "cellBack", unfollowed := true, recurses := true, named := ["trunkline/header.switchBits", "trunkline/header.userBits"], apart := false, laid := [("trunkline/header.userBits", laid_trunkline_header_userBits), ("trunkline/header.switchBits", laid_trunkline_header_switchBits)] }
def CellBackSaid : Prop := cellBackRow.holds Tryd.pinned (OpenSpec.ofChange cellBackSpec)

/-- ITS FALSE NEIGHBOUR: 'it returns false'. Refute it at one input. -/
def cellBackWrong : ChangeSpec := { name := "cellBack", fn := fun _ => fun
  | [d1, d2, d3, d4] => { results := [.lit (.bool false)], args := [d1, d2, d3, d4] }
  | _ => none }
def CellBackWrongFalsely : Prop := cellBackRow.holds Tryd.pinned (OpenSpec.ofChange cellBackWrong)

/-- 'trunklinelaw04.CellSeals': WHATEVER THE INPUT: true; the input reads as it did. -/
def cellSealsSpec : ChangeSpec := { name := "cellSeals", fn := fun _ => fun
  | [d1, d2, d3] => { results := [.lit (.bool true)], args := [d1, d2, d3] }
  | _ => none }
def cellSealsRow : OpenClaim := { program := "ytpifmljbaogcbaadoor", sum := "f4b0b01cdc5e64d06eb083705a4c6817630ccde4e53d36dc9404feb8a47ec783", func := "trunkline/trunklinelaw04.CellSeals", spec := "cellSeals", unfollowed := true, recurses := true, named := ["trunkline/header.switchBits", "trunkline/header.userBits"], apart := false, laid := [("trunkline/header.userBits", laid_trunkline_header_userBits), ("trunkline/header.switchBits", laid_trunkline_header_switchBits)] }
def CellSealsSaid : Prop := cellSealsRow.holds Tryd.pinned (OpenSpec.ofChange cellSealsSpec)

/-- ITS FALSE NEIGHBOUR: 'it returns false'. Refute it at one input. -/
def cellSealsWrong : ChangeSpec := { name := "cellSeals", fn := fun _ => fun
  | [d1, d2, d3] => { results := [.lit (.bool false)], args := [d1, d2, d3] }
  | _ => none }
def CellSealsWrongFalsely : Prop := cellSealsRow.holds Tryd.pinned (OpenSpec.ofChange cellSealsWrong)

/-- 'trunklinelaw04.CellEmpty': WHATEVER THE INPUT: true; the input reads as it did. -/
def cellEmptySpec : ChangeSpec := { name := "cellEmpty", fn := fun _ => fun
  | [d1, d2, d3] => { results := [.lit (.bool true)], args := [d1, d2, d3] }
  | _ => none }
def cellEmptyRow : OpenClaim := { program := "ytpifmljbaogcbaadoor", sum := "f4b0b01cdc5e64d06eb083705a4c6817630ccde4e53d36dc9404feb8a47ec783", func := "trunkline/trunklinelaw04.CellEmpty", spec := "cellEmpty", unfollowed := true, recurses := true, named := ["trunkline/header.switchBits", "trunkline/header.userBits"], apart := false, laid := [("trunkline/header.userBits", laid_trunkline_header_userBits), ("trunkline/header.switchBits", laid_trunkline_header_switchBits)] }
def CellEmptySaid : Prop := cellEmptyRow.holds Tryd.pinned (OpenSpec.ofChange cellEmptySpec)

/-- ITS FALSE NEIGHBOUR: 'it returns false'. Refute it at one input. -/
def cellEmptyWrong : ChangeSpec := { name := "cellEmpty", fn := fun _ => fun
  | [d1, d2, d3] => { results := [.lit (.bool false)], args := [d1, d2, d3] }
  | _ => none }
def CellEmptyWrongFalsely : Prop := cellEmptyRow.holds Tryd.pinned (OpenSpec.ofChange cellEmptyWrong)

/-- 'trunklinelaw04.CellSides': WHATEVER THE INPUT: true; the input reads as it did. -/
def cellSidesSpec : ChangeSpec := { name := "cellSides", fn := fun _ => fun
  | [d1, d2] => { results := [.lit (.bool true)], args := [d1, d2] }
  | _ => none }
def cellSidesRow : OpenClaim := { program := "ytpifmljbaogcbaadoor", sum := "f4b0b01cdc5e64d06eb083705a4c6817630ccde4e53d36dc9404feb8a47ec783", func := "trunkline/trunklinelaw04.CellSides", spec := "cellSides", unfollowed := true, recurses := true, named := ["trunkline/header.switchBits", "trunkline/header.userBits"], apart := false, laid := [("trunkline/header.userBits", laid_trunkline_header_userBits), ("trunkline/header.switchBits", laid_trunkline_header_switchBits)] }
def CellSidesSaid : Prop := cellSidesRow.holds Tryd.pinned (OpenSpec.ofChange cellSidesSpec)

/-- ITS FALSE NEIGHBOUR: 'it returns false'. Refute it at one input. -/
def cellSidesWrong : ChangeSpec := { name := "cellSides", fn := fun _ => fun
  | [d1, d2] => { results := [.lit (.bool false)], args := [d1, d2] }
  | _ => none }
def CellSidesWrongFalsely : Prop := cellSidesRow.holds Tryd.pinned (OpenSpec.ofChange cellSidesWrong)

/-- 'trunklinelaw04.CellUnlike': WHATEVER THE INPUT: true; the input reads as it did. -/
def cellUnlikeSpec : ChangeSpec := { name := "cellUnlike", fn := fun _ => fun
  | [d1, d2, d3, d4, d5] => { results := [.lit (.bool true)], args := [d1, d2, d3, d4, d5] }
  | _ => none }
def cellUnlikeRow : OpenClaim := { program := "ytpifmljbaogcbaadoor", sum := "f4b0b01cdc5e64d06eb083705a4c6817630ccde4e53d36dc9404feb8a47ec783", func := "trunkline/trunklinelaw04.CellUnlike", spec := "cellUnlike", unfollowed := true, recurses := true, named := ["trunkline/header.switchBits", "trunkline/header.userBits"], apart := false, laid := [("trunkline/header.userBits", laid_trunkline_header_userBits), ("trunkline/header.switchBits", laid_trunkline_header_switchBits)] }
def CellUnlikeSaid : Prop := cellUnlikeRow.holds Tryd.pinned (OpenSpec.ofChange cellUnlikeSpec)

/-- ITS FALSE NEIGHBOUR: 'it returns false'. Refute it at one input. -/
def cellUnlikeWrong : ChangeSpec := { name := "cellUnlike", fn := fun _ => fun
  | [d1, d2, d3, d4, d5] => { results := [.lit (.bool false)], args := [d1, d2, d3, d4, d5] }
  | _ => none }
def CellUnlikeWrongFalsely : Prop := cellUnlikeRow.holds Tryd.pinned (OpenSpec.ofChange cellUnlikeWrong)

/- THE SECOND FORM. 'bulk': how many values and letters a reading holds, each counted each time it is reached (what is shared counts as often as it is met; a slice's spare places count too). A statement '..UptoSaid' is the law's where the arguments, and the package variables that the reading takes, are together of bulk at most 1048576: NARROWER than '..Said'. Prove '..Said' where nothing that the law and all that it calls make is longer than what came in: it says more and counts as full. Else prove '..UptoSaid'. A law counts once. -/
mutual
def uptoBulk {H : Type} : DataW H → Nat
  | .lit (.string bytes) => bytes.length + 1
  | .lit _ => 1
  | .nil => 1
  | .ptr d => uptoBulk d + 1
  | .slice elems spare => uptoBulkAll elems + uptoBulkAll spare + 1
  | .agg parts => uptoBulkAll parts + 1
  | .iface _ d => uptoBulk d + 1
  | .map entries => uptoBulkEntries entries + 1
  | .held _ => 1
def uptoBulkAll {H : Type} : List (DataW H) → Nat
  | [] => 0
  | d :: r => uptoBulk d + uptoBulkAll r
def uptoBulkEntries {H : Type} : List (Lit × DataW H) → Nat
  | [] => 0
  | x :: r => uptoBulkEntry x + uptoBulkEntries r
def uptoBulkEntry {H : Type} : Lit × DataW H → Nat
  | (.string bytes, d) => bytes.length + uptoBulk d + 1
  | (_, d) => uptoBulk d + 1
 end
def uptoSmall : (H : Type) → List (DataW H) → Bool := fun _ ds => decide (uptoBulkAll ds ≤ 1048576)
def OpenSpec.upto (s : _root_.Go.ChangeSpec) : _root_.Go.OpenSpec := { _root_.Go.OpenSpec.ofChange s with cond := some uptoSmall }

/-- 'trunklinelaw04.CellBuilds', WHERE WHAT IT READS IS OF BULK AT MOST 1048576: true; the input reads as it did. -/
def cellBuildsUptoRow : OpenClaim := { program := "ytpifmljbaogcbaadoor", sum := "f4b0b01cdc5e64d06eb083705a4c6817630ccde4e53d36dc9404feb8a47ec783", func := "trunkline/trunklinelaw04.CellBuilds", spec := "cellBuilds", unfollowed := true, recurses := true, named := ["trunkline/header.switchBits", "trunkline/header.userBits"], apart := false, laid := [("trunkline/header.userBits", laid_trunkline_header_userBits), ("trunkline/header.switchBits", laid_trunkline_header_switchBits)], narrowed := true }
def CellBuildsUptoSaid : Prop := cellBuildsUptoRow.holds Tryd.pinned (OpenSpec.upto cellBuildsSpec)

/-- 'trunklinelaw04.CellParses', WHERE WHAT IT READS IS OF BULK AT MOST 1048576: true; the input reads as it did. -/
def cellParsesUptoRow : OpenClaim := { program := "ytpifmljbaogcbaadoor", sum := "f4b0b01cdc5e64d06eb083705a4c6817630ccde4e53d36dc9404feb8a47ec783", func := "trunkline/trunklinelaw04.CellParses", spec := "cellParses", unfollowed := true, recurses := true, named := ["trunkline/header.switchBits", "trunkline/header.userBits"], apart := false, laid := [("trunkline/header.userBits", laid_trunkline_header_userBits), ("trunkline/header.switchBits", laid_trunkline_header_switchBits)], narrowed := true }
def CellParsesUptoSaid : Prop := cellParsesUptoRow.holds Tryd.pinned (OpenSpec.upto cellParsesSpec)

/-- 'trunklinelaw04.CellBack', WHERE WHAT IT READS IS OF BULK AT MOST 1048576: true; the input reads as it did. -/
def cellBackUptoRow : OpenClaim := { program := "ytpifmljbaogcbaadoor", sum := "f4b0b01cdc5e64d06eb083705a4c6817630ccde4e53d36dc9404feb8a47ec783", func := "trunkline/trunklinelaw04.CellBack", spec := "cellBack", unfollowed := true, recurses := true, named := ["trunkline/header.switchBits", "trunkline/header.userBits"], apart := false, laid := [("trunkline/header.userBits", laid_trunkline_header_userBits), ("trunkline/header.switchBits", laid_trunkline_header_switchBits)], narrowed := true }
def CellBackUptoSaid : Prop := cellBackUptoRow.holds Tryd.pinned (OpenSpec.upto cellBackSpec)

/-- 'trunklinelaw04.CellSeals', WHERE WHAT IT READS IS OF BULK AT MOST 1048576: true; the input reads as it did. -/
def cellSealsUptoRow : OpenClaim := { program := "ytpifmljbaogcbaadoor", sum := "f4b0b01cdc5e64d06eb083705a4c6817630ccde4e53d36dc9404feb8a47ec783", func := "trunkline/trunklinelaw04.CellSeals", spec := "cellSeals", unfollowed := true, recurses := true, named := ["trunkline/header.switchBits", "trunkline/header.userBits"], apart := false, laid := [("trunkline/header.userBits", laid_trunkline_header_userBits), ("trunkline/header.switchBits", laid_trunkline_header_switchBits)], narrowed := true }
def CellSealsUptoSaid : Prop := cellSealsUptoRow.holds Tryd.pinned (OpenSpec.upto cellSealsSpec)

/-- 'trunklinelaw04.CellEmpty', WHERE WHAT IT READS IS OF BULK AT MOST 1048576: true; the input reads as it did. -/
def cellEmptyUptoRow : OpenClaim := { program := "ytpifmljbaogcbaadoor", sum := "f4b0b01cdc5e64d06eb083705a4c6817630ccde4e53d36dc9404feb8a47ec783", func := "trunkline/trunklinelaw04.CellEmpty", spec := "cellEmpty", unfollowed := true, recurses := true, named := ["trunkline/header.switchBits", "trunkline/header.userBits"], apart := false, laid := [("trunkline/header.userBits", laid_trunkline_header_userBits), ("trunkline/header.switchBits", laid_trunkline_header_switchBits)], narrowed := true }
def CellEmptyUptoSaid : Prop := cellEmptyUptoRow.holds Tryd.pinned (OpenSpec.upto cellEmptySpec)

/-- 'trunklinelaw04.CellSides', WHERE WHAT IT READS IS OF BULK AT MOST 1048576: true; the input reads as it did. -/
def cellSidesUptoRow : OpenClaim := { program := "ytpifmljbaogcbaadoor", sum := "f4b0b01cdc5e64d06eb083705a4c6817630ccde4e53d36dc9404feb8a47ec783", func := "trunkline/trunklinelaw04.CellSides", spec := "cellSides", unfollowed := true, recurses := true, named := ["trunkline/header.switchBits", "trunkline/header.userBits"], apart := false, laid := [("trunkline/header.userBits", laid_trunkline_header_userBits), ("trunkline/header.switchBits", laid_trunkline_header_switchBits)], narrowed := true }
def CellSidesUptoSaid : Prop := cellSidesUptoRow.holds Tryd.pinned (OpenSpec.upto cellSidesSpec)

/-- 'trunklinelaw04.CellUnlike', WHERE WHAT IT READS IS OF BULK AT MOST 1048576: true; the input reads as it did. -/
def cellUnlikeUptoRow : OpenClaim := { program := "ytpifmljbaogcbaadoor", sum := "f4b0b01cdc5e64d06eb083705a4c6817630ccde4e53d36dc9404feb8a47ec783", func := "trunkline/trunklinelaw04.CellUnlike", spec := "cellUnlike", unfollowed := true, recurses := true, named := ["trunkline/header.switchBits", "trunkline/header.userBits"], apart := false, laid := [("trunkline/header.userBits", laid_trunkline_header_userBits), ("trunkline/header.switchBits", laid_trunkline_header_switchBits)], narrowed := true }
def CellUnlikeUptoSaid : Prop := cellUnlikeUptoRow.holds Tryd.pinned (OpenSpec.upto cellUnlikeSpec)

end Rows
end Go.Proofs.YtpifmljbaogcbaaDoor
