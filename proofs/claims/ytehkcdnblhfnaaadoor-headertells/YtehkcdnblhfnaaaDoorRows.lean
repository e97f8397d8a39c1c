/-
  NARROWER THAN 'FOR EVERY INPUT', by the rows' own cells (each row's printed sentence says how): HeaderTells: laid · HeaderBack: laid · HeaderKinds: laid · HeaderSides: laid · HeaderShort: laid · HeaderUnlike: laid.
  DERIVED. THE GIVEN ROWS OF THIS SEAT. 6 by the template 'for every input the law returns true; each argument reads behind the call as it read before'; 0 by the template 'total and deterministic' (their statements: YtehkcdnblhfnaaaDoorTotals.lean).
  GIVEN WITH THE SEED: the statements are not yours to turn. If you find one false, say at which input.
  Laid BY PROGRAM, IN A SANDBOX (cutbox-rows.mjs): the forced cells as the released guide's own fill.sh prints them over the translation 47dddecd108423ec… (all of the seat's roots in one cut). By AI agents, Wed Nov 11 2026. No macro, syntax, notation, axiom, sorry.
-/
import Derived.Test.YtehkcdnblhfnaaaDoorChecked
import GoSem.Claim
import GoSem.ClaimJoined
import GoSem.ClaimMapViews
import Derived.JoinedTies
import Derived.KernelRfl
namespace Go.Proofs.YtehkcdnblhfnaaaDoor
/- THE CELL 'sum', in the pinned program and in every row, IS THE sha256 OF THE DUMP (.gsa) THAT YtehkcdnblhfnaaaDoorProg.lean LOADS. Nothing in Lean hashes anything: it is a label: what it is worth is what the hold of that sum in a sandbox is worth. -/
noncomputable def Tryd.pinned : Pinned := { name := "ytehkcdnblhfnaaadoor", sum := "47dddecd108423ec0fb83808dac1835426c67afe8bf3730015daada55dd9a4b9", checked := Tryd.checked }
namespace Rows
def none {H : Type} : Left H := { results := [], args := [] }

/- WHAT THE LISTED PACKAGE-LEVEL VARIABLES READ AS WHEN THE CALL BEGINS. Each datum BY PROGRAM (the guide's laid-datum.mjs) off the statement by which the dump's own 'gosem.cut.vars' lays the variable. In a bare row this is a premise. The card (YtehkcdnblhfnaaaDoorCards.lean) ties it to the program's text. -/
def laid_trunkline_header_userBits {H : Type} : DataW H := .agg [.lit (.int .u64 4), .lit (.int .u64 8), .lit (.int .u64 16), .lit (.int .u64 3), .lit (.int .u64 1)]
def laid_trunkline_header_switchBits {H : Type} : DataW H := .agg [.lit (.int .u64 0), .lit (.int .u64 12), .lit (.int .u64 16), .lit (.int .u64 3), .lit (.int .u64 1)]

/-- 'trunklinelaw02.HeaderTells': WHATEVER THE INPUT: true; the input reads as it did. -/
def headerTellsSpec : ChangeSpec := { name := "headerTells", fn := fun _ => fun
  | [d1, d2, d3] => { results := [.lit (.bool true)], args := [d1, d2, d3] }
  | _ => none }
def headerTellsRow : OpenClaim := { program := "ytehkcdnblhfnaaadoor", sum := "47dddecd108423ec0fb83808dac1835426c67afe8bf3730015daada55dd9a4b9", func := "trunkline/trunklinelaw02.HeaderTells", spec := "headerTells", named := ["trunkline/header.switchBits", "trunkline/header.userBits"], apart := false, laid := [("trunkline/header.userBits", laid_trunkline_header_userBits), ("trunkline/header.switchBits", laid_trunkline_header_switchBits)] }
def HeaderTellsSaid : Prop := headerTellsRow.holds Tryd.pinned (OpenSpec.ofChange headerTellsSpec)

/-- ITS FALSE NEIGHBOUR: 'it returns false'. Refute it at one input. -/
def headerTellsWrong : ChangeSpec := { name := "headerTells", fn := fun _ => fun
  | [d1, d2, d3] => { results := [.lit (.bool false)], args := [d1, d2, d3] }
  | _ => none }
def HeaderTellsWrongFalsely : Prop := headerTellsRow.holds Tryd.pinned (OpenSpec.ofChange headerTellsWrong)

/-- 'trunklinelaw02.HeaderBack': WHATEVER THE INPUT: true; the input reads as it did. -/
def headerBackSpec : ChangeSpec := { name := "headerBack", fn := fun _ => fun
  | [d1, d2, d3] => { results := [.lit (.bool true)], args := [d1, d2, d3] }
  | _ => none }
def headerBackRow : OpenClaim := { program := "ytehkcdnblhfnaaadoor", sum := "47dddecd108423ec0fb83808dac1835426c67afe8bf3730015daada55dd9a4b9", func := "trunkline/trunklinelaw02.HeaderBack", spec := "headerBack", named := ["trunkline/header.switchBits", "trunkline/header.userBits"], apart := false, laid := [("trunkline/header.userBits", laid_trunkline_header_userBits), ("trunkline/header.switchBits", laid_trunkline_header_switchBits)] }
def HeaderBackSaid : Prop := headerBackRow.holds Tryd.pinned (OpenSpec.ofChange headerBackSpec)

/-- ITS FALSE NEIGHBOUR: 'it returns false'. Refute it at one input. -/
def headerBackWrong : ChangeSpec := { name := "headerBack", fn := fun _ => fun
  | [d1, d2, d3] => { results := [.lit (.bool false)], args := [d1, d2, d3] }
  | _ => none }
def HeaderBackWrongFalsely : Prop := headerBackRow.holds Tryd.pinned (OpenSpec.ofChange headerBackWrong)

/-- 'trunklinelaw02.HeaderKinds': WHATEVER THE INPUT: true; the input reads as it did. -/
def headerKindsSpec : ChangeSpec := { name := "headerKinds", fn := fun _ => fun
  | [d1, d2, d3] => { results := [.lit (.bool true)], args := [d1, d2, d3] }
  | _ => none }
def headerKindsRow : OpenClaim := { program := "ytehkcdnblhfnaaadoor", sum := "47dddecd108423ec0fb83808dac1835426c67afe8bf3730015daada55dd9a4b9", func := "trunkline/trunklinelaw02.HeaderKinds", spec := "headerKinds", named := ["trunkline/header.switchBits", "trunkline/header.userBits"], apart := false, laid := [("trunkline/header.userBits", laid_trunkline_header_userBits), ("trunkline/header.switchBits", laid_trunkline_header_switchBits)] }
def HeaderKindsSaid : Prop := headerKindsRow.holds Tryd.pinned (OpenSpec.ofChange headerKindsSpec)

/-- ITS FALSE NEIGHBOUR: 'it returns false'. Refute it at one input. -/
def headerKindsWrong : ChangeSpec := { name := "headerKinds", fn := fun _ => fun
  | [d1, d2, d3] => { results := [.lit (.bool false)], args := [d1, d2, d3] }
  | _ => none }
def HeaderKindsWrongFalsely : Prop := headerKindsRow.holds Tryd.pinned (OpenSpec.ofChange headerKindsWrong)

/-- 'trunklinelaw02.HeaderSides': WHATEVER THE INPUT: true; the input reads as it did. -/
def headerSidesSpec : ChangeSpec := { name := "headerSides", fn := fun _ => fun
  | [d] => { results := [.lit (.bool true)], args := [d] }
  | _ => none }
def headerSidesRow : OpenClaim := { program := "ytehkcdnblhfnaaadoor", sum := "47dddecd108423ec0fb83808dac1835426c67afe8bf3730015daada55dd9a4b9", func := "trunkline/trunklinelaw02.HeaderSides", spec := "headerSides", named := ["trunkline/header.switchBits", "trunkline/header.userBits"], apart := false, laid := [("trunkline/header.userBits", laid_trunkline_header_userBits), ("trunkline/header.switchBits", laid_trunkline_header_switchBits)] }
def HeaderSidesSaid : Prop := headerSidesRow.holds Tryd.pinned (OpenSpec.ofChange headerSidesSpec)

/-- ITS FALSE NEIGHBOUR: 'it returns false'. Refute it at one input. -/
def headerSidesWrong : ChangeSpec := { name := "headerSides", fn := fun _ => fun
  | [d] => { results := [.lit (.bool false)], args := [d] }
  | _ => none }
def HeaderSidesWrongFalsely : Prop := headerSidesRow.holds Tryd.pinned (OpenSpec.ofChange headerSidesWrong)

/-- 'trunklinelaw02.HeaderShort': WHATEVER THE INPUT: true; the input reads as it did. -/
def headerShortSpec : ChangeSpec := { name := "headerShort", fn := fun _ => fun
  | [d1, d2] => { results := [.lit (.bool true)], args := [d1, d2] }
  | _ => none }
def headerShortRow : OpenClaim := { program := "ytehkcdnblhfnaaadoor", sum := "47dddecd108423ec0fb83808dac1835426c67afe8bf3730015daada55dd9a4b9", func := "trunkline/trunklinelaw02.HeaderShort", spec := "headerShort", named := ["trunkline/header.switchBits", "trunkline/header.userBits"], apart := false, laid := [("trunkline/header.userBits", laid_trunkline_header_userBits), ("trunkline/header.switchBits", laid_trunkline_header_switchBits)] }
def HeaderShortSaid : Prop := headerShortRow.holds Tryd.pinned (OpenSpec.ofChange headerShortSpec)

/-- ITS FALSE NEIGHBOUR: 'it returns false'. Refute it at one input. -/
def headerShortWrong : ChangeSpec := { name := "headerShort", fn := fun _ => fun
  | [d1, d2] => { results := [.lit (.bool false)], args := [d1, d2] }
  | _ => none }
def HeaderShortWrongFalsely : Prop := headerShortRow.holds Tryd.pinned (OpenSpec.ofChange headerShortWrong)

/-- 'trunklinelaw02.HeaderUnlike': WHATEVER THE INPUT: true; the input reads as it did. -/
def headerUnlikeSpec : ChangeSpec := { name := "headerUnlike", fn := fun _ => fun
  | [d1, d2, d3, d4, d5] => { results := [.lit (.bool true)], args := [d1, d2, d3, d4, d5] }
  | _ => none }
def headerUnlikeRow : OpenClaim := { program := "ytehkcdnblhfnaaadoor", sum := "47dddecd108423ec0fb83808dac1835426c67afe8bf3730015daada55dd9a4b9", func := "trunkline/trunklinelaw02.HeaderUnlike", spec := "headerUnlike", named := ["trunkline/header.switchBits", "trunkline/header.userBits"], apart := false, laid := [("trunkline/header.userBits", laid_trunkline_header_userBits), ("trunkline/header.switchBits", laid_trunkline_header_switchBits)] }
def HeaderUnlikeSaid : Prop := headerUnlikeRow.holds Tryd.pinned (OpenSpec.ofChange headerUnlikeSpec)

/-- ITS FALSE NEIGHBOUR: 'it returns false'. Refute it at one input. -/
def headerUnlikeWrong : ChangeSpec := { name := "headerUnlike", fn := fun _ => fun
  | [d1, d2, d3, d4, d5] => { results := [.lit (.bool false)], args := [d1, d2, d3, d4, d5] }
  | _ => none }
def HeaderUnlikeWrongFalsely : Prop := headerUnlikeRow.holds Tryd.pinned (OpenSpec.ofChange headerUnlikeWrong)

/- THE SECOND FORM. 'bulk': how many values and letters a reading holds, each counted each time it is reached (what is shared counts as often as it is met; a slice's spare places count too). A statement '..UptoSaid' is the law's where the arguments, and the package variables that the reading takes, are together of bulk at most 1048576: NARROWER than '..Said'. Prove '..Said' where nothing that the law and all that it calls make is longer than what came in: it says more and counts as full. Else prove '..UptoSaid'. A law counts once. -/
mutual
def uptoBulk {H : Type} : DataW H → Nat
  | .lit (.string bytes) => bytes.length + 1
  | .lit _ => 1
  | .nil => 1
  | .ptr d => uptoBulk d + 1
  | .slice elems spare => uptoBulkAll elems + uptoBulkAll spare + 1
  | .agg parts => uptoBulkAll parts + 1
  | .iface _ d => uptoBulk d + 1
  | .map entries => uptoBulkEntries entries + 1
  | .held _ => 1
def uptoBulkAll {H : Type} : List (DataW H) → Nat
  | [] => 0
  | d :: r => uptoBulk d + uptoBulkAll r
def uptoBulkEntries {H : Type} : List (Lit × DataW H) → Nat
  | [] => 0
  | x :: r => uptoBulkEntry x + uptoBulkEntries r
def uptoBulkEntry {H : Type} : Lit × DataW H → Nat
  | (.string bytes, d) => bytes.length + uptoBulk d + 1
  | (_, d) => uptoBulk d + 1
 end
def uptoSmall : (H : Type) → List (DataW H) → Bool := fun _ ds => decide (uptoBulkAll ds ≤ 1048576)
def OpenSpec.upto (s : _root_.Go.ChangeSpec) : _root_.Go.OpenSpec := { _root_.Go.OpenSpec.ofChange s with cond := some uptoSmall }

/-- 'trunklinelaw02.HeaderTells', WHERE WHAT IT READS IS OF BULK AT MOST 1048576: true; the input reads as it did. -/
def headerTellsUptoRow : OpenClaim := { program := "ytehkcdnblhfnaaadoor", sum := "47dddecd108423ec0fb83808dac1835426c67afe8bf3730015daada55dd9a4b9", func := "trunkline/trunklinelaw02.HeaderTells", spec := "headerTells", named := ["trunkline/header.switchBits", "trunkline/header.userBits"], apart := false, laid := [("trunkline/header.userBits", laid_trunkline_header_userBits), ("trunkline/header.switchBits", laid_trunkline_header_switchBits)], narrowed := true }
def HeaderTellsUptoSaid : Prop := headerTellsUptoRow.holds Tryd.pinned (OpenSpec.upto headerTellsSpec)

/-- 'trunklinelaw02.HeaderBack', WHERE WHAT IT READS IS OF BULK AT MOST 1048576: true; the input reads as it did. -/
def headerBackUptoRow : OpenClaim := { program := "ytehkcdnblhfnaaadoor", sum := "47dddecd108423ec0fb83808dac1835426c67afe8bf3730015daada55dd9a4b9", func := "trunkline/trunklinelaw02.HeaderBack", spec := "headerBack", named := ["trunkline/header.switchBits", "trunkline/header.userBits"], apart := false, laid := [("trunkline/header.userBits", laid_trunkline_header_userBits), ("trunkline/header.switchBits", laid_trunkline_header_switchBits)], narrowed := true }
def HeaderBackUptoSaid : Prop := headerBackUptoRow.holds Tryd.pinned (OpenSpec.upto headerBackSpec)

/-- 'trunklinelaw02.HeaderKinds', WHERE WHAT IT READS IS OF BULK AT MOST 1048576: true; the input reads as it did. -/
def headerKindsUptoRow : OpenClaim := { program := "ytehkcdnblhfnaaadoor", sum := "47dddecd108423ec0fb83808dac1835426c67afe8bf3730015daada55dd9a4b9", func := "trunkline/trunklinelaw02.HeaderKinds", spec := "headerKinds", named := ["trunkline/header.switchBits", "trunkline/header.userBits"], apart := false, laid := [("trunkline/header.userBits", laid_trunkline_header_userBits), ("trunkline/header.switchBits", laid_trunkline_header_switchBits)], narrowed := true }
def HeaderKindsUptoSaid : Prop := headerKindsUptoRow.holds Tryd.pinned (OpenSpec.upto headerKindsSpec)

/-- 'trunklinelaw02.HeaderSides', WHERE WHAT IT READS IS OF BULK AT MOST 1048576: true; the input reads as it did. -/
def headerSidesUptoRow : OpenClaim := { program := "ytehkcdnblhfnaaadoor", sum := "47dddecd108423ec0fb83808dac1835426c67afe8bf3730015daada55dd9a4b9", func := "trunkline/trunklinelaw02.HeaderSides", spec := "headerSides", named := ["trunkline/header.switchBits", "trunkline/header.userBits"], apart := false, laid := [("trunkline/header.userBits", laid_trunkline_header_userBits), ("trunkline/header.switchBits", laid_trunkline_header_switchBits)], narrowed := true }
def HeaderSidesUptoSaid : Prop := headerSidesUptoRow.holds Tryd.pinned (OpenSpec.upto headerSidesSpec)

/-- 'trunklinelaw02.HeaderShort', WHERE WHAT IT READS IS OF BULK AT MOST 1048576: true; the input reads as it did. -/
def headerShortUptoRow : OpenClaim := { program := "ytehkcdnblhfnaaadoor", sum := "47dddecd108423ec0fb83808dac1835426c67afe8bf3730015daada55dd9a4b9", func := "trunkline/trunklinelaw02.HeaderShort", spec := "headerShort", named := ["trunkline/header.switchBits", "trunkline/header.userBits"], apart := false, laid := [("trunkline/header.userBits", laid_trunkline_header_userBits), ("trunkline/header.switchBits", laid_trunkline_header_switchBits)], narrowed := true }
def HeaderShortUptoSaid : Prop := headerShortUptoRow.holds Tryd.pinned (OpenSpec.upto headerShortSpec)

/-- 'trunklinelaw02.HeaderUnlike', WHERE WHAT IT READS IS OF BULK AT MOST 1048576: true; the input reads as it did. -/
def headerUnlikeUptoRow : OpenClaim := { program := "ytehkcdnblhfnaaadoor", sum := "47dddecd108423ec0fb83808dac1835426c67afe8bf3730015daada55dd9a4b9", func := "trunkline/trunklinelaw02.HeaderUnlike", spec := "headerUnlike", named := ["trunkline/header.switchBits", "trunkline/header.userBits"], apart := false, laid := [("trunkline/header.userBits", laid_trunkline_header_userBits), ("trunkline/header.switchBits", laid_trunkline_header_switchBits)], narrowed := true }
def HeaderUnlikeUptoSaid : Prop := headerUnlikeUptoRow.holds Tryd.pinned (OpenSpec.upto headerUnlikeSpec)

end Rows
end Go.Proofs.YtehkcdnblhfnaaaDoor
