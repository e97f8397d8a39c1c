/-
  NARROWER THAN 'FOR EVERY INPUT', by the rows' own cells (each row's printed sentence says how): MessagePacks: laid · MessageAnswers: laid · MessageBack: laid · MessageSides: laid · MessageKinds: laid · MessageFrames: laid.
  DERIVED. THE GIVEN ROWS OF THIS SEAT. 6 by the template 'for every input the law returns true; each argument reads behind the call as it read before'; 0 by the template 'total and deterministic' (their statements: YtbjeljmnknibnaaDoorTotals.lean).
  GIVEN WITH THE SEED: the statements are not yours to turn. If you find one false, say at which input.
  Laid BY PROGRAM, IN A SANDBOX (cutbox-rows.mjs): the forced cells as the released guide's own fill.sh prints them over the translation 6a06057f2ce48cf6… (all of the seat's roots in one cut). By AI agents, Wed Nov 11 2026. No macro, syntax, notation, axiom, sorry.
-/
import Derived.Test.YtbjeljmnknibnaaDoorChecked
import GoSem.Claim
import GoSem.ClaimJoined
import GoSem.ClaimMapViews
import Derived.JoinedTies
import Derived.KernelRfl
namespace Go.Proofs.YtbjeljmnknibnaaDoor
/- THE CELL 'sum', in the pinned program and in every row, IS THE sha256 OF THE DUMP (.gsa) THAT YtbjeljmnknibnaaDoorProg.lean LOADS. Nothing in Lean hashes anything: it is a label: what it is worth is what the hold of that sum in a sandbox is worth. -/
noncomputable def Tryd.pinned : Pinned := { name := "ytbjeljmnknibnaadoor", sum := "6a06057f2ce48cf64b38cb12e291480036c3fefee62fa42ff40cbd0d7c393b43", checked := Tryd.checked }
namespace Rows
def none {H : Type} : Left H := { results := [], args := [] }

/- WHAT THE LISTED PACKAGE-LEVEL VARIABLES READ AS WHEN THE CALL BEGINS. Each datum BY PROGRAM (the guide's laid-datum.mjs) off the statement by which the dump's own 'gosem.cut.vars' lays the variable. In a bare row this is a premise. The card (YtbjeljmnknibnaaDoorCards.lean) ties it to the program's text. -/
def laid_trunkline_message_kinds {H : Type} : DataW H := .agg [.lit (.int .i64 2), .lit (.int .i64 5), .lit (.int .i64 7), .lit (.int .i64 77), .lit (.int .i64 90)]

/-- 'trunklinelaw16.MessagePacks': WHATEVER THE INPUT: true; the input reads as it did. -/
def messagePacksSpec : ChangeSpec := { name := "messagePacks", fn := fun _ => fun
  | [d1, d2] => { results := [.lit (.bool true)], args := [d1, d2] }
  | _ => none }
def messagePacksRow : OpenClaim := { program := "ytbjeljmnknibnaadoor", sum := "6a06057f2ce48cf64b38cb12e291480036c3fefee62fa42ff40cbd0d7c393b43", func := "trunkline/trunklinelaw16.MessagePacks", spec := "messagePacks", unfollowed := true, recurses := true, named := ["trunkline/message.kinds"], apart := false, laid := [("trunkline/message.kinds", laid_trunkline_message_kinds)] }
def MessagePacksSaid : Prop := messagePacksRow.holds Tryd.pinned (OpenSpec.ofChange messagePacksSpec)

/-- ITS FALSE NEIGHBOUR: 'it returns false'. Refute it at one input. -/
def messagePacksWrong : ChangeSpec := { name := "messagePacks", fn := fun _ => fun
  | [d1, d2] => { results := [.lit (.bool false)], args := [d1, d2] }
  | _ => none }
def MessagePacksWrongFalsely : Prop := messagePacksRow.holds Tryd.pinned (OpenSpec.ofChange messagePacksWrong)

/-- 'trunklinelaw16.MessageAnswers': WHATEVER THE INPUT: true; the input reads as it did. -/
def messageAnswersSpec : ChangeSpec := { name := "messageAnswers", fn := fun _ => fun
  | [d1, d2, d3] => { results := [.lit (.bool true)], args := [d1, d2, d3] }
  | _ => none }
def messageAnswersRow : OpenClaim := { program := "ytbjeljmnknibnaadoor", sum := "6a06057f2ce48cf64b38cb12e291480036c3fefee62fa42ff40cbd0d7c393b43", func := "trunkline/trunklinelaw16.MessageAnswers", spec := "messageAnswers", unfollowed := true, recurses := true, named := ["trunkline/message.kinds"], apart := false, laid := [("trunkline/message.kinds", laid_trunkline_message_kinds)] }
def MessageAnswersSaid : Prop := messageAnswersRow.holds Tryd.pinned (OpenSpec.ofChange messageAnswersSpec)

/-- ITS FALSE NEIGHBOUR: 'it returns false'. Refute it at one input. -/
def messageAnswersWrong : ChangeSpec := { name := "messageAnswers", fn := fun _ => fun
  | [d1, d2, d3] => { results := [.lit (.bool false)], args := [d1, d2, d3] }
  | _ => none }
def MessageAnswersWrongFalsely : Prop := messageAnswersRow.holds Tryd.pinned (OpenSpec.ofChange messageAnswersWrong)

/-- 'trunklinelaw16.MessageBack': WHATEVER THE INPUT: true; the input reads as it did. -/
def messageBackSpec : ChangeSpec := { name := "messageBack", fn := fun _ => fun
  | [d1, d2, d3, d4] => { results := [.lit (.bool true)], args := [d1, d2, d3, d4] }
  | _ => none }
def messageBackRow : OpenClaim := { program := "ytbjeljmnknibnaadoor", sum := "6a06057f2ce48cf64b38cb12e291480036c3fefee62fa42ff40cbd0d7c393b43", func := "trunkline/trunklinelaw16.MessageBack", spec := "messageBack", unfollowed := true, recurses := true, named := ["trunkline/message.kinds"], apart := false, laid := [("trunkline/message.kinds", laid_trunkline_message_kinds)] }
def MessageBackSaid : Prop := messageBackRow.holds Tryd.pinned (OpenSpec.ofChange messageBackSpec)

/-- ITS FALSE NEIGHBOUR: 'it returns false'. Refute it at one input. -/
def messageBackWrong : ChangeSpec := { name := "messageBack", fn := fun _ => fun
  | [d1, d2, d3, d4] => { results := [.lit (.bool false)], args := [d1, d2, d3, d4] }
  | _ => none }
def MessageBackWrongFalsely : Prop := messageBackRow.holds Tryd.pinned (OpenSpec.ofChange messageBackWrong)

/-- 'trunklinelaw16.MessageSides': WHATEVER THE INPUT: true; the input reads as it did. -/
def messageSidesSpec : ChangeSpec := { name := "messageSides", fn := fun _ => fun
  | [d1, d2, d3] => { results := [.lit (.bool true)], args := [d1, d2, d3] }
  | _ => none }
def messageSidesRow : OpenClaim := { program := "ytbjeljmnknibnaadoor", sum := "6a06057f2ce48cf64b38cb12e291480036c3fefee62fa42ff40cbd0d7c393b43", func := "trunkline/trunklinelaw16.MessageSides", spec := "messageSides", unfollowed := true, recurses := true, named := ["trunkline/message.kinds"], apart := false, laid := [("trunkline/message.kinds", laid_trunkline_message_kinds)] }
def MessageSidesSaid : Prop := messageSidesRow.holds Tryd.pinned (OpenSpec.ofChange messageSidesSpec)

/-- ITS FALSE NEIGHBOUR: 'it returns false'. Refute it at one input. -/
def messageSidesWrong : ChangeSpec := { name := "messageSides", fn := fun _ => fun
  | [d1, d2, d3] => { results := [.lit (.bool false)], args := [d1, d2, d3] }
  | _ => none }
def MessageSidesWrongFalsely : Prop := messageSidesRow.holds Tryd.pinned (OpenSpec.ofChange messageSidesWrong)

/-- 'trunklinelaw16.MessageKinds': WHATEVER THE INPUT: true; the input reads as it did. -/
def messageKindsSpec : ChangeSpec := { name := "messageKinds", fn := fun _ => fun
  | [d1, d2, d3] => { results := [.lit (.bool true)], args := [d1, d2, d3] }
  | _ => none }
def messageKindsRow : OpenClaim := { program := "ytbjeljmnknibnaadoor", sum := "6a06057f2ce48cf64b38cb12e291480036c3fefee62fa42ff40cbd0d7c393b43", func := "trunkline/trunklinelaw16.MessageKinds", spec := "messageKinds", unfollowed := true, recurses := true, named := ["trunkline/message.kinds"], apart := false, laid := [("trunkline/message.kinds", laid_trunkline_message_kinds)] }
def MessageKindsSaid : Prop := messageKindsRow.holds Tryd.pinned (OpenSpec.ofChange messageKindsSpec)

/-- ITS FALSE NEIGHBOUR: 'it returns false'. Refute it at one input. -/
def messageKindsWrong : ChangeSpec := { name := "messageKinds", fn := fun _ => fun
  | [d1, d2, d3] => { results := [.lit (.bool false)], args := [d1, d2, d3] }
  | _ => none }
def MessageKindsWrongFalsely : Prop := messageKindsRow.holds Tryd.pinned (OpenSpec.ofChange messageKindsWrong)

/-- 'trunklinelaw16.MessageFrames': WHATEVER THE INPUT: true; the input reads as it did. -/
def messageFramesSpec : ChangeSpec := { name := "messageFrames", fn := fun _ => fun
  | [d1, d2] => { results := [.lit (.bool true)], args := [d1, d2] }
  | _ => none }
def messageFramesRow : OpenClaim := { program := "ytbjeljmnknibnaadoor", sum := "6a06057f2ce48cf64b38cb12e291480036c3fefee62fa42ff40cbd0d7c393b43", func := "trunkline/trunklinelaw16.MessageFrames", spec := "messageFrames", unfollowed := true, recurses := true, named := ["trunkline/message.kinds"], apart := false, laid := [("trunkline/message.kinds", laid_trunkline_message_kinds)] }
def MessageFramesSaid : Prop := messageFramesRow.holds Tryd.pinned (OpenSpec.ofChange messageFramesSpec)

/-- ITS FALSE NEIGHBOUR: 'it returns false'. Refute it at one input. -/
def messageFramesWrong : ChangeSpec := { name := "messageFrames", fn := fun _ => fun
  | [d1, d2] => { results := [.lit (.bool false)], args := [d1, d2] }
  | _ => none }
def MessageFramesWrongFalsely : Prop := messageFramesRow.holds Tryd.pinned (OpenSpec.ofChange messageFramesWrong)

/- THE SECOND FORM. 'bulk': how many values and letters a reading holds, each counted each time it is reached (what is shared counts as often as it is met; a slice's spare places count too). A statement '..UptoSaid' is the law's where the arguments, and the package variables that the reading takes, are together of bulk at most 1048576: NARROWER than '..Said'. Prove '..Said' where nothing that the law and all that it calls make is longer than what came in: it says more and counts as full. Else prove '..UptoSaid'. A law counts once. -/
mutual
def uptoBulk {H : Type} : DataW H → Nat
  | .lit (.string bytes) => bytes.length + 1
  | .lit _ => 1
  | .nil => 1
  | .ptr d => uptoBulk d + 1
  | .slice elems spare => uptoBulkAll elems + uptoBulkAll spare + 1
  | .agg parts => uptoBulkAll parts + 1
  | .iface _ d => uptoBulk d + 1
  | .map entries => uptoBulkEntries entries + 1
  | .held _ => 1
def uptoBulkAll {H : Type} : List (DataW H) → Nat
  | [] => 0
  | d :: r => uptoBulk d + uptoBulkAll r
def uptoBulkEntries {H : Type} : List (Lit × DataW H) → Nat
  | [] => 0
  | x :: r => uptoBulkEntry x + uptoBulkEntries r
def uptoBulkEntry {H : Type} : Lit × DataW H → Nat
  | (.string bytes, d) => bytes.length + uptoBulk d + 1
  | (_, d) => uptoBulk d + 1
 end
def uptoSmall : (H : Type) → List (DataW H) → Bool := fun _ ds => decide (uptoBulkAll ds ≤ 1048576)
def OpenSpec.upto (s : _root_.Go.ChangeSpec) : _root_.Go.OpenSpec := { _root_.Go.OpenSpec.ofChange s with cond := some uptoSmall }

/-- 'trunklinelaw16.MessagePacks', WHERE WHAT IT READS IS OF BULK AT MOST 1048576: true; the input reads as it did. -/
def messagePacksUptoRow : OpenClaim := { program := "ytbjeljmnknibnaadoor", sum := "6a06057f2ce48cf64b38cb12e291480036c3fefee62fa42ff40cbd0d7c393b43", func := "trunkline/trunklinelaw16.MessagePacks", spec := "messagePacks", unfollowed := true, recurses := true, named := ["trunkline/message.kinds"], apart := false, laid := [("trunkline/message.kinds", laid_trunkline_message_kinds)], narrowed := true }
def MessagePacksUptoSaid : Prop := messagePacksUptoRow.holds Tryd.pinned (OpenSpec.upto messagePacksSpec)

/-- 'trunklinelaw16.MessageAnswers', WHERE WHAT IT READS IS OF BULK AT MOST 1048576: true; the input reads as it did. -/
def messageAnswersUptoRow : OpenClaim := { program := "ytbjeljmnknibnaadoor", sum := "6a06057f2ce48cf64b38cb12e291480036c3fefee62fa42ff40cbd0d7c393b43", func := "trunkline/trunklinelaw16.MessageAnswers", spec := "messageAnswers", unfollowed := true, recurses := true, named := ["trunkline/message.kinds"], apart := false, laid := [("trunkline/message.kinds", laid_trunkline_message_kinds)], narrowed := true }
def MessageAnswersUptoSaid : Prop := messageAnswersUptoRow.holds Tryd.pinned (OpenSpec.upto messageAnswersSpec)

/-- 'trunklinelaw16.MessageBack', WHERE WHAT IT READS IS OF BULK AT MOST 1048576: true; the input reads as it did. -/
def messageBackUptoRow : OpenClaim := { program := "ytbjeljmnknibnaadoor", sum := "6a06057f2ce48cf64b38cb12e291480036c3fefee62fa42ff40cbd0d7c393b43", func := "trunkline/trunklinelaw16.MessageBack", spec := "messageBack", unfollowed := true, recurses := true, named := ["trunkline/message.kinds"], apart := false, laid := [("trunkline/message.kinds", laid_trunkline_message_kinds)], narrowed := true }
def MessageBackUptoSaid : Prop := messageBackUptoRow.holds Tryd.pinned (OpenSpec.upto messageBackSpec)

/-- 'trunklinelaw16.MessageSides', WHERE WHAT IT READS IS OF BULK AT MOST 1048576: true; the input reads as it did. -/
def messageSidesUptoRow : OpenClaim := { program := "ytbjeljmnknibnaadoor", sum := "6a06057f2ce48cf64b38cb12e291480036c3fefee62fa42ff40cbd0d7c393b43", func := "trunkline/trunklinelaw16.MessageSides", spec := "messageSides", unfollowed := true, recurses := true, named := ["trunkline/message.kinds"], apart := false, laid := [("trunkline/message.kinds", laid_trunkline_message_kinds)], narrowed := true }
def MessageSidesUptoSaid : Prop := messageSidesUptoRow.holds Tryd.pinned (OpenSpec.upto messageSidesSpec)

/-- 'trunklinelaw16.MessageKinds', WHERE WHAT IT READS IS OF BULK AT MOST 1048576: true; the input reads as it did. -/
def messageKindsUptoRow : OpenClaim := { program := "ytbjeljmnknibnaadoor", sum := "6a06057f2ce48cf64b38cb12e291480036c3fefee62fa42ff40cbd0d7c393b43", func := "trunkline/trunklinelaw16.MessageKinds", spec := "messageKinds", unfollowed := true, recurses := true, named := ["trunkline/message.kinds"], apart := false, laid := [("trunkline/message.kinds", laid_trunkline_message_kinds)], narrowed := true }
def MessageKindsUptoSaid : Prop := messageKindsUptoRow.holds Tryd.pinned (OpenSpec.upto messageKindsSpec)

/-- 'trunklinelaw16.MessageFrames', WHERE WHAT IT READS IS OF BULK AT MOST 1048576: true; the input reads as it did. -/
def messageFramesUptoRow : OpenClaim := { program := "ytbjeljmnknibnaadoor", sum := "6a06057f2ce48cf64b38cb12e291480036c3fefee62fa42ff40cbd0d7c393b43", func := "trunkline/trunklinelaw16.MessageFrames", spec := "messageFrames", unfollowed := true, recurses := true, named := ["trunkline/message.kinds"], apart := false, laid := [("trunkline/message.kinds", laid_trunkline_message_kinds)], narrowed := true }
def MessageFramesUptoSaid : Prop := messageFramesUptoRow.holds Tryd.pinned (OpenSpec.upto messageFramesSpec)

end Rows
end Go.Proofs.YtbjeljmnknibnaaDoor
