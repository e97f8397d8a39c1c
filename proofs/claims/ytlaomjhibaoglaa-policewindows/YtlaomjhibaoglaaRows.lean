/-
  No cell of these rows narrows 'for every input' (looked for: loops, veiled, ifaces, maps, wideKeys, modest, calm, conditions, laid).
  DERIVED. THE GIVEN ROWS OF THIS SEAT. 6 by the template 'for every input the law returns true; each argument reads behind the call as it read before'; 0 by the template 'total and deterministic' (their statements: YtlaomjhibaoglaaTotals.lean).
  GIVEN WITH THE SEED: the statements are not yours to turn. If you find one false, say at which input.
  Laid BY PROGRAM, IN A SANDBOX (cutbox-rows.mjs): the forced cells as the released guide's own fill.sh prints them over the translation 6d902e15305aa823… (all of the seat's roots in one cut). By AI agents, Wed Nov 11 2026. No macro, syntax, notation, axiom, sorry.
-/
import Derived.Test.YtlaomjhibaoglaaChecked
import GoSem.Claim
import GoSem.ClaimJoined
import GoSem.ClaimMapViews
import Derived.JoinedTies
import Derived.KernelRfl
namespace Go.Proofs.Ytlaomjhibaoglaa
/- THE CELL 'sum', in the pinned program and in every row, IS THE sha256 OF THE DUMP (.gsa) THAT YtlaomjhibaoglaaProg.lean LOADS. Nothing in Lean hashes anything: it is a label: what it is worth is what the hold of that sum in a sandbox is worth. -/
noncomputable def Try.pinned : Pinned := { name := "ytlaomjhibaoglaa", sum := "6d902e15305aa82336fee678e38c32939eab963bf2880acb7b8402a82cf100da", checked := Try.checked }
namespace Rows
def none {H : Type} : Left H := { results := [], args := [] }

/-- 'trunklinelaw07.PoliceWindows': WHATEVER THE INPUT: true; the input reads as it did. -/
def policeWindowsSpec : ChangeSpec := { name := "policeWindows", fn := fun _ => fun
  | [d1, d2] => { results := [.lit (.bool true)], args := [d1, d2] }
  | _ => none }
def policeWindowsRow : OpenClaim := { program := "ytlaomjhibaoglaa", sum := "6d902e15305aa82336fee678e38c32939eab963bf2880acb7b8402a82cf100da", func := "trunkline/trunklinelaw07.PoliceWindows", spec := "policeWindows", unfollowed := true, recurses := true, apart := false }
def PoliceWindowsSaid : Prop := policeWindowsRow.holds Try.pinned (OpenSpec.ofChange policeWindowsSpec)

/-- ITS FALSE NEIGHBOUR: 'it returns false'. Refute it at one input. -/
def policeWindowsWrong : ChangeSpec := { name := "policeWindows", fn := fun _ => fun
  | [d1, d2] => { results := [.lit (.bool false)], args := [d1, d2] }
  | _ => none }
def PoliceWindowsWrongFalsely : Prop := policeWindowsRow.holds Try.pinned (OpenSpec.ofChange policeWindowsWrong)

/-- 'trunklinelaw07.PoliceSpaced': WHATEVER THE INPUT: true; the input reads as it did. -/
def policeSpacedSpec : ChangeSpec := { name := "policeSpaced", fn := fun _ => fun
  | [d1, d2] => { results := [.lit (.bool true)], args := [d1, d2] }
  | _ => none }
def policeSpacedRow : OpenClaim := { program := "ytlaomjhibaoglaa", sum := "6d902e15305aa82336fee678e38c32939eab963bf2880acb7b8402a82cf100da", func := "trunkline/trunklinelaw07.PoliceSpaced", spec := "policeSpaced", unfollowed := true, recurses := true, apart := false }
def PoliceSpacedSaid : Prop := policeSpacedRow.holds Try.pinned (OpenSpec.ofChange policeSpacedSpec)

/-- ITS FALSE NEIGHBOUR: 'it returns false'. Refute it at one input. -/
def policeSpacedWrong : ChangeSpec := { name := "policeSpaced", fn := fun _ => fun
  | [d1, d2] => { results := [.lit (.bool false)], args := [d1, d2] }
  | _ => none }
def PoliceSpacedWrongFalsely : Prop := policeSpacedRow.holds Try.pinned (OpenSpec.ofChange policeSpacedWrong)

/-- 'trunklinelaw07.PoliceDropped': WHATEVER THE INPUT: true; the input reads as it did. -/
def policeDroppedSpec : ChangeSpec := { name := "policeDropped", fn := fun _ => fun
  | [d1, d2] => { results := [.lit (.bool true)], args := [d1, d2] }
  | _ => none }
def policeDroppedRow : OpenClaim := { program := "ytlaomjhibaoglaa", sum := "6d902e15305aa82336fee678e38c32939eab963bf2880acb7b8402a82cf100da", func := "trunkline/trunklinelaw07.PoliceDropped", spec := "policeDropped", unfollowed := true, recurses := true, apart := false }
def PoliceDroppedSaid : Prop := policeDroppedRow.holds Try.pinned (OpenSpec.ofChange policeDroppedSpec)

/-- ITS FALSE NEIGHBOUR: 'it returns false'. Refute it at one input. -/
def policeDroppedWrong : ChangeSpec := { name := "policeDropped", fn := fun _ => fun
  | [d1, d2] => { results := [.lit (.bool false)], args := [d1, d2] }
  | _ => none }
def PoliceDroppedWrongFalsely : Prop := policeDroppedRow.holds Try.pinned (OpenSpec.ofChange policeDroppedWrong)

/-- 'trunklinelaw07.PoliceDue': WHATEVER THE INPUT: true; the input reads as it did. -/
def policeDueSpec : ChangeSpec := { name := "policeDue", fn := fun _ => fun
  | [d1, d2, d3] => { results := [.lit (.bool true)], args := [d1, d2, d3] }
  | _ => none }
def policeDueRow : OpenClaim := { program := "ytlaomjhibaoglaa", sum := "6d902e15305aa82336fee678e38c32939eab963bf2880acb7b8402a82cf100da", func := "trunkline/trunklinelaw07.PoliceDue", spec := "policeDue", unfollowed := true, recurses := true, apart := false }
def PoliceDueSaid : Prop := policeDueRow.holds Try.pinned (OpenSpec.ofChange policeDueSpec)

/-- ITS FALSE NEIGHBOUR: 'it returns false'. Refute it at one input. -/
def policeDueWrong : ChangeSpec := { name := "policeDue", fn := fun _ => fun
  | [d1, d2, d3] => { results := [.lit (.bool false)], args := [d1, d2, d3] }
  | _ => none }
def PoliceDueWrongFalsely : Prop := policeDueRow.holds Try.pinned (OpenSpec.ofChange policeDueWrong)

/-- 'trunklinelaw07.PoliceKinds': WHATEVER THE INPUT: true; the input reads as it did. -/
def policeKindsSpec : ChangeSpec := { name := "policeKinds", fn := fun _ => fun
  | [d1, d2, d3, d4] => { results := [.lit (.bool true)], args := [d1, d2, d3, d4] }
  | _ => none }
def policeKindsRow : OpenClaim := { program := "ytlaomjhibaoglaa", sum := "6d902e15305aa82336fee678e38c32939eab963bf2880acb7b8402a82cf100da", func := "trunkline/trunklinelaw07.PoliceKinds", spec := "policeKinds", unfollowed := true, recurses := true, apart := false }
def PoliceKindsSaid : Prop := policeKindsRow.holds Try.pinned (OpenSpec.ofChange policeKindsSpec)

/-- ITS FALSE NEIGHBOUR: 'it returns false'. Refute it at one input. -/
def policeKindsWrong : ChangeSpec := { name := "policeKinds", fn := fun _ => fun
  | [d1, d2, d3, d4] => { results := [.lit (.bool false)], args := [d1, d2, d3, d4] }
  | _ => none }
def PoliceKindsWrongFalsely : Prop := policeKindsRow.holds Try.pinned (OpenSpec.ofChange policeKindsWrong)

/-- 'trunklinelaw07.PoliceShift': WHATEVER THE INPUT: true; the input reads as it did. -/
def policeShiftSpec : ChangeSpec := { name := "policeShift", fn := fun _ => fun
  | [d1, d2, d3] => { results := [.lit (.bool true)], args := [d1, d2, d3] }
  | _ => none }
def policeShiftRow : OpenClaim := { program := "ytlaomjhibaoglaa", sum := "6d902e15305aa82336fee678e38c32939eab963bf2880acb7b8402a82cf100da", func := "trunkline/trunklinelaw07.PoliceShift", spec := "policeShift", unfollowed := true, recurses := true, apart := false }
def PoliceShiftSaid : Prop := policeShiftRow.holds Try.pinned (OpenSpec.ofChange policeShiftSpec)

/-- ITS FALSE NEIGHBOUR: 'it returns false'. Refute it at one input. -/
def policeShiftWrong : ChangeSpec := { name := "policeShift", fn := fun _ => fun
  | [d1, d2, d3] => { results := [.lit (.bool false)], args := [d1, d2, d3] }
  | _ => none }
def PoliceShiftWrongFalsely : Prop := policeShiftRow.holds Try.pinned (OpenSpec.ofChange policeShiftWrong)

/- THE SECOND FORM. 'bulk': how many values and letters a reading holds, each counted each time it is reached (what is shared counts as often as it is met; a slice's spare places count too). A statement '..UptoSaid' is the law's where the arguments, and the package variables that the reading takes, are together of bulk at most 1048576: NARROWER than '..Said'. Prove '..Said' where nothing that the law and all that it calls make is longer than what came in: it says more and counts as full. Else prove '..UptoSaid'. A law counts once. -/
mutual
def uptoBulk {H : Type} : DataW H → Nat
  | .lit (.string bytes) => bytes.length + 1
  | .lit _ => 1
  | .nil => 1
  | .ptr d => uptoBulk d + 1
  | .slice elems spare => uptoBulkAll elems + uptoBulkAll spare + 1
  | .agg parts => uptoBulkAll parts + 1
  | .iface _ d => uptoBulk d + 1
  | .map entries => uptoBulkEntries entries + 1
  | .held _ => 1
def uptoBulkAll {H : Type} : List (DataW H) → Nat
  | [] => 0
  | d :: r => uptoBulk d + uptoBulkAll r
def uptoBulkEntries {H : Type} : List (Lit × DataW H) → Nat
  | [] => 0
  | x :: r => uptoBulkEntry x + uptoBulkEntries r
def uptoBulkEntry {H : Type} : Lit × DataW H → Nat
  | (.string bytes, d) => bytes.length + uptoBulk d + 1
  | (_, d) => uptoBulk d + 1
 end
def uptoSmall : (H : Type) → List (DataW H) → Bool := fun _ ds => decide (uptoBulkAll ds ≤ 1048576)
def OpenSpec.upto (s : _root_.Go.ChangeSpec) : _root_.Go.OpenSpec := { _root_.Go.OpenSpec.ofChange s with cond := some uptoSmall }

/-- 'trunklinelaw07.PoliceWindows', WHERE WHAT IT READS IS OF BULK AT MOST 1048576: true; the input reads as it did. -/
def policeWindowsUptoRow : OpenClaim := { program := "ytlaomjhibaoglaa", sum := "6d902e15305aa82336fee678e38c32939eab963bf2880acb7b8402a82cf100da", func := "trunkline/trunklinelaw07.PoliceWindows", spec := "policeWindows", unfollowed := true, recurses := true, apart := false, narrowed := true }
def PoliceWindowsUptoSaid : Prop := policeWindowsUptoRow.holds Try.pinned (OpenSpec.upto policeWindowsSpec)

/-- 'trunklinelaw07.PoliceSpaced', WHERE WHAT IT READS IS OF BULK AT MOST 1048576: true; the input reads as it did. -/
def policeSpacedUptoRow : OpenClaim := { program := "ytlaomjhibaoglaa", sum := "6d902e15305aa82336fee678e38c32939eab963bf2880acb7b8402a82cf100da", func := "trunkline/trunklinelaw07.PoliceSpaced", spec := "policeSpaced", unfollowed := true, recurses := true, apart := false, narrowed := true }
def PoliceSpacedUptoSaid : Prop := policeSpacedUptoRow.holds Try.pinned (OpenSpec.upto policeSpacedSpec)

/-- 'trunklinelaw07.PoliceDropped', WHERE WHAT IT READS IS OF BULK AT MOST 1048576: true; the input reads as it did. -/
def policeDroppedUptoRow : OpenClaim := { program := "ytlaomjhibaoglaa", sum := "6d902e15305aa82336fee678e38c32939eab963bf2880acb7b8402a82cf100da", func := "trunkline/trunklinelaw07.PoliceDropped", spec := "policeDropped", unfollowed := true, recurses := true, apart := false, narrowed := true }
def PoliceDroppedUptoSaid : Prop := policeDroppedUptoRow.holds Try.pinned (OpenSpec.upto policeDroppedSpec)

/-- 'trunklinelaw07.PoliceDue', WHERE WHAT IT READS IS OF BULK AT MOST 1048576: true; the input reads as it did. -/
def policeDueUptoRow : OpenClaim := { program := "ytlaomjhibaoglaa", sum := "6d902e15305aa82336fee678e38c32939eab963bf2880acb7b8402a82cf100da", func := "trunkline/trunklinelaw07.PoliceDue", spec := "policeDue", unfollowed := true, recurses := true, apart := false, narrowed := true }
def PoliceDueUptoSaid : Prop := policeDueUptoRow.holds Try.pinned (OpenSpec.upto policeDueSpec)

/-- 'trunklinelaw07.PoliceKinds', WHERE WHAT IT READS IS OF BULK AT MOST 1048576: true; the input reads as it did. -/
def policeKindsUptoRow : OpenClaim := { program := "ytlaomjhibaoglaa", sum := "6d902e15305aa82336fee678e38c32939eab963bf2880acb7b8402a82cf100da", func := "trunkline/trunklinelaw07.PoliceKinds", spec := "policeKinds", unfollowed := true, recurses := true, apart := false, narrowed := true }
def PoliceKindsUptoSaid : Prop := policeKindsUptoRow.holds Try.pinned (OpenSpec.upto policeKindsSpec)

/-- 'trunklinelaw07.PoliceShift', WHERE WHAT IT READS IS OF BULK AT MOST 1048576: true; the input reads as it did. -/
def policeShiftUptoRow : OpenClaim := { program := "ytlaomjhibaoglaa", sum := "6d902e15305aa82336fee678e38c32939eab963bf2880acb7b8402a82cf100da", func := "trunkline/trunklinelaw07.PoliceShift", spec := "policeShift", unfollowed := true, recurses := true, apart := false, narrowed := true }
def PoliceShiftUptoSaid : Prop := policeShiftUptoRow.holds Try.pinned (OpenSpec.upto policeShiftSpec)

end Rows
end Go.Proofs.Ytlaomjhibaoglaa
