/-
  No cell of these rows narrows 'for every input' (looked for: loops, veiled, ifaces, maps, wideKeys, modest, calm, conditions, laid).
  DERIVED. THE GIVEN ROWS OF THIS SEAT. 6 by the template 'for every input the law returns true; each argument reads behind the call as it read before'; 0 by the template 'total and deterministic' (their statements: YtkcbbkjdljmeoaaTotals.lean).
  GIVEN WITH THE SEED: the statements are not yours to turn. If you find one false, say at which input.
  Laid BY PROGRAM, IN A SANDBOX (cutbox-rows.mjs): the forced cells as the released guide's own fill.sh prints them over the translation 98f6ec64982609de… (all of the seat's roots in one cut). By AI agents, Wed Nov 11 2026. No macro, syntax, notation, axiom, sorry.
-/
import Derived.Test.YtkcbbkjdljmeoaaChecked
import GoSem.Claim
import GoSem.ClaimJoined
import GoSem.ClaimMapViews
import Derived.JoinedTies
import Derived.KernelRfl
namespace Go.Proofs.Ytkcbbkjdljmeoaa
/- THE CELL 'sum', in the pinned program and in every row, IS THE sha256 OF THE DUMP (.gsa) THAT YtkcbbkjdljmeoaaProg.lean LOADS. Nothing in Lean hashes anything: it is a label: what it is worth is what the hold of that sum in a sandbox is worth. -/
noncomputable def Try.pinned : Pinned := { name := "ytkcbbkjdljmeoaa", sum := "98f6ec64982609de7b70dd09f7d74f318638b8a6534afb06f2a4d99873d5ca4c", checked := Try.checked }
namespace Rows
def none {H : Type} : Left H := { results := [], args := [] }

/-- 'trunklinelaw01.SumsTell': WHATEVER THE INPUT: true; the input reads as it did. -/
def sumsTellSpec : ChangeSpec := { name := "sumsTell", fn := fun _ => fun
  | [d1, d2] => { results := [.lit (.bool true)], args := [d1, d2] }
  | _ => none }
def sumsTellRow : OpenClaim := { program := "ytkcbbkjdljmeoaa", sum := "98f6ec64982609de7b70dd09f7d74f318638b8a6534afb06f2a4d99873d5ca4c", func := "trunkline/trunklinelaw01.SumsTell", spec := "sumsTell", unfollowed := true, recurses := true, apart := false }
def SumsTellSaid : Prop := sumsTellRow.holds Try.pinned (OpenSpec.ofChange sumsTellSpec)

/-- ITS FALSE NEIGHBOUR: 'it returns false'. Refute it at one input. -/
def sumsTellWrong : ChangeSpec := { name := "sumsTell", fn := fun _ => fun
  | [d1, d2] => { results := [.lit (.bool false)], args := [d1, d2] }
  | _ => none }
def SumsTellWrongFalsely : Prop := sumsTellRow.holds Try.pinned (OpenSpec.ofChange sumsTellWrong)

/-- 'trunklinelaw01.SumsBursts': WHATEVER THE INPUT: true; the input reads as it did. -/
def sumsBurstsSpec : ChangeSpec := { name := "sumsBursts", fn := fun _ => fun
  | [d1, d2, d3] => { results := [.lit (.bool true)], args := [d1, d2, d3] }
  | _ => none }
def sumsBurstsRow : OpenClaim := { program := "ytkcbbkjdljmeoaa", sum := "98f6ec64982609de7b70dd09f7d74f318638b8a6534afb06f2a4d99873d5ca4c", func := "trunkline/trunklinelaw01.SumsBursts", spec := "sumsBursts", unfollowed := true, recurses := true, apart := false }
def SumsBurstsSaid : Prop := sumsBurstsRow.holds Try.pinned (OpenSpec.ofChange sumsBurstsSpec)

/-- ITS FALSE NEIGHBOUR: 'it returns false'. Refute it at one input. -/
def sumsBurstsWrong : ChangeSpec := { name := "sumsBursts", fn := fun _ => fun
  | [d1, d2, d3] => { results := [.lit (.bool false)], args := [d1, d2, d3] }
  | _ => none }
def SumsBurstsWrongFalsely : Prop := sumsBurstsRow.holds Try.pinned (OpenSpec.ofChange sumsBurstsWrong)

/-- 'trunklinelaw01.SumsJoin': WHATEVER THE INPUT: true; the input reads as it did. -/
def sumsJoinSpec : ChangeSpec := { name := "sumsJoin", fn := fun _ => fun
  | [d1, d2, d3] => { results := [.lit (.bool true)], args := [d1, d2, d3] }
  | _ => none }
def sumsJoinRow : OpenClaim := { program := "ytkcbbkjdljmeoaa", sum := "98f6ec64982609de7b70dd09f7d74f318638b8a6534afb06f2a4d99873d5ca4c", func := "trunkline/trunklinelaw01.SumsJoin", spec := "sumsJoin", unfollowed := true, recurses := true, apart := false }
def SumsJoinSaid : Prop := sumsJoinRow.holds Try.pinned (OpenSpec.ofChange sumsJoinSpec)

/-- ITS FALSE NEIGHBOUR: 'it returns false'. Refute it at one input. -/
def sumsJoinWrong : ChangeSpec := { name := "sumsJoin", fn := fun _ => fun
  | [d1, d2, d3] => { results := [.lit (.bool false)], args := [d1, d2, d3] }
  | _ => none }
def SumsJoinWrongFalsely : Prop := sumsJoinRow.holds Try.pinned (OpenSpec.ofChange sumsJoinWrong)

/-- 'trunklinelaw01.SumsBits': WHATEVER THE INPUT: true; the input reads as it did. -/
def sumsBitsSpec : ChangeSpec := { name := "sumsBits", fn := fun _ => fun
  | [d1, d2, d3] => { results := [.lit (.bool true)], args := [d1, d2, d3] }
  | _ => none }
def sumsBitsRow : OpenClaim := { program := "ytkcbbkjdljmeoaa", sum := "98f6ec64982609de7b70dd09f7d74f318638b8a6534afb06f2a4d99873d5ca4c", func := "trunkline/trunklinelaw01.SumsBits", spec := "sumsBits", unfollowed := true, recurses := true, apart := false }
def SumsBitsSaid : Prop := sumsBitsRow.holds Try.pinned (OpenSpec.ofChange sumsBitsSpec)

/-- ITS FALSE NEIGHBOUR: 'it returns false'. Refute it at one input. -/
def sumsBitsWrong : ChangeSpec := { name := "sumsBits", fn := fun _ => fun
  | [d1, d2, d3] => { results := [.lit (.bool false)], args := [d1, d2, d3] }
  | _ => none }
def SumsBitsWrongFalsely : Prop := sumsBitsRow.holds Try.pinned (OpenSpec.ofChange sumsBitsWrong)

/-- 'trunklinelaw01.SumsSides': WHATEVER THE INPUT: true; the input reads as it did. -/
def sumsSidesSpec : ChangeSpec := { name := "sumsSides", fn := fun _ => fun
  | [d1, d2] => { results := [.lit (.bool true)], args := [d1, d2] }
  | _ => none }
def sumsSidesRow : OpenClaim := { program := "ytkcbbkjdljmeoaa", sum := "98f6ec64982609de7b70dd09f7d74f318638b8a6534afb06f2a4d99873d5ca4c", func := "trunkline/trunklinelaw01.SumsSides", spec := "sumsSides", unfollowed := true, recurses := true, apart := false }
def SumsSidesSaid : Prop := sumsSidesRow.holds Try.pinned (OpenSpec.ofChange sumsSidesSpec)

/-- ITS FALSE NEIGHBOUR: 'it returns false'. Refute it at one input. -/
def sumsSidesWrong : ChangeSpec := { name := "sumsSides", fn := fun _ => fun
  | [d1, d2] => { results := [.lit (.bool false)], args := [d1, d2] }
  | _ => none }
def SumsSidesWrongFalsely : Prop := sumsSidesRow.holds Try.pinned (OpenSpec.ofChange sumsSidesWrong)

/-- 'trunklinelaw01.SumsBegin': WHATEVER THE INPUT: true; the input reads as it did. -/
def sumsBeginSpec : ChangeSpec := { name := "sumsBegin", fn := fun _ => fun
  | [d1, d2, d3] => { results := [.lit (.bool true)], args := [d1, d2, d3] }
  | _ => none }
def sumsBeginRow : OpenClaim := { program := "ytkcbbkjdljmeoaa", sum := "98f6ec64982609de7b70dd09f7d74f318638b8a6534afb06f2a4d99873d5ca4c", func := "trunkline/trunklinelaw01.SumsBegin", spec := "sumsBegin", unfollowed := true, recurses := true, apart := false }
def SumsBeginSaid : Prop := sumsBeginRow.holds Try.pinned (OpenSpec.ofChange sumsBeginSpec)

/-- ITS FALSE NEIGHBOUR: 'it returns false'. Refute it at one input. -/
def sumsBeginWrong : ChangeSpec := { name := "sumsBegin", fn := fun _ => fun
  | [d1, d2, d3] => { results := [.lit (.bool false)], args := [d1, d2, d3] }
  | _ => none }
def SumsBeginWrongFalsely : Prop := sumsBeginRow.holds Try.pinned (OpenSpec.ofChange sumsBeginWrong)

/- THE SECOND FORM. 'bulk': how many values and letters a reading holds, each counted each time it is reached (what is shared counts as often as it is met; a slice's spare places count too). A statement '..UptoSaid' is the law's where the arguments, and the package variables that the reading takes, are together of bulk at most 1048576: NARROWER than '..Said'. Prove '..Said' where nothing that the law and all that it calls make is longer than what came in: it says more and counts as full. Else prove '..UptoSaid'. A law counts once. -/
mutual
def uptoBulk {H : Type} : DataW H → Nat
  | .lit (.string bytes) => bytes.length + 1
  | .lit _ => 1
  | .nil => 1
  | .ptr d => uptoBulk d + 1
  | .slice elems spare => uptoBulkAll elems + uptoBulkAll spare + 1
  | .agg parts => uptoBulkAll parts + 1
  | .iface _ d => uptoBulk d + 1
  | .map entries => uptoBulkEntries entries + 1
  | .held _ => 1
def uptoBulkAll {H : Type} : List (DataW H) → Nat
  | [] => 0
  | d :: r => uptoBulk d + uptoBulkAll r
def uptoBulkEntries {H : Type} : List (Lit × DataW H) → Nat
  | [] => 0
  | x :: r => uptoBulkEntry x + uptoBulkEntries r
def uptoBulkEntry {H : Type} : Lit × DataW H → Nat
  | (.string bytes, d) => bytes.length + uptoBulk d + 1
  | (_, d) => uptoBulk d + 1
 end
def uptoSmall : (H : Type) → List (DataW H) → Bool := fun _ ds => decide (uptoBulkAll ds ≤ 1048576)
def OpenSpec.upto (s : _root_.Go.ChangeSpec) : _root_.Go.OpenSpec := { _root_.Go.OpenSpec.ofChange s with cond := some uptoSmall }

/-- 'trunklinelaw01.SumsTell', WHERE WHAT IT READS IS OF BULK AT MOST 1048576: true; the input reads as it did. -/
def sumsTellUptoRow : OpenClaim := { program := "ytkcbbkjdljmeoaa", sum := "98f6ec64982609de7b70dd09f7d74f318638b8a6534afb06f2a4d99873d5ca4c", func := "trunkline/trunklinelaw01.SumsTell", spec := "sumsTell", unfollowed := true, recurses := true, apart := false, narrowed := true }
def SumsTellUptoSaid : Prop := sumsTellUptoRow.holds Try.pinned (OpenSpec.upto sumsTellSpec)

/-- 'trunklinelaw01.SumsBursts', WHERE WHAT IT READS IS OF BULK AT MOST 1048576: true; the input reads as it did. -/
def sumsBurstsUptoRow : OpenClaim := { program := "ytkcbbkjdljmeoaa", sum := "98f6ec64982609de7b70dd09f7d74f318638b8a6534afb06f2a4d99873d5ca4c", func := "trunkline/trunklinelaw01.SumsBursts", spec := "sumsBursts", unfollowed := true, recurses := true, apart := false, narrowed := true }
def SumsBurstsUptoSaid : Prop := sumsBurstsUptoRow.holds Try.pinned (OpenSpec.upto sumsBurstsSpec)

/-- 'trunklinelaw01.SumsJoin', WHERE WHAT IT READS IS OF BULK AT MOST 1048576: true; the input reads as it did. -/
def sumsJoinUptoRow : OpenClaim := { program := "ytkcbbkjdljmeoaa", sum := "98f6ec64982609de7b70dd09f7d74f318638b8a6534afb06f2a4d99873d5ca4c", func := "trunkline/trunklinelaw01.SumsJoin", spec := "sumsJoin", unfollowed := true, recurses := true, apart := false, narrowed := true }
def SumsJoinUptoSaid : Prop := sumsJoinUptoRow.holds Try.pinned (OpenSpec.upto sumsJoinSpec)

/-- 'trunklinelaw01.SumsBits', WHERE WHAT IT READS IS OF BULK AT MOST 1048576: true; the input reads as it did. -/
def sumsBitsUptoRow : OpenClaim := { program := "ytkcbbkjdljmeoaa", sum := "98f6ec64982609de7b70dd09f7d74f318638b8a6534afb06f2a4d99873d5ca4c", func := "trunkline/trunklinelaw01.SumsBits", spec := "sumsBits", unfollowed := true, recurses := true, apart := false, narrowed := true }
def SumsBitsUptoSaid : Prop := sumsBitsUptoRow.holds Try.pinned (OpenSpec.upto sumsBitsSpec)

/-- 'trunklinelaw01.SumsSides', WHERE WHAT IT READS IS OF BULK AT MOST 1048576: true; the input reads as it did. -/
def sumsSidesUptoRow : OpenClaim := { program := "ytkcbbkjdljmeoaa", sum := "98f6ec64982609de7b70dd09f7d74f318638b8a6534afb06f2a4d99873d5ca4c", func := "trunkline/trunklinelaw01.SumsSides", spec := "sumsSides", unfollowed := true, recurses := true, apart := false, narrowed := true }
def SumsSidesUptoSaid : Prop := sumsSidesUptoRow.holds Try.pinned (OpenSpec.upto sumsSidesSpec)

/-- 'trunklinelaw01.SumsBegin', WHERE WHAT IT READS IS OF BULK AT MOST 1048576: true; the input reads as it did. -/
def sumsBeginUptoRow : OpenClaim := { program := "ytkcbbkjdljmeoaa", sum := "98f6ec64982609de7b70dd09f7d74f318638b8a6534afb06f2a4d99873d5ca4c", func := "trunkline/trunklinelaw01.SumsBegin", spec := "sumsBegin", unfollowed := true, recurses := true, apart := false, narrowed := true }
def SumsBeginUptoSaid : Prop := sumsBeginUptoRow.holds Try.pinned (OpenSpec.upto sumsBeginSpec)

end Rows
end Go.Proofs.Ytkcbbkjdljmeoaa
