/-
  No cell of these rows narrows 'for every input' (looked for: loops, veiled, ifaces, maps, wideKeys, modest, calm, conditions, laid).
  DERIVED. THE GIVEN ROWS OF THIS SEAT. 6 by the template 'for every input the law returns true; each argument reads behind the call as it read before'; 0 by the template 'total and deterministic' (their statements: YtelbfjjilccpbaaTotals.lean).
  GIVEN WITH THE SEED: the statements are not yours to turn. If you find one false, say at which input.
  Laid BY PROGRAM, IN A SANDBOX (cutbox-rows.mjs): the forced cells as the released guide's own fill.sh prints them over the translation 97c08d3c38ed5ac7… (all of the seat's roots in one cut). By AI agents, Wed Nov 11 2026. No macro, syntax, notation, axiom, sorry.
-/
import Derived.Test.YtelbfjjilccpbaaChecked
import GoSem.Claim
import GoSem.ClaimJoined
import GoSem.ClaimMapViews
import Derived.JoinedTies
import Derived.KernelRfl
namespace Go.Proofs.Ytelbfjjilccpbaa
/- THE CELL 'sum', in the pinned program and in every row, IS THE sha256 OF THE DUMP (.gsa) THAT YtelbfjjilccpbaaProg.lean LOADS. Nothing in Lean hashes anything: it is a label: what it is worth is what the hold of that sum in a sandbox is worth. -/
noncomputable def Try.pinned : Pinned := { name := "ytelbfjjilccpbaa", sum := "97c08d3c38ed5ac7d38b9f5a633ed818a2fae02fb38abf8a8d647fd298a878be", checked := Try.checked }
namespace Rows
def none {H : Type} : Left H := { results := [], args := [] }

/-- 'trunklinelaw06.ContractTells': WHATEVER THE INPUT: true; the input reads as it did. -/
def contractTellsSpec : ChangeSpec := { name := "contractTells", fn := fun _ => fun
  | [d] => { results := [.lit (.bool true)], args := [d] }
  | _ => none }
def contractTellsRow : OpenClaim := { program := "ytelbfjjilccpbaa", sum := "97c08d3c38ed5ac7d38b9f5a633ed818a2fae02fb38abf8a8d647fd298a878be", func := "trunkline/trunklinelaw06.ContractTells", spec := "contractTells", apart := false }
def ContractTellsSaid : Prop := contractTellsRow.holds Try.pinned (OpenSpec.ofChange contractTellsSpec)

/-- ITS FALSE NEIGHBOUR: 'it returns false'. Refute it at one input. -/
def contractTellsWrong : ChangeSpec := { name := "contractTells", fn := fun _ => fun
  | [d] => { results := [.lit (.bool false)], args := [d] }
  | _ => none }
def ContractTellsWrongFalsely : Prop := contractTellsRow.holds Try.pinned (OpenSpec.ofChange contractTellsWrong)

/-- 'trunklinelaw06.ContractRules': WHATEVER THE INPUT: true; the input reads as it did. -/
def contractRulesSpec : ChangeSpec := { name := "contractRules", fn := fun _ => fun
  | [d] => { results := [.lit (.bool true)], args := [d] }
  | _ => none }
def contractRulesRow : OpenClaim := { program := "ytelbfjjilccpbaa", sum := "97c08d3c38ed5ac7d38b9f5a633ed818a2fae02fb38abf8a8d647fd298a878be", func := "trunkline/trunklinelaw06.ContractRules", spec := "contractRules", apart := false }
def ContractRulesSaid : Prop := contractRulesRow.holds Try.pinned (OpenSpec.ofChange contractRulesSpec)

/-- ITS FALSE NEIGHBOUR: 'it returns false'. Refute it at one input. -/
def contractRulesWrong : ChangeSpec := { name := "contractRules", fn := fun _ => fun
  | [d] => { results := [.lit (.bool false)], args := [d] }
  | _ => none }
def ContractRulesWrongFalsely : Prop := contractRulesRow.holds Try.pinned (OpenSpec.ofChange contractRulesWrong)

/-- 'trunklinelaw06.ContractMost': WHATEVER THE INPUT: true; the input reads as it did. -/
def contractMostSpec : ChangeSpec := { name := "contractMost", fn := fun _ => fun
  | [d] => { results := [.lit (.bool true)], args := [d] }
  | _ => none }
def contractMostRow : OpenClaim := { program := "ytelbfjjilccpbaa", sum := "97c08d3c38ed5ac7d38b9f5a633ed818a2fae02fb38abf8a8d647fd298a878be", func := "trunkline/trunklinelaw06.ContractMost", spec := "contractMost", apart := false }
def ContractMostSaid : Prop := contractMostRow.holds Try.pinned (OpenSpec.ofChange contractMostSpec)

/-- ITS FALSE NEIGHBOUR: 'it returns false'. Refute it at one input. -/
def contractMostWrong : ChangeSpec := { name := "contractMost", fn := fun _ => fun
  | [d] => { results := [.lit (.bool false)], args := [d] }
  | _ => none }
def ContractMostWrongFalsely : Prop := contractMostRow.holds Try.pinned (OpenSpec.ofChange contractMostWrong)

/-- 'trunklinelaw06.ContractFewer': WHATEVER THE INPUT: true; the input reads as it did. -/
def contractFewerSpec : ChangeSpec := { name := "contractFewer", fn := fun _ => fun
  | [d1, d2, d3] => { results := [.lit (.bool true)], args := [d1, d2, d3] }
  | _ => none }
def contractFewerRow : OpenClaim := { program := "ytelbfjjilccpbaa", sum := "97c08d3c38ed5ac7d38b9f5a633ed818a2fae02fb38abf8a8d647fd298a878be", func := "trunkline/trunklinelaw06.ContractFewer", spec := "contractFewer", apart := false }
def ContractFewerSaid : Prop := contractFewerRow.holds Try.pinned (OpenSpec.ofChange contractFewerSpec)

/-- ITS FALSE NEIGHBOUR: 'it returns false'. Refute it at one input. -/
def contractFewerWrong : ChangeSpec := { name := "contractFewer", fn := fun _ => fun
  | [d1, d2, d3] => { results := [.lit (.bool false)], args := [d1, d2, d3] }
  | _ => none }
def ContractFewerWrongFalsely : Prop := contractFewerRow.holds Try.pinned (OpenSpec.ofChange contractFewerWrong)

/-- 'trunklinelaw06.ContractSpans': WHATEVER THE INPUT: true; the input reads as it did. -/
def contractSpansSpec : ChangeSpec := { name := "contractSpans", fn := fun _ => fun
  | [d1, d2] => { results := [.lit (.bool true)], args := [d1, d2] }
  | _ => none }
def contractSpansRow : OpenClaim := { program := "ytelbfjjilccpbaa", sum := "97c08d3c38ed5ac7d38b9f5a633ed818a2fae02fb38abf8a8d647fd298a878be", func := "trunkline/trunklinelaw06.ContractSpans", spec := "contractSpans", apart := false }
def ContractSpansSaid : Prop := contractSpansRow.holds Try.pinned (OpenSpec.ofChange contractSpansSpec)

/-- ITS FALSE NEIGHBOUR: 'it returns false'. Refute it at one input. -/
def contractSpansWrong : ChangeSpec := { name := "contractSpans", fn := fun _ => fun
  | [d1, d2] => { results := [.lit (.bool false)], args := [d1, d2] }
  | _ => none }
def ContractSpansWrongFalsely : Prop := contractSpansRow.holds Try.pinned (OpenSpec.ofChange contractSpansWrong)

/-- 'trunklinelaw06.ContractKinds': WHATEVER THE INPUT: true; the input reads as it did. -/
def contractKindsSpec : ChangeSpec := { name := "contractKinds", fn := fun _ => fun
  | [d1, d2] => { results := [.lit (.bool true)], args := [d1, d2] }
  | _ => none }
def contractKindsRow : OpenClaim := { program := "ytelbfjjilccpbaa", sum := "97c08d3c38ed5ac7d38b9f5a633ed818a2fae02fb38abf8a8d647fd298a878be", func := "trunkline/trunklinelaw06.ContractKinds", spec := "contractKinds", apart := false }
def ContractKindsSaid : Prop := contractKindsRow.holds Try.pinned (OpenSpec.ofChange contractKindsSpec)

/-- ITS FALSE NEIGHBOUR: 'it returns false'. Refute it at one input. -/
def contractKindsWrong : ChangeSpec := { name := "contractKinds", fn := fun _ => fun
  | [d1, d2] => { results := [.lit (.bool false)], args := [d1, d2] }
  | _ => none }
def ContractKindsWrongFalsely : Prop := contractKindsRow.holds Try.pinned (OpenSpec.ofChange contractKindsWrong)

/- THE SECOND FORM. 'bulk': how many values and letters a reading holds, each counted each time it is reached (what is shared counts as often as it is met; a slice's spare places count too). A statement '..UptoSaid' is the law's where the arguments, and the package variables that the reading takes, are together of bulk at most 1048576: NARROWER than '..Said'. Prove '..Said' where nothing that the law and all that it calls make is longer than what came in: it says more and counts as full. Else prove '..UptoSaid'. A law counts once. -/
mutual
def uptoBulk {H : Type} : DataW H → Nat
  | .lit (.string bytes) => bytes.length + 1
  | .lit _ => 1
  | .nil => 1
  | .ptr d => uptoBulk d + 1
  | .slice elems spare => uptoBulkAll elems + uptoBulkAll spare + 1
  | .agg parts => uptoBulkAll parts + 1
  | .iface _ d => uptoBulk d + 1
  | .map entries => uptoBulkEntries entries + 1
  | .held _ => 1
def uptoBulkAll {H : Type} : List (DataW H) → Nat
  | [] => 0
  | d :: r => uptoBulk d + uptoBulkAll r
def uptoBulkEntries {H : Type} : List (Lit × DataW H) → Nat
  | [] => 0
  | x :: r => uptoBulkEntry x + uptoBulkEntries r
def uptoBulkEntry {H : Type} : Lit × DataW H → Nat
  | (.string bytes, d) => bytes.length + uptoBulk d + 1
  | (_, d) => uptoBulk d + 1
 end
def uptoSmall : (H : Type) → List (DataW H) → Bool := fun _ ds => decide (uptoBulkAll ds ≤ 1048576)
def OpenSpec.upto (s : _root_.Go.ChangeSpec) : _root_.Go.OpenSpec := { _root_.Go.OpenSpec.ofChange s with cond := some uptoSmall }

/-- 'trunklinelaw06.ContractTells', WHERE WHAT IT READS IS OF BULK AT MOST 1048576: true; the input reads as it did. -/
def contractTellsUptoRow : OpenClaim := { program := "ytelbfjjilccpbaa", sum := "97c08d3c38ed5ac7d38b9f5a633ed818a2fae02fb38abf8a8d647fd298a878be", func := "trunkline/trunklinelaw06.ContractTells", spec := "contractTells", apart := false, narrowed := true }
def ContractTellsUptoSaid : Prop := contractTellsUptoRow.holds Try.pinned (OpenSpec.upto contractTellsSpec)

/-- 'trunklinelaw06.ContractRules', WHERE WHAT IT READS IS OF BULK AT MOST 1048576: true; the input reads as it did. -/
def contractRulesUptoRow : OpenClaim := { program := "ytelbfjjilccpbaa", sum := "97c08d3c38ed5ac7d38b9f5a633ed818a2fae02fb38abf8a8d647fd298a878be", func := "trunkline/trunklinelaw06.ContractRules", spec := "contractRules", apart := false, narrowed := true }
def ContractRulesUptoSaid : Prop := contractRulesUptoRow.holds Try.pinned (OpenSpec.upto contractRulesSpec)

/-- 'trunklinelaw06.ContractMost', WHERE WHAT IT READS IS OF BULK AT MOST 1048576: true; the input reads as it did. -/
def contractMostUptoRow : OpenClaim := { program := "ytelbfjjilccpbaa", sum := "97c08d3c38ed5ac7d38b9f5a633ed818a2fae02fb38abf8a8d647fd298a878be", func := "trunkline/trunklinelaw06.ContractMost", spec := "contractMost", apart := false, narrowed := true }
def ContractMostUptoSaid : Prop := contractMostUptoRow.holds Try.pinned (OpenSpec.upto contractMostSpec)

/-- 'trunklinelaw06.ContractFewer', WHERE WHAT IT READS IS OF BULK AT MOST 1048576: true; the input reads as it did. -/
def contractFewerUptoRow : OpenClaim := { program := "ytelbfjjilccpbaa", sum := "97c08d3c38ed5ac7d38b9f5a633ed818a2fae02fb38abf8a8d647fd298a878be", func := "trunkline/trunklinelaw06.ContractFewer", spec := "contractFewer", apart := false, narrowed := true }
def ContractFewerUptoSaid : Prop := contractFewerUptoRow.holds Try.pinned (OpenSpec.upto contractFewerSpec)

/-- 'trunklinelaw06.ContractSpans', WHERE WHAT IT READS IS OF BULK AT MOST 1048576: true; the input reads as it did. -/
def contractSpansUptoRow : OpenClaim := { program := "ytelbfjjilccpbaa", sum := "97c08d3c38ed5ac7d38b9f5a633ed818a2fae02fb38abf8a8d647fd298a878be", func := "trunkline/trunklinelaw06.ContractSpans", spec := "contractSpans", apart := false, narrowed := true }
def ContractSpansUptoSaid : Prop := contractSpansUptoRow.holds Try.pinned (OpenSpec.upto contractSpansSpec)

/-- 'trunklinelaw06.ContractKinds', WHERE WHAT IT READS IS OF BULK AT MOST 1048576: true; the input reads as it did. -/
def contractKindsUptoRow : OpenClaim := { program := "ytelbfjjilccpbaa", sum := "97c08d3c38ed5ac7d38b9f5a633ed818a2fae02fb38abf8a8d647fd298a878be", func := "trunkline/trunklinelaw06.ContractKinds", spec := "contractKinds", apart := false, narrowed := true }
def ContractKindsUptoSaid : Prop := contractKindsUptoRow.holds Try.pinned (OpenSpec.upto contractKindsSpec)

end Rows
end Go.Proofs.Ytelbfjjilccpbaa
