/-
  DERIVED. GIVEN WITH THE SEED: THE CARDS: each row of YtpifmljbaogcbaaDoorRows.lean that lists a variable, with what it lists TIED to the program's text (the seventh form; the later family's looks); each row that meets fmt, with fmt's text TOLD by the authors' own Lean function (tested against real Go, not proved from fmt's source: count such statements apart). THE CARD IS WHAT COUNTS. Prove the row's statement (the work); the ties are given (YtpifmljbaogcbaaDoorTie.lean); close each card by the builder's one call (the guide's Derived/Test/ToyasCard.lean, 'card_holds'). Laid BY PROGRAM, IN A SANDBOX (cutbox-door.mjs). By AI agents, Wed Nov 11 2026. No macro, syntax, notation, axiom, sorry.
-/
import Derived.Test.YtpifmljbaogcbaaDoorRows
import GoSem.ClaimSeven
namespace Go.Proofs.YtpifmljbaogcbaaDoor
namespace Rows

/-- THE TIED CARD OF 'trunklinelaw04.CellBuilds'. -/
def cellBuildsCard : Claim7 := { stood := { row := cellBuildsRow, standIns := [], harness := (true, "2fba737cd7d21f1d8b23de4e86f30ffa1bf817017d57f8f2ca366c726991f5e0"), looks := false }, kinds := [], alts := [], laidByText := true, laidKinds := [.data, .data], laidTests := true, laidLooks := .later }
def CellBuildsCardSaid : Prop := Claim7.holds Tryd.pinned (.plain (OpenSpec.ofChange cellBuildsSpec)) cellBuildsCard

/-- THE TIED CARD OF 'trunklinelaw04.CellParses'. -/
def cellParsesCard : Claim7 := { stood := { row := cellParsesRow, standIns := [], harness := (true, "2fba737cd7d21f1d8b23de4e86f30ffa1bf817017d57f8f2ca366c726991f5e0"), looks := false }, kinds := [], alts := [], laidByText := true, laidKinds := [.data, .data], laidTests := true, laidLooks := .later }
def CellParsesCardSaid : Prop := Claim7.holds Tryd.pinned (.plain (OpenSpec.ofChange cellParsesSpec)) cellParsesCard

/-- THE TIED CARD OF 'trunklinelaw04.CellBack'. -/
def cellBackCard : Claim7 := { stood := { row := cellBackRow, standIns := [], harness := (true, "2fba737cd7d21f1d8b23de4e86f30ffa1bf817017d57f8f2ca366c726991f5e0"), looks := false }, kinds := [], alts := [], laidByText := true, laidKinds := [.data, .data], laidTests := true, laidLooks := .later }
def CellBackCardSaid : Prop := Claim7.holds Tryd.pinned (.plain (OpenSpec.ofChange cellBackSpec)) cellBackCard

/-- THE TIED CARD OF 'trunklinelaw04.CellSeals'. -/
def cellSealsCard : Claim7 := { stood := { row := cellSealsRow, standIns := [], harness := (true, "2fba737cd7d21f1d8b23de4e86f30ffa1bf817017d57f8f2ca366c726991f5e0"), looks := false }, kinds := [], alts := [], laidByText := true, laidKinds := [.data, .data], laidTests := true, laidLooks := .later }
def CellSealsCardSaid : Prop := Claim7.holds Tryd.pinned (.plain (OpenSpec.ofChange cellSealsSpec)) cellSealsCard

/-- THE TIED CARD OF 'trunklinelaw04.CellEmpty'. -/
def cellEmptyCard : Claim7 := { stood := { row := cellEmptyRow, standIns := [], harness := (true, "2fba737cd7d21f1d8b23de4e86f30ffa1bf817017d57f8f2ca366c726991f5e0"), looks := false }, kinds := [], alts := [], laidByText := true, laidKinds := [.data, .data], laidTests := true, laidLooks := .later }
def CellEmptyCardSaid : Prop := Claim7.holds Tryd.pinned (.plain (OpenSpec.ofChange cellEmptySpec)) cellEmptyCard

/-- THE TIED CARD OF 'trunklinelaw04.CellSides'. -/
def cellSidesCard : Claim7 := { stood := { row := cellSidesRow, standIns := [], harness := (true, "2fba737cd7d21f1d8b23de4e86f30ffa1bf817017d57f8f2ca366c726991f5e0"), looks := false }, kinds := [], alts := [], laidByText := true, laidKinds := [.data, .data], laidTests := true, laidLooks := .later }
def CellSidesCardSaid : Prop := Claim7.holds Tryd.pinned (.plain (OpenSpec.ofChange cellSidesSpec)) cellSidesCard

/-- THE TIED CARD OF 'trunklinelaw04.CellUnlike'. -/
def cellUnlikeCard : Claim7 := { stood := { row := cellUnlikeRow, standIns := [], harness := (true, "2fba737cd7d21f1d8b23de4e86f30ffa1bf817017d57f8f2ca366c726991f5e0"), looks := false }, kinds := [], alts := [], laidByText := true, laidKinds := [.data, .data], laidTests := true, laidLooks := .later }
def CellUnlikeCardSaid : Prop := Claim7.holds Tryd.pinned (.plain (OpenSpec.ofChange cellUnlikeSpec)) cellUnlikeCard

/-- THE SECOND FORM's CARD OF 'trunklinelaw04.CellBuilds'. -/
def cellBuildsUptoCard : Claim7 := { stood := { row := cellBuildsUptoRow, standIns := [], harness := (true, "2fba737cd7d21f1d8b23de4e86f30ffa1bf817017d57f8f2ca366c726991f5e0"), looks := false }, kinds := [], alts := [], laidByText := true, laidKinds := [.data, .data], laidTests := true, laidLooks := .later }
def CellBuildsUptoCardSaid : Prop := Claim7.holds Tryd.pinned (.plain (OpenSpec.upto cellBuildsSpec)) cellBuildsUptoCard

/-- THE SECOND FORM's CARD OF 'trunklinelaw04.CellParses'. -/
def cellParsesUptoCard : Claim7 := { stood := { row := cellParsesUptoRow, standIns := [], harness := (true, "2fba737cd7d21f1d8b23de4e86f30ffa1bf817017d57f8f2ca366c726991f5e0"), looks := false }, kinds := [], alts := [], laidByText := true, laidKinds := [.data, .data], laidTests := true, laidLooks := .later }
def CellParsesUptoCardSaid : Prop := Claim7.holds Tryd.pinned (.plain (OpenSpec.upto cellParsesSpec)) cellParsesUptoCard

/-- THE SECOND FORM's CARD OF 'trunklinelaw04.CellBack'. -/
def cellBackUptoCard : Claim7 := { stood := { row := cellBackUptoRow, standIns := [], harness := (true, "2fba737cd7d21f1d8b23de4e86f30ffa1bf817017d57f8f2ca366c726991f5e0"), looks := false }, kinds := [], alts := [], laidByText := true, laidKinds := [.data, .data], laidTests := true, laidLooks := .later }
def CellBackUptoCardSaid : Prop := Claim7.holds Tryd.pinned (.plain (OpenSpec.upto cellBackSpec)) cellBackUptoCard

/-- THE SECOND FORM's CARD OF 'trunklinelaw04.CellSeals'. -/
def cellSealsUptoCard : Claim7 := { stood := { row := cellSealsUptoRow, standIns := [], harness := (true, "2fba737cd7d21f1d8b23de4e86f30ffa1bf817017d57f8f2ca366c726991f5e0"), looks := false }, kinds := [], alts := [], laidByText := true, laidKinds := [.data, .data], laidTests := true, laidLooks := .later }
def CellSealsUptoCardSaid : Prop := Claim7.holds Tryd.pinned (.plain (OpenSpec.upto cellSealsSpec)) cellSealsUptoCard

/-- THE SECOND FORM's CARD OF 'trunklinelaw04.CellEmpty'. -/
def cellEmptyUptoCard : Claim7 := { stood := { row := cellEmptyUptoRow, standIns := [], harness := (true, "2fba737cd7d21f1d8b23de4e86f30ffa1bf817017d57f8f2ca366c726991f5e0"), looks := false }, kinds := [], alts := [], laidByText := true, laidKinds := [.data, .data], laidTests := true, laidLooks := .later }
def CellEmptyUptoCardSaid : Prop := Claim7.holds Tryd.pinned (.plain (OpenSpec.upto cellEmptySpec)) cellEmptyUptoCard

/-- THE SECOND FORM's CARD OF 'trunklinelaw04.CellSides'. -/
def cellSidesUptoCard : Claim7 := { stood := { row := cellSidesUptoRow, standIns := [], harness := (true, "2fba737cd7d21f1d8b23de4e86f30ffa1bf817017d57f8f2ca366c726991f5e0"), looks := false }, kinds := [], alts := [], laidByText := true, laidKinds := [.data, .data], laidTests := true, laidLooks := .later }
def CellSidesUptoCardSaid : Prop := Claim7.holds Tryd.pinned (.plain (OpenSpec.upto cellSidesSpec)) cellSidesUptoCard

/-- THE SECOND FORM's CARD OF 'trunklinelaw04.CellUnlike'. -/
def cellUnlikeUptoCard : Claim7 := { stood := { row := cellUnlikeUptoRow, standIns := [], harness := (true, "2fba737cd7d21f1d8b23de4e86f30ffa1bf817017d57f8f2ca366c726991f5e0"), looks := false }, kinds := [], alts := [], laidByText := true, laidKinds := [.data, .data], laidTests := true, laidLooks := .later }
def CellUnlikeUptoCardSaid : Prop := Claim7.holds Tryd.pinned (.plain (OpenSpec.upto cellUnlikeSpec)) cellUnlikeUptoCard
end Rows
end Go.Proofs.YtpifmljbaogcbaaDoor
