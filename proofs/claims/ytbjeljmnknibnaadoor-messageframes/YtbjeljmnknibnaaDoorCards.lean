/-
  DERIVED. GIVEN WITH THE SEED: THE CARDS: each row of YtbjeljmnknibnaaDoorRows.lean that lists a variable, with what it lists TIED to the program's text (the seventh form; the later family's looks); each row that meets fmt, with fmt's text TOLD by the authors' own Lean function (tested against real Go, not proved from fmt's source: count such statements apart). THE CARD IS WHAT COUNTS. Prove the row's statement (the work); the ties are given (YtbjeljmnknibnaaDoorTie.lean); close each card by the builder's one call (the guide's Derived/Test/ToyasCard.lean, 'card_holds'). Laid BY PROGRAM, IN A SANDBOX (cutbox-door.mjs). By AI agents, Wed Nov 11 2026. No macro, syntax, notation, axiom, sorry.
-/
import Derived.Test.YtbjeljmnknibnaaDoorRows
import GoSem.ClaimSeven
namespace Go.Proofs.YtbjeljmnknibnaaDoor
namespace Rows

/-- THE TIED CARD OF 'trunklinelaw16.MessagePacks'. -/
def messagePacksCard : Claim7 := { stood := { row := messagePacksRow, standIns := [], harness := (true, "754e487c5430f70ae37d22c78fb597820ea0b41d75d467db4e439fea6f11c893"), looks := false }, kinds := [], alts := [], laidByText := true, laidKinds := [.data], laidTests := true, laidLooks := .later }
def MessagePacksCardSaid : Prop := Claim7.holds Tryd.pinned (.plain (OpenSpec.ofChange messagePacksSpec)) messagePacksCard

/-- THE TIED CARD OF 'trunklinelaw16.MessageAnswers'. -/
def messageAnswersCard : Claim7 := { stood := { row := messageAnswersRow, standIns := [], harness := (true, "754e487c5430f70ae37d22c78fb597820ea0b41d75d467db4e439fea6f11c893"), looks := false }, kinds := [], alts := [], laidByText := true, laidKinds := [.data], laidTests := true, laidLooks := .later }
def MessageAnswersCardSaid : Prop := Claim7.holds Tryd.pinned (.plain (OpenSpec.ofChange messageAnswersSpec)) messageAnswersCard

/-- THE TIED CARD OF 'trunklinelaw16.MessageBack'. -/
def messageBackCard : Claim7 := { stood := { row := messageBackRow, standIns := [], harness := (true, "754e487c5430f70ae37d22c78fb597820ea0b41d75d467db4e439fea6f11c893"), looks := false }, kinds := [], alts := [], laidByText := true, laidKinds := [.data], laidTests := true, laidLooks := .later }
def MessageBackCardSaid : Prop := Claim7.holds Tryd.pinned (.plain (OpenSpec.ofChange messageBackSpec)) messageBackCard

/-- THE TIED CARD OF 'trunklinelaw16.MessageSides'. -/
def messageSidesCard : Claim7 := { stood := { row := messageSidesRow, standIns := [], harness := (true, "754e487c5430f70ae37d22c78fb597820ea0b41d75d467db4e439fea6f11c893"), looks := false }, kinds := [], alts := [], laidByText := true, laidKinds := [.data], laidTests := true, laidLooks := .later }
def MessageSidesCardSaid : Prop := Claim7.holds Tryd.pinned (.plain (OpenSpec.ofChange messageSidesSpec)) messageSidesCard

/-- THE TIED CARD OF 'trunklinelaw16.MessageKinds'. -/
def messageKindsCard : Claim7 := { stood := { row := messageKindsRow, standIns := [], harness := (true, "754e487c5430f70ae37d22c78fb597820ea0b41d75d467db4e439fea6f11c893"), looks := false }, kinds := [], alts := [], laidByText := true, laidKinds := [.data], laidTests := true, laidLooks := .later }
def MessageKindsCardSaid : Prop := Claim7.holds Tryd.pinned (.plain (OpenSpec.ofChange messageKindsSpec)) messageKindsCard

/-- THE TIED CARD OF 'trunklinelaw16.MessageFrames'. -/
def messageFramesCard : Claim7 := { stood := { row := messageFramesRow, standIns := [], harness := (true, "754e487c5430f70ae37d22c78fb597820ea0b41d75d467db4e439fea6f11c893"), looks := false }, kinds := [], alts := [], laidByText := true, laidKinds := [.data], laidTests := true, laidLooks := .later }
def MessageFramesCardSaid : Prop := Claim7.holds Tryd.pinned (.plain (OpenSpec.ofChange messageFramesSpec)) messageFramesCard

/-- THE SECOND FORM's CARD OF 'trunklinelaw16.MessagePacks'. -/
def messagePacksUptoCard : Claim7 := { stood := { row := messagePacksUptoRow, standIns := [], harness := (true, "754e487c5430f70ae37d22c78fb597820ea0b41d75d467db4e439fea6f11c893"), looks := false }, kinds := [], alts := [], laidByText := true, laidKinds := [.data], laidTests := true, laidLooks := .later }
def MessagePacksUptoCardSaid : Prop := Claim7.holds Tryd.pinned (.plain (OpenSpec.upto messagePacksSpec)) messagePacksUptoCard

/-- THE SECOND FORM's CARD OF 'trunklinelaw16.MessageAnswers'. -/
def messageAnswersUptoCard : Claim7 := { stood := { row := messageAnswersUptoRow, standIns := [], harness := (true, "754e487c5430f70ae37d22c78fb597820ea0b41d75d467db4e439fea6f11c893"), looks := false }, kinds := [], alts := [], laidByText := true, laidKinds := [.data], laidTests := true, laidLooks := .later }
def MessageAnswersUptoCardSaid : Prop := Claim7.holds Tryd.pinned (.plain (OpenSpec.upto messageAnswersSpec)) messageAnswersUptoCard

/-- THE SECOND FORM's CARD OF 'trunklinelaw16.MessageBack'. -/
def messageBackUptoCard : Claim7 := { stood := { row := messageBackUptoRow, standIns := [], harness := (true, "754e487c5430f70ae37d22c78fb597820ea0b41d75d467db4e439fea6f11c893"), looks := false }, kinds := [], alts := [], laidByText := true, laidKinds := [.data], laidTests := true, laidLooks := .later }
def MessageBackUptoCardSaid : Prop := Claim7.holds Tryd.pinned (.plain (OpenSpec.upto messageBackSpec)) messageBackUptoCard

/-- THE SECOND FORM's CARD OF 'trunklinelaw16.MessageSides'. -/
def messageSidesUptoCard : Claim7 := { stood := { row := messageSidesUptoRow, standIns := [], harness := (true, "754e487c5430f70ae37d22c78fb597820ea0b41d75d467db4e439fea6f11c893"), looks := false }, kinds := [], alts := [], laidByText := true, laidKinds := [.data], laidTests := true, laidLooks := .later }
def MessageSidesUptoCardSaid : Prop := Claim7.holds Tryd.pinned (.plain (OpenSpec.upto messageSidesSpec)) messageSidesUptoCard

/-- THE SECOND FORM's CARD OF 'trunklinelaw16.MessageKinds'. -/
def messageKindsUptoCard : Claim7 := { stood := { row := messageKindsUptoRow, standIns := [], harness := (true, "754e487c5430f70ae37d22c78fb597820ea0b41d75d467db4e439fea6f11c893"), looks := false }, kinds := [], alts := [], laidByText := true, laidKinds := [.data], laidTests := true, laidLooks := .later }
def MessageKindsUptoCardSaid : Prop := Claim7.holds Tryd.pinned (.plain (OpenSpec.upto messageKindsSpec)) messageKindsUptoCard

/-- THE SECOND FORM's CARD OF 'trunklinelaw16.MessageFrames'. -/
def messageFramesUptoCard : Claim7 := { stood := { row := messageFramesUptoRow, standIns := [], harness := (true, "754e487c5430f70ae37d22c78fb597820ea0b41d75d467db4e439fea6f11c893"), looks := false }, kinds := [], alts := [], laidByText := true, laidKinds := [.data], laidTests := true, laidLooks := .later }
def MessageFramesUptoCardSaid : Prop := Claim7.holds Tryd.pinned (.plain (OpenSpec.upto messageFramesSpec)) messageFramesUptoCard
end Rows
end Go.Proofs.YtbjeljmnknibnaaDoor
