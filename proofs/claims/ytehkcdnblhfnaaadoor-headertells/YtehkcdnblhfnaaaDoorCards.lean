/-
  DERIVED. GIVEN WITH THE SEED: THE CARDS: each row of YtehkcdnblhfnaaaDoorRows.lean that lists a variable, with what it lists TIED to the program's text (the seventh form; the later family's looks); each row that meets fmt, with fmt's text TOLD by the authors' own Lean function (tested against real Go, not proved from fmt's source: count such statements apart). THE CARD IS WHAT COUNTS. Prove the row's statement (the work); the ties are given (YtehkcdnblhfnaaaDoorTie.lean); close each card by the builder's one call (the guide's Derived/Test/ToyasCard.lean, 'card_holds'). Laid BY PROGRAM, IN A SANDBOX (cutbox-door.mjs). By AI agents, Wed Nov 11 2026. No macro, syntax, notation, axiom, sorry.
-/
import Derived.Test.YtehkcdnblhfnaaaDoorRows
import GoSem.ClaimSeven
namespace Go.Proofs.YtehkcdnblhfnaaaDoor
namespace Rows

/-- THE TIED CARD OF 'trunklinelaw02.HeaderTells'. -/
def headerTellsCard : Claim7 := { stood := { row := headerTellsRow, standIns := [], harness := (true, "c88c497e23d371e041dace1967487a77355d2b8784d7f03265ed6613bdc0fdfb"), looks := false }, kinds := [], alts := [], laidByText := true, laidKinds := [.data, .data], laidTests := true, laidLooks := .later }
def HeaderTellsCardSaid : Prop := Claim7.holds Tryd.pinned (.plain (OpenSpec.ofChange headerTellsSpec)) headerTellsCard

/-- THE TIED CARD OF 'trunklinelaw02.HeaderBack'. -/
def headerBackCard : Claim7 := { stood := { row := headerBackRow, standIns := [], harness := (true, "c88c497e23d371e041dace1967487a77355d2b8784d7f03265ed6613bdc0fdfb"), looks := false }, kinds := [], alts := [], laidByText := true, laidKinds := [.data, .data], laidTests := true, laidLooks := .later }
def HeaderBackCardSaid : Prop := Claim7.holds Tryd.pinned (.plain (OpenSpec.ofChange headerBackSpec)) headerBackCard

/-- THE TIED CARD OF 'trunklinelaw02.HeaderKinds'. -/
def headerKindsCard : Claim7 := { stood := { row := headerKindsRow, standIns := [], harness := (true, "c88c497e23d371e041dace1967487a77355d2b8784d7f03265ed6613bdc0fdfb"), looks := false }, kinds := [], alts := [], laidByText := true, laidKinds := [.data, .data], laidTests := true, laidLooks := .later }
def HeaderKindsCardSaid : Prop := Claim7.holds Tryd.pinned (.plain (OpenSpec.ofChange headerKindsSpec)) headerKindsCard

/-- THE TIED CARD OF 'trunklinelaw02.HeaderSides'. -/
def headerSidesCard : Claim7 := { stood := { row := headerSidesRow, standIns := [], harness := (true, "c88c497e23d371e041dace1967487a77355d2b8784d7f03265ed6613bdc0fdfb"), looks := false }, kinds := [], alts := [], laidByText := true, laidKinds := [.data, .data], laidTests := true, laidLooks := .later }
def HeaderSidesCardSaid : Prop := Claim7.holds Tryd.pinned (.plain (OpenSpec.ofChange headerSidesSpec)) headerSidesCard

/-- THE TIED CARD OF 'trunklinelaw02.HeaderShort'. -/
def headerShortCard : Claim7 := { stood := { row := headerShortRow, standIns := [], harness := (true, "c88c497e23d371e041dace1967487a77355d2b8784d7f03265ed6613bdc0fdfb"), looks := false }, kinds := [], alts := [], laidByText := true, laidKinds := [.data, .data], laidTests := true, laidLooks := .later }
def HeaderShortCardSaid : Prop := Claim7.holds Tryd.pinned (.plain (OpenSpec.ofChange headerShortSpec)) headerShortCard

/-- THE TIED CARD OF 'trunklinelaw02.HeaderUnlike'. -/
def headerUnlikeCard : Claim7 := { stood := { row := headerUnlikeRow, standIns := [], harness := (true, "c88c497e23d371e041dace1967487a77355d2b8784d7f03265ed6613bdc0fdfb"), looks := false }, kinds := [], alts := [], laidByText := true, laidKinds := [.data, .data], laidTests := true, laidLooks := .later }
def HeaderUnlikeCardSaid : Prop := Claim7.holds Tryd.pinned (.plain (OpenSpec.ofChange headerUnlikeSpec)) headerUnlikeCard

/-- THE SECOND FORM's CARD OF 'trunklinelaw02.HeaderTells'. -/
def headerTellsUptoCard : Claim7 := { stood := { row := headerTellsUptoRow, standIns := [], harness := (true, "c88c497e23d371e041dace1967487a77355d2b8784d7f03265ed6613bdc0fdfb"), looks := false }, kinds := [], alts := [], laidByText := true, laidKinds := [.data, .data], laidTests := true, laidLooks := .later }
def HeaderTellsUptoCardSaid : Prop := Claim7.holds Tryd.pinned (.plain (OpenSpec.upto headerTellsSpec)) headerTellsUptoCard

/-- THE SECOND FORM's CARD OF 'trunklinelaw02.HeaderBack'. -/
def headerBackUptoCard : Claim7 := { stood := { row := headerBackUptoRow, standIns := [], harness := (true, "c88c497e23d371e041dace1967487a77355d2b8784d7f03265ed6613bdc0fdfb"), looks := false }, kinds := [], alts := [], laidByText := true, laidKinds := [.data, .data], laidTests := true, laidLooks := .later }
def HeaderBackUptoCardSaid : Prop := Claim7.holds Tryd.pinned (.plain (OpenSpec.upto headerBackSpec)) headerBackUptoCard

/-- THE SECOND FORM's CARD OF 'trunklinelaw02.HeaderKinds'. -/
def headerKindsUptoCard : Claim7 := { stood := { row := headerKindsUptoRow, standIns := [], harness := (true, "c88c497e23d371e041dace1967487a77355d2b8784d7f03265ed6613bdc0fdfb"), looks := false }, kinds := [], alts := [], laidByText := true, laidKinds := [.data, .data], laidTests := true, laidLooks := .later }
def HeaderKindsUptoCardSaid : Prop := Claim7.holds Tryd.pinned (.plain (OpenSpec.upto headerKindsSpec)) headerKindsUptoCard

/-- THE SECOND FORM's CARD OF 'trunklinelaw02.HeaderSides'. -/
def headerSidesUptoCard : Claim7 := { stood := { row := headerSidesUptoRow, standIns := [], harness := (true, "c88c497e23d371e041dace1967487a77355d2b8784d7f03265ed6613bdc0fdfb"), looks := false }, kinds := [], alts := [], laidByText := true, laidKinds := [.data, .data], laidTests := true, laidLooks := .later }
def HeaderSidesUptoCardSaid : Prop := Claim7.holds Tryd.pinned (.plain (OpenSpec.upto headerSidesSpec)) headerSidesUptoCard

/-- THE SECOND FORM's CARD OF 'trunklinelaw02.HeaderShort'. -/
def headerShortUptoCard : Claim7 := { stood := { row := headerShortUptoRow, standIns := [], harness := (true, "c88c497e23d371e041dace1967487a77355d2b8784d7f03265ed6613bdc0fdfb"), looks := false }, kinds := [], alts := [], laidByText := true, laidKinds := [.data, .data], laidTests := true, laidLooks := .later }
def HeaderShortUptoCardSaid : Prop := Claim7.holds Tryd.pinned (.plain (OpenSpec.upto headerShortSpec)) headerShortUptoCard

/-- THE SECOND FORM's CARD OF 'trunklinelaw02.HeaderUnlike'. -/
def headerUnlikeUptoCard : Claim7 := { stood := { row := headerUnlikeUptoRow, standIns := [], harness := (true, "c88c497e23d371e041dace1967487a77355d2b8784d7f03265ed6613bdc0fdfb"), looks := false }, kinds := [], alts := [], laidByText := true, laidKinds := [.data, .data], laidTests := true, laidLooks := .later }
def HeaderUnlikeUptoCardSaid : Prop := Claim7.holds Tryd.pinned (.plain (OpenSpec.upto headerUnlikeSpec)) headerUnlikeUptoCard
end Rows
end Go.Proofs.YtehkcdnblhfnaaaDoor
