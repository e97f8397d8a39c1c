/- Proved here: what the listed table holds when a call begins, and a start that meets it. Conditions: as each theorem states them. -/
import Derived.Test.YtbjeljmnknibnaaDoorRows
import Derived.Test.YtbjeljmnknibnaaDoorKn
import Derived.Lib.LaidTab
import Derived.LaidMore
import Derived.LaidHandle
import Derived.MakeChecks
import Derived.Stop.LaidErr
namespace Go.Proofs.YtbjeljmnknibnaaDoor
set_option linter.unusedSimpArgs false
set_option linter.unusedVariables false
set_option maxRecDepth 20000
open Go.RowKit

def laidL : List (String × DataW Unit) := [("trunkline/message.kinds", Rows.laid_trunkline_message_kinds)]

theorem gKinds : Tryd.prog.globalNamed "trunkline/message.kinds" = some 0 := by kernel_rfl
theorem tKinds : (Tryd.prog.globals[0]?).map (·.type) = some 97 := by kernel_rfl
theorem cInt : Tryd.prog.cellsOf 3 = 1 := by kernel_rfl
theorem cFive : Tryd.prog.cellsOf 97 = 5 := by kernel_rfl

theorem door_met (os : Os) (args : Array Value) : laidMetH Tryd.prog laidL ((World.doorLaid Tryd.prog 14 os).forCall (fun _ _ => 0) ⟨#[], args, []⟩).memory :=
  laidMetH_of_parts3 (fuel := 8) (laidMet_of_run' 8 (by kernel_rfl) (by kernel_rfl)) (by kernel_rfl) (by kernel_rfl)

theorem tab_of_laid {W : World} (h : laidMetH Tryd.prog laidL W) : Tab W := by
  rw [MakeChecks.laidMetH_plain _ _ _ (by kernel_rfl)] at h
  have u := Lib.tabIs_of_head (k := .i64) (zs := [2, 5, 7, 77, 90]) gKinds tKinds Tryd.underlying97 Tryd.underlying3 cInt cFive h
  have e := u.cell gKinds 0 (by decide)
  exact ⟨World.block_lt_of_cell? W ⟨0, 0, none⟩ e, e, u.cell gKinds 1 (by decide), u.cell gKinds 2 (by decide), u.cell gKinds 3 (by decide), u.cell gKinds 4 (by decide)⟩
end Go.Proofs.YtbjeljmnknibnaaDoor
