/- Proved here: what the listed tables hold when a call begins, and a start that meets it. Conditions: as each theorem states them. -/
import Derived.Test.YtpifmljbaogcbaaDoorRows
import Derived.Test.YtpifmljbaogcbaaDoorHLay
import Derived.Lib.LaidTab
import Derived.LaidMore
import Derived.LaidHandle
import Derived.MakeChecks
import Derived.Stop.LaidErr
namespace Go.Proofs.YtpifmljbaogcbaaDoor.H
open Go.RowKit

def laidL : List (String × DataW Unit) := [("trunkline/header.userBits", Rows.laid_trunkline_header_userBits), ("trunkline/header.switchBits", Rows.laid_trunkline_header_switchBits)]

theorem gSwitch : Tryd.prog.globalNamed "trunkline/header.switchBits" = some 0 := by kernel_rfl
theorem gUser : Tryd.prog.globalNamed "trunkline/header.userBits" = some 1 := by kernel_rfl
theorem tSwitch : (Tryd.prog.globals[0]?).map (·.type) = some 97 := by kernel_rfl
theorem tUser : (Tryd.prog.globals[1]?).map (·.type) = some 97 := by kernel_rfl
theorem c47 : Tryd.prog.cellsOf 73 = 1 := by kernel_rfl
theorem c54 : Tryd.prog.cellsOf 97 = 5 := by kernel_rfl

theorem door_met (os : Os) (args : Array Value) : laidMetH Tryd.prog laidL ((World.doorLaid Tryd.prog 19 os).forCall (fun _ _ => 0) ⟨#[], args, []⟩).memory :=
  laidMetH_of_parts3 (fuel := 8) (laidMet_of_run' 8 (by kernel_rfl) (by kernel_rfl)) (by kernel_rfl) (by kernel_rfl)

theorem tab_of_laid {W : World} (h : laidMetH Tryd.prog laidL W) : Tab W := by
  rw [MakeChecks.laidMetH_plain _ _ _ (by kernel_rfl)] at h
  have u := Lib.tabIs_of_head (k := .u64) (zs := [4, 8, 16, 3, 1]) gUser tUser Tryd.underlying97 Tryd.underlying73 c47 c54 h
  have s := Lib.tabIs_of_head (k := .u64) (zs := [0, 12, 16, 3, 1]) gSwitch tSwitch Tryd.underlying97 Tryd.underlying73 c47 c54 h.tail
  have e := u.cell gUser 0 (by decide)
  exact ⟨World.block_lt_of_cell? W ⟨1, 0, none⟩ e, ⟨s.cell gSwitch 0 (by decide), s.cell gSwitch 1 (by decide), s.cell gSwitch 2 (by decide), s.cell gSwitch 3 (by decide), s.cell gSwitch 4 (by decide)⟩,
    e, u.cell gUser 1 (by decide), u.cell gUser 2 (by decide), u.cell gUser 3 (by decide), u.cell gUser 4 (by decide)⟩
end Go.Proofs.YtpifmljbaogcbaaDoor.H
