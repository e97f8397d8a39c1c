/- Proved here: what cell.Empty answers. No condition but those stated. -/
import Derived.Test.YtpifmljbaogcbaaDoorWhole
import Derived.Test.YtpifmljbaogcbaaDoorHKind
namespace Go.Proofs.YtpifmljbaogcbaaDoor
set_option linter.unusedSimpArgs false
set_option linter.unusedVariables false
open Go.RowKit
open H (kindN kind_calls)

/-- Does a cell carry nothing? -/
def emptyB (p v t c : Int) : Bool := kindN p v t c == 2 || kindN p v t c == 3
theorem emptyB_of {p v t c : Int} (h : emptyB p v t c = true) : p = 0 ∧ v = 0 := by
  unfold emptyB kindN H.kindT at h
  by_cases hv : v = 0
  · by_cases hp : p = 0
    · exact ⟨hp, hv⟩
    · simp [hv, hp] at h
  · rw [if_neg hv] at h
    exfalso
    revert h
    repeat' split
    all_goals simp
theorem emptyB_no {p v t c : Int} (h : ¬ (p = 0 ∧ v = 0)) : emptyB p v t c = false := by
  cases he : emptyB p v t c
  · rfl
  · exact absurd (emptyB_of he) h

set_option maxHeartbeats 1000000 in
theorem empty_calls (g p v t c : Int) (ps : List UInt8) (w : World) :
    Calls Tryd.prog 17 #[.agg (cellV g p v t c ps)] w fun e w' => e = .returned (.bool (emptyB p v t c)) ∧ Below w.heap.size w w' := by
  have A0 : Below w.heap.size w (w.alloc (.cells (cellV g p v t c ps) 27)) := (Below.refl _ w).alloc (Nat.le_refl _) _
  obtain ⟨k0, k1, k2, k3, k4⟩ := (bk_new w (cellV g p v t c ps) 27).hdr
  by_cases hp : p = 0
  · by_cases hv : v = 0
    · subst hp hv
      have HE : Hid (emptyB 0 0 t c = (kindN 0 0 t c == 2 || kindN 0 0 t c == 3)) := rfl
      go_enter Tryd.func17, Tryd.ntmps17
      go_wp2_with fail
      refine (kind_calls g 0 0 t c _).mono ?_
      rintro e w1 ⟨rfl, b1⟩
      have B1 : Below w.heap.size w w1 := A0.trans (b1.mono A0.size)
      generalize kindN 0 0 t c = kk at *
      have HF : Hid (emptyB 0 0 t c = (kk == 2 || kk == 3)) := HE
      clear HE
      clear k0 k1 k2 k3 k4
      by_cases h2 : kk = 2
      · subst h2
        go_wp2
        go_ret
        exact ⟨ret_bool (by rw [HF.out]; rfl), B1⟩
      · have n2 : (kk == 2) = false := beq_eq_false_iff_ne.2 h2
        clear h2
        go_wp2
        go_ret
        exact ⟨ret_bool (by rw [HF.out, n2]; rfl), B1⟩
    · subst hp
      have HE : Hid (emptyB 0 v t c = false) := emptyB_no (fun h => hv h.2)
      have n2 : (v == 0) = false := beq_eq_false_iff_ne.2 hv
      clear hv
      go_enter Tryd.func17, Tryd.ntmps17
      go_wp2
      go_ret
      exact ⟨ret_bool HE.out.symm, A0⟩
  · have HE : Hid (emptyB p v t c = false) := emptyB_no (fun h => hp h.1)
    have n2 : (p == 0) = false := beq_eq_false_iff_ne.2 hp
    have m2 : (p != 0) = true := by simpa using hp
    clear hp
    go_enter Tryd.func17, Tryd.ntmps17
    go_wp2
    go_ret
    exact ⟨ret_bool HE.out.symm, A0⟩
end Go.Proofs.YtpifmljbaogcbaaDoor
