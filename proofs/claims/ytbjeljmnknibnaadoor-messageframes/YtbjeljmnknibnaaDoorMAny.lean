/- Proved here: the answers of Pack and the document's in one form; what is unpacked is small. Conditions: as each theorem states them. -/
import Derived.Test.YtbjeljmnknibnaaDoorMk
import Derived.Test.YtbjeljmnknibnaaDoorRMk
import Derived.Test.YtbjeljmnknibnaaDoorMUn
namespace Go.Proofs.YtbjeljmnknibnaaDoor
set_option linter.unusedSimpArgs false
set_option linter.unusedVariables false
open Go.RowKit Go.Shelf

def mpE (m : Me) : Int := if rightM m = true then (if 1000 < (bytesM m).length then 6 else 0) else 1
def mpB (m : Me) : List UInt8 := if mpE m = 0 then bytesM m else []
theorem mpE_no {m : Me} (h : rightM m = false) : mpE m = 1 := by unfold mpE; rw [if_neg (by rw [h]; decide)]
theorem mpE_long {m : Me} (h : rightM m = true) (hl : 1000 < (bytesM m).length) : mpE m = 6 := by unfold mpE; rw [if_pos h, if_pos hl]
theorem mpE_ok {m : Me} (h : rightM m = true) (hl : (bytesM m).length ≤ 1000) : mpE m = 0 := by unfold mpE; rw [if_pos h, if_neg (by omega)]
theorem mpE_zero {m : Me} (h : mpE m = 0) : rightM m = true ∧ (bytesM m).length ≤ 1000 := by
  unfold mpE at h
  split at h
  · rename_i h1
    split at h
    · cases h
    · exact ⟨h1, by omega⟩
  · cases h
theorem mpB_ok {m : Me} (h : mpE m = 0) : mpB m = bytesM m := by unfold mpB; rw [if_pos h]
theorem mpB_no {m : Me} (h : mpE m ≠ 0) : mpB m = [] := by unfold mpB; rw [if_neg h]
theorem mpB_len (m : Me) : (mpB m).length ≤ 1000 := by
  by_cases h : mpE m = 0
  · rw [mpB_ok h]; exact (mpE_zero h).2
  · rw [mpB_no h]; simp
/-- Bytes, and an error. -/
def MpAll (m : Me) (w : World) (e : Ending) (w' : World) : Prop := ∃ (a : Option Addr) (n c : Nat), e = .returned (.tuple #[.slice a n c, .int .i64 (mpE m)]) ∧ IsB w'.heap.size w' a n (mpB m) ∧ (a = none → c = 0) ∧ n ≤ c ∧ Below w.heap.size w w'
theorem mp_all {m : Me} {w w' : World} {e : Ending} (h : MpAns m w e w') : MpAll m w e w' := by
  obtain ⟨b, ⟨hr, rfl⟩ | ⟨hr, hl, rfl⟩ | ⟨hr, hl, a, c, rfl, o⟩⟩ := h
  · have := mpE_no hr
    exact ⟨none, 0, 0, by rw [this], by rw [mpB_no (by omega)]; exact isB_none _ _, fun _ => rfl, Nat.le_refl _, b⟩
  · have := mpE_long hr hl
    exact ⟨none, 0, 0, by rw [this], by rw [mpB_no (by omega)]; exact isB_none _ _, fun _ => rfl, Nat.le_refl _, b⟩
  · have := mpE_ok hr hl
    exact ⟨a, _, c, by rw [this], by rw [mpB_ok this]; exact o.isB.1, o.isB.2.1, o.isB.2.2, b⟩
theorem mpack_all (r : Int) (b : Bool) (k : Int) (a : Option Addr) (n c : Nat) (L : List El) (w : World) {m0 : Nat} (hv : IsI m0 w a n L) (hm0 : m0 ≤ w.heap.size) (hn : n ≤ 1000) (ht : Tab w) :
    Calls Tryd.prog 11 #[meV r b k a n c] w (MpAll (mk r b k L) w) := (mpack_calls r b k a n c L w hv hm0 hn ht).mono fun _ _ h => mp_all h
theorem refmpack_all (r : Int) (b : Bool) (k : Int) (a : Option Addr) (n c : Nat) (L : List El) (w : World) {m0 : Nat} (hv : IsI m0 w a n L) (hm0 : m0 ≤ w.heap.size) (hn : n ≤ 1000) :
    Calls Tryd.prog 12 #[meV r b k a n c] w (MpAll (mk r b k L) w) := (refmpack_calls r b k a n c L w hv hm0 hn).mono fun _ _ h => mp_all h
theorem unMe_small (zs : List UInt8) : ∀ x ∈ (unMe zs).ies, x.body.length ≤ 200 := by
  cases h : unM zs with
  | error E => rw [(unMe_err h).1]; simp
  | ok m => rw [(unMe_ok h).1]; exact (okL_iff.1 (rightM_iff.1 (bytes_unM h).2.1).1).2
end Go.Proofs.YtbjeljmnknibnaaDoor
