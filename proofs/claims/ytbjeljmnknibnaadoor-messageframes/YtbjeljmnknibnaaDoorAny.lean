/- Proved here: the answers of Pack, Unpack, and the document's, in one form. Conditions: as each theorem states them. -/
import Derived.Test.YtbjeljmnknibnaaDoorRPk
import Derived.Test.YtbjeljmnknibnaaDoorRUn
namespace Go.Proofs.YtbjeljmnknibnaaDoor
set_option linter.unusedSimpArgs false
set_option linter.unusedVariables false
open Go.RowKit Go.Shelf

def pkB (L : List El) : List UInt8 := if okL L = true then bytesE L else []
def pkE (L : List El) : Int := if okL L = true then 0 else 6
def unL (zs : List UInt8) : List El := match unE 16 zs with | .ok L => L | .error _ => []
def unX (zs : List UInt8) : Int := match unE 16 zs with | .ok _ => 0 | .error e => e
theorem unL_small (zs : List UInt8) : (unL zs).length ≤ 16 ∧ ∀ x ∈ unL zs, x.body.length ≤ 200 := by
  unfold unL
  split
  · rename_i L h
    exact (bytes_unE 16 zs L h).2
  · exact ⟨by simp, by simp⟩
/-- Bytes, and an error. -/
def PkAll (L : List El) (w : World) (e : Ending) (w' : World) : Prop := ∃ (a : Option Addr) (n c : Nat), e = .returned (.tuple #[.slice a n c, .int .i64 (pkE L)]) ∧ IsB w'.heap.size w' a n (pkB L) ∧ Below w.heap.size w w'
theorem isB_none (m : Nat) (w : World) : IsB m w none 0 [] := ⟨rfl, .inl rfl⟩
theorem pack_all (a : Option Addr) (n c : Nat) (L : List El) (w : World) {m0 : Nat} (hv : IsI m0 w a n L) (hm0 : m0 ≤ w.heap.size) (hn : n ≤ 1000) : Calls Tryd.prog 28 #[.slice a n c] w (PkAll L w) := by
  cases h : okL L
  · refine (pack_no a n c L w hv hm0 hn h).mono ?_
    rintro e w' ⟨rfl, b⟩
    exact ⟨none, 0, 0, by simp [pkE, h], by simp only [pkB, h, Bool.false_eq_true, if_false]; exact isB_none _ _, b⟩
  · refine (pack_ok a n c L w hv hm0 h).mono ?_
    rintro e w' ⟨a', c', rfl, o, b⟩
    exact ⟨a', (bytesE L).length, c', by simp [pkE, h], by simp only [pkB, h, if_true]; exact o.isB.1, b⟩
theorem refpack_all (a : Option Addr) (n c : Nat) (L : List El) (w : World) {m0 : Nat} (hv : IsI m0 w a n L) (hm0 : m0 ≤ w.heap.size) (hn : n ≤ 1000) : Calls Tryd.prog 30 #[.slice a n c] w (PkAll L w) := by
  refine (refpack_calls a n c L w hv hm0 hn).mono ?_
  rintro e w' ⟨b, ⟨h, a', c', rfl, o⟩ | ⟨h, rfl⟩⟩
  · exact ⟨a', (bytesE L).length, c', by simp [pkE, h], by simp only [pkB, h, if_true]; exact o.isB.1, b⟩
  · exact ⟨none, 0, 0, by simp [pkE, h], by simp only [pkB, h, Bool.false_eq_true, if_false]; exact isB_none _ _, b⟩
/-- Elements, and an error. -/
def UnAll (zs : List UInt8) (w : World) (e : Ending) (w' : World) : Prop := ∃ (a : Option Addr) (n c : Nat), e = .returned (.tuple #[.slice a n c, .int .i64 (unX zs)]) ∧ IsI w'.heap.size w' a n (unL zs) ∧ n ≤ 16 ∧ Below w.heap.size w w'
theorem un_all {zs : List UInt8} {w w' : World} {e : Ending} (h : UnAns zs w e w') : UnAll zs w e w' := by
  obtain ⟨b, ⟨L, a', c', hL, rfl, o⟩ | ⟨E, hE, rfl⟩⟩ := h
  · have e1 : unL zs = L := by unfold unL; rw [hL]
    have e2 : unX zs = 0 := by unfold unX; rw [hL]
    have := (unL_small zs).1
    rw [e1] at this
    exact ⟨a', _, c', by rw [e2], by rw [e1]; exact o.isI.1, this, b⟩
  · have e1 : unL zs = [] := by unfold unL; rw [hE]
    have e2 : unX zs = E := by unfold unX; rw [hE]
    exact ⟨none, 0, 0, by rw [e2], by rw [e1]; exact isI_nil _ _ _, by decide, b⟩
theorem unpack_all (a : Option Addr) (len cap : Nat) (zs : List UInt8) (w : World) {n : Nat} (h : IsB n w a len zs) (hn : n ≤ w.heap.size) (hlc : len ≤ cap) (hm : len ≤ 10000) : Calls Tryd.prog 32 #[.slice a len cap] w (UnAll zs w) :=
  (unpack_calls a len cap zs w h hn hlc hm).mono fun _ _ h => un_all h
theorem refunpack_all (a : Option Addr) (len cap : Nat) (zs : List UInt8) (w : World) {n : Nat} (h : IsB n w a len zs) (hn : n ≤ w.heap.size) (hlc : len ≤ cap) (hm : len ≤ 10000) : Calls Tryd.prog 35 #[.slice a len cap] w (UnAll zs w) :=
  (refunpack_calls a len cap zs w h hn hlc hm).mono fun _ _ h => un_all h
end Go.Proofs.YtbjeljmnknibnaaDoor
