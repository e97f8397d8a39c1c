/- Proved here: how a slice of slices of bytes that came in reads. Conditions: as each theorem states them. -/
import Derived.OpenShut
import Derived.WideShapes
import Derived.ChangeSlices
import Derived.Test.YtfmicnjijcmjaaaApp
namespace Go.Proofs.Ytfmicnjijcmjaaa
set_option linter.unusedSimpArgs false
set_option linter.unusedVariables false
open Go.RowKit Go.WideShapes Go.ChangeShapes

/-- A slice of slices of bytes; all its cells lie below n. -/
def IsL (n : Nat) (W : World) (a : Option Addr) (len : Nat) : Prop :=
  len = 0 ∨ ∃ b off, a = some ⟨b, off, none⟩ ∧ b < n ∧ ∀ i, i < len → ∃ ai li ci xs, W.cell? ⟨b, off + i, none⟩ = some (.slice ai li ci) ∧ IsB n W ai li xs ∧ li ≤ ci
theorem IsL.below {n k : Nat} {A B : World} (h : Below k A B) (hk : n ≤ k) {a : Option Addr} {len : Nat} : IsL n A a len → IsL n B a len
  | .inl z => .inl z
  | .inr ⟨b, off, ea, hb, hc⟩ => .inr ⟨b, off, ea, hb, fun i hi => by
      obtain ⟨ai, li, ci, xs, h1, h2, h3⟩ := hc i hi
      exact ⟨ai, li, ci, xs, (h.cell (p := ⟨b, off + i, none⟩) (by show b < k; omega)).trans h1, h2.below h hk, h3⟩⟩
theorem IsL.at {n : Nat} {W : World} {a : Option Addr} {len : Nat} (h : IsL n W a len) {i : Nat} (hi : i < len) :
    ∃ b off ai li ci xs, a = some ⟨b, off, none⟩ ∧ b < n ∧ W.cell? ⟨b, off + i, none⟩ = some (.slice ai li ci) ∧ IsB n W ai li xs ∧ li ≤ ci := by
  rcases h with h | ⟨b, off, ea, hb, hc⟩
  · omega
  · obtain ⟨ai, li, ci, xs, h1, h2, h3⟩ := hc i hi
    exact ⟨b, off, ai, li, ci, xs, ea, hb, h1, h2, h3⟩

theorem open_lists {H : Type} {enc : TypeId × Value → H} {P : Program} {w : World} {base : Nat} {held : Bool} {t e q : TypeId} {a : Option Addr} {len cap : Nat} {d : DataW H} {p : List MemPlace}
    (ht : P.underlying t = some (.slice e)) (he : P.underlying e = some (.slice q)) (hq : P.underlying q = some (.int .u8)) (hcq : P.cellsOf q = 1) (hce : P.cellsOf e = 1) (h : DataW.Trod enc P w base (fun _ => true) held t (.slice a len cap) d p) :
    IsL w.heap.size w a len ∧ len ≤ cap := by
  obtain ⟨fuel, hf⟩ := h
  rcases DataW.trod_slice ht hf with ⟨hcs, _⟩ | ⟨x, l, c, elems, rest, n, _, hcs, _, _, hl, _, hlen, hel, _⟩
  · simp [Value.cells] at hcs
    obtain ⟨rfl, rfl, rfl⟩ := hcs
    exact ⟨.inl rfl, Nat.le_refl _⟩
  · simp [Value.cells] at hcs
    obtain ⟨rfl, rfl, rfl⟩ := hcs
    rw [hce] at hel
    have key : ∀ i, i < len → ∃ ai li ci xs, w.cell? (x.add i) = some (.slice ai li ci) ∧ IsB w.heap.size w ai li xs ∧ li ≤ ci := by
      intro i hi
      have h1 := hel i hi
      rw [List.getElem?_eq_getElem (by omega), Nat.mul_one] at h1
      obtain ⟨cs, h2, h3⟩ := Option.bind_eq_some_iff.1 h1
      obtain ⟨_, _, h4⟩ := World.cells?_some h2
      have h5 := h4 0 (by decide)
      have ex : (x.add i).add 0 = x.add i := by
        obtain ⟨b, off, spot⟩ := x
        cases spot <;> simp [Addr.add]
      rw [ex] at h5
      rcases open_ints he hq hcq h3 with ⟨hcs, _⟩ | ⟨ad, li, ci, zs, hcs, _, hl2, hm2, hz2, _, hcell, hwz⟩
      · rw [hcs] at h5
        exact ⟨none, 0, 0, [], h5, ⟨rfl, .inl rfl⟩, Nat.le_refl _⟩
      · rw [hcs] at h5
        obtain ⟨bs, _, hI, _, hlc, _⟩ := isB_of_row (w := w) (a := some ad) (len := li) (cap := ci) (zs := zs) (.inr ⟨ad, rfl, hl2, hm2, by simpa using hz2, hcell, hwz⟩)
        exact ⟨some ad, li, ci, bs, h5, hI, hlc⟩
    by_cases h0 : len = 0
    · exact ⟨.inl h0, hl⟩
    · obtain ⟨b, off, spot⟩ := x
      have hspot : spot = none := by
        obtain ⟨ai, li, ci, xs, hy, _⟩ := key 0 (by omega)
        simpa [Addr.add] using World.cell?_spot hy
      subst hspot
      refine ⟨.inr ⟨b, off, rfl, ?_, fun i hi => ?_⟩, hl⟩
      · obtain ⟨ai, li, ci, xs, hy, _⟩ := key 0 (by omega)
        rw [add_plain] at hy
        exact World.block_lt_of_cell? w ⟨b, off + 0, none⟩ hy
      · obtain ⟨ai, li, ci, xs, hy, hI, hlc⟩ := key i hi
        rw [add_plain] at hy
        exact ⟨ai, li, ci, xs, hy, hI, hlc⟩
end Go.Proofs.Ytfmicnjijcmjaaa
