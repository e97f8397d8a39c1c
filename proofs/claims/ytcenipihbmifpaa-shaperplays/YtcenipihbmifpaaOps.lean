/- Proved here: how a slice of what is done at a time (a time and a step each) that came in reads. Conditions: as each theorem states them. -/
import Derived.OpenShut
import Derived.WideShapes
import Derived.Test.YtcenipihbmifpaaLib
namespace Go.Proofs.Ytcenipihbmifpaa
set_option linter.unusedSimpArgs false
set_option linter.unusedVariables false
open Go.RowKit Go.WideShapes

/-- A slice of pairs of numbers holds L; it lies below n. -/
def IsO (n : Nat) (W : World) (a : Option Addr) (len : Nat) (L : List (Int × Int)) : Prop :=
  len = L.length ∧ (L = [] ∨ ∃ b off, a = some ⟨b, off, none⟩ ∧ b < n ∧ ∀ i x, L[i]? = some x → W.cell? ⟨b, off + i * 2, none⟩ = some (.int .i64 x.1) ∧ W.cell? ⟨b, off + i * 2 + 1, none⟩ = some (.int .i64 x.2))
theorem IsO.at {n : Nat} {W : World} {a : Option Addr} {len : Nat} {L : List (Int × Int)} (h : IsO n W a len L) {i : Nat} (hi : i < len) :
    ∃ b off x, a = some ⟨b, off, none⟩ ∧ b < n ∧ L[i]? = some x ∧ ∀ W', Below n W W' → W'.cell? ⟨b, off + i * 2, none⟩ = some (.int .i64 x.1) ∧ W'.cell? ⟨b, off + i * 2 + 1, none⟩ = some (.int .i64 x.2) := by
  have hl : i < L.length := by have := h.1; omega
  have hx : L[i]? = some L[i] := List.getElem?_eq_getElem hl
  rcases h.2 with rfl | ⟨b, off, e, hb', hc⟩
  · cases hx
  · exact ⟨b, off, _, e, hb', hx, fun W' hB => ⟨(hB.cell (p := ⟨b, off + i * 2, none⟩) hb').trans (hc i _ hx).1, (hB.cell (p := ⟨b, off + i * 2 + 1, none⟩) hb').trans (hc i _ hx).2⟩⟩

theorem cell2 {H : Type} {enc : TypeId × Value → H} {P : Program} {w : World} {base : Nat} {spare : Nat → Bool} {held : Bool} {t e1 e2 : TypeId} {fuel : Nat} {fs : Array Field} {f1 f2 : Field} {cs : List Value} {x : DataW H × List MemPlace}
    (ht : P.underlying t = some (.struct fs)) (h1 : fs[0]? = some f1) (h2 : fs[1]? = some f2) (hz : fs.size = 2) (g1 : f1.type = e1 ∧ f1.offset = 0) (g2 : f2.type = e2 ∧ f2.offset = 1) (he1 : P.underlying e1 = some (.int .i64)) (he2 : P.underlying e2 = some (.int .i64)) (hc1 : P.cellsOf e1 = 1) (hc2 : P.cellsOf e2 = 1)
    (hf : DataW.trod enc P w base spare held fuel t cs = some x) : ∃ (q lo : Int), cs[0]? = some (.int .i64 q) ∧ cs[1]? = some (.int .i64 lo) := by
  obtain ⟨xs, m, _, _, hl, hx, hall⟩ := DataW.trod_struct ht hf
  have a1 := hall 0 f1 h1
  have a2 := hall 1 f2 h2
  rw [g1.1, g1.2, hc1] at a1
  rw [g2.1, g2.2, hc2] at a2
  obtain ⟨y, hy⟩ : ∃ y, xs[0]? = some y := ⟨xs[0]'(by omega), by rw [List.getElem?_eq_getElem]⟩
  obtain ⟨y2, hy2⟩ : ∃ y, xs[1]? = some y := ⟨xs[1]'(by omega), by rw [List.getElem?_eq_getElem]⟩
  rw [hy] at a1
  rw [hy2] at a2
  obtain ⟨z, hz1, _, _⟩ := DataW.trod_int he1 a1
  obtain ⟨b, hb1, _, _⟩ := DataW.trod_int he2 a2
  refine ⟨z, b, ?_, ?_⟩
  · have : (List.take 1 (List.drop 0 cs))[0]? = some (.int .i64 z) := by rw [hz1]; rfl
    simpa using this
  · have : (List.take 1 (List.drop 1 cs))[0]? = some (.int .i64 b) := by rw [hb1]; rfl
    simpa using this

/-- The pair that lies somewhere. -/
def pairAt (w : World) (b k : Nat) : Int × Int := (match w.cell? ⟨b, k, none⟩ with | some (.int _ z) => z | _ => 0, match w.cell? ⟨b, k + 1, none⟩ with | some (.int _ z) => z | _ => 0)

theorem open_ops {H : Type} {enc : TypeId × Value → H} {P : Program} {w : World} {base : Nat} {spare : Nat → Bool} {held : Bool} {t e e1 e2 : TypeId} {fs : Array Field} {f1 f2 : Field} {a : Option Addr} {len cap : Nat} {d : DataW H} {p : List MemPlace}
    (ht : P.underlying t = some (.slice e)) (he : P.underlying e = some (.struct fs)) (h1 : fs[0]? = some f1) (h2 : fs[1]? = some f2) (hz : fs.size = 2) (g1 : f1.type = e1 ∧ f1.offset = 0) (g2 : f2.type = e2 ∧ f2.offset = 1) (he1 : P.underlying e1 = some (.int .i64)) (he2 : P.underlying e2 = some (.int .i64)) (hc1 : P.cellsOf e1 = 1) (hc2 : P.cellsOf e2 = 1) (hce : P.cellsOf e = 2)
    (h : DataW.Trod enc P w base spare held t (.slice a len cap) d p) : ∃ L, IsO w.heap.size w a len L ∧ len ≤ cap := by
  obtain ⟨fuel, hf⟩ := h
  rcases DataW.trod_slice ht hf with ⟨hcs, _⟩ | ⟨x, l, c, elems, rest, n, _, hcs, _, _, hl, _, hlen, hel, _⟩
  · simp [Value.cells] at hcs
    obtain ⟨rfl, rfl, rfl⟩ := hcs
    exact ⟨[], ⟨rfl, .inl rfl⟩, Nat.le_refl _⟩
  · simp [Value.cells] at hcs
    obtain ⟨rfl, rfl, rfl⟩ := hcs
    rw [hce] at hel
    have key : ∀ i, i < len → ∃ (q lo : Int), w.cell? ((x.add (i * 2)).add 0) = some (.int .i64 q) ∧ w.cell? ((x.add (i * 2)).add 1) = some (.int .i64 lo) := by
      intro i hi
      have h1' := hel i hi
      rw [List.getElem?_eq_getElem (by omega)] at h1'
      obtain ⟨cs, h2', h3⟩ := Option.bind_eq_some_iff.1 h1'
      obtain ⟨_, _, h4⟩ := World.cells?_some h2'
      obtain ⟨q, lo, y1, y2⟩ := cell2 he h1 h2 hz g1 g2 he1 he2 hc1 hc2 h3
      exact ⟨q, lo, (h4 0 (by decide)).trans y1, (h4 1 (by decide)).trans y2⟩
    by_cases h0 : len = 0
    · subst h0
      exact ⟨[], ⟨rfl, .inl rfl⟩, hl⟩
    · obtain ⟨b, off, spot⟩ := x
      have hspot : spot = none := by
        obtain ⟨q, lo, hy, _⟩ := key 0 (by omega)
        simpa [Addr.add] using World.cell?_spot hy
      subst hspot
      have key2 : ∀ i, i < len → w.cell? ⟨b, off + i * 2, none⟩ = some (.int .i64 (pairAt w b (off + i * 2)).1) ∧ w.cell? ⟨b, off + i * 2 + 1, none⟩ = some (.int .i64 (pairAt w b (off + i * 2)).2) := by
        intro i hi
        obtain ⟨q, lo, hy, hy2⟩ := key i hi
        rw [add_plain, add_plain] at hy hy2
        rw [Nat.add_zero] at hy
        unfold pairAt
        rw [hy, hy2]
        simp
      refine ⟨(List.range len).map fun i => pairAt w b (off + i * 2), ⟨by simp, .inr ⟨b, off, rfl, ?_, ?_⟩⟩, hl⟩
      · have := (key2 0 (by omega)).1
        exact World.block_lt_of_cell? w ⟨b, off + 0 * 2, none⟩ this
      · intro i x hx
        simp only [List.getElem?_map, Option.map_eq_some_iff] at hx
        obtain ⟨i', hi, rfl⟩ := hx
        obtain ⟨hi2, rfl⟩ := List.getElem?_eq_some_iff.1 hi
        simp only [List.length_range] at hi2
        rw [List.getElem_range]
        exact key2 i hi2
end Go.Proofs.Ytcenipihbmifpaa
