/- Proved here: how a slice of arrays of bytes that came in reads. Conditions: as each theorem states them. -/
import Derived.OpenShut
import Derived.WideShapes
import Derived.Test.YtpifmljbaogcbaaDoorApp
namespace Go.Proofs.YtpifmljbaogcbaaDoor
open Go.RowKit Go.WideShapes

/-- A slice of arrays of m bytes holds L; its cells lie below n. -/
def IsA (m n : Nat) (W : World) (a : Option Addr) (len : Nat) (L : List (List UInt8)) : Prop :=
  len = L.length ∧ (∀ x ∈ L, x.length = m) ∧ (L = [] ∨ ∃ b off, a = some ⟨b, off, none⟩ ∧ b < n ∧ ∀ i x, L[i]? = some x → ∀ j y, x[j]? = some y → W.cell? ⟨b, off + i * m + j, none⟩ = some (.int .u8 (y.toNat : Int)))

theorem IsA.below {m n k : Nat} {A B : World} (h : Below k A B) (hk : n ≤ k) {a : Option Addr} {len : Nat} {L : List (List UInt8)} : IsA m n A a len L → IsA m n B a len L
  | ⟨e, h1, .inl z⟩ => ⟨e, h1, .inl z⟩
  | ⟨e, h1, .inr ⟨b, off, ea, hb, hc⟩⟩ => ⟨e, h1, .inr ⟨b, off, ea, hb, fun i x hx j y hy => (h.cell (p := ⟨b, off + i * m + j, none⟩) (by show b < k; omega)).trans (hc i x hx j y hy)⟩⟩

theorem IsA.cell {m n : Nat} {W : World} {a : Option Addr} {len : Nat} {L : List (List UInt8)} (h : IsA m n W a len L) {i : Nat} {x : List UInt8} (hx : L[i]? = some x) :
    ∃ b off, a = some ⟨b, off, none⟩ ∧ b < n ∧ x.length = m ∧ ∀ j y, x[j]? = some y → W.cell? ⟨b, off + i * m + j, none⟩ = some (.int .u8 (y.toNat : Int)) := by
  rcases h.2.2 with rfl | ⟨b, off, e, hb, hc⟩
  · cases hx
  · exact ⟨b, off, e, hb, h.2.1 x (List.mem_of_getElem? hx), hc i x hx⟩

theorem arr_cells {H : Type} {enc : TypeId × Value → H} {P : Program} {w : World} {base : Nat} {spare : Nat → Bool} {held : Bool} {e q : TypeId} {m fuel : Nat} {cs : List Value} {x : DataW H × List MemPlace}
    (he : P.underlying e = some (.array m q)) (hq : P.underlying q = some (.int .u8)) (hcq : P.cellsOf q = 1) (hf : DataW.trod enc P w base spare held fuel e cs = some x) :
    ∀ j, j < m → ∃ y : UInt8, cs[j]? = some (.int .u8 (y.toNat : Int)) := by
  obtain ⟨xs, f, _, _, hl, hx, hall⟩ := DataW.trod_array he hf
  rw [hcq] at hall
  intro i hi
  have h1 := hall i hi
  obtain ⟨y, hy⟩ : ∃ y, xs[i]? = some y := ⟨xs[i]'(by omega), by rw [List.getElem?_eq_getElem]⟩
  rw [hy] at h1
  obtain ⟨z, hz, _, hwf⟩ := DataW.trod_int hq h1
  obtain ⟨u, rfl⟩ := byte_of_wf hwf
  refine ⟨u, ?_⟩
  have : (List.take 1 (List.drop (i * 1) cs))[0]? = some (.int .u8 (u.toNat : Int)) := by rw [hz]; rfl
  simpa using this

/-- The byte in a cell. -/
def byteAt (w : World) (b k : Nat) : UInt8 := match w.cell? ⟨b, k, none⟩ with
  | some (.int _ z) => UInt8.ofNat z.toNat
  | _ => 0

theorem open_arrs {H : Type} {enc : TypeId × Value → H} {P : Program} {w : World} {base : Nat} {spare : Nat → Bool} {held : Bool} {t e q : TypeId} {m : Nat} {a : Option Addr} {len cap : Nat} {d : DataW H} {p : List MemPlace}
    (ht : P.underlying t = some (.slice e)) (he : P.underlying e = some (.array m q)) (hq : P.underlying q = some (.int .u8)) (hcq : P.cellsOf q = 1) (hce : P.cellsOf e = m) (hm : 0 < m) (h : DataW.Trod enc P w base spare held t (.slice a len cap) d p) :
    ∃ L, IsA m w.heap.size w a len L ∧ len ≤ cap := by
  obtain ⟨fuel, hf⟩ := h
  rcases DataW.trod_slice ht hf with ⟨hcs, _⟩ | ⟨x, l, c, elems, rest, n, _, hcs, _, _, hl, _, hlen, hel, _⟩
  · simp [Value.cells] at hcs
    obtain ⟨rfl, rfl, rfl⟩ := hcs
    exact ⟨[], ⟨rfl, by simp, .inl rfl⟩, Nat.le_refl _⟩
  · simp [Value.cells] at hcs
    obtain ⟨rfl, rfl, rfl⟩ := hcs
    rw [hce] at hel
    have key : ∀ i, i < len → ∀ j, j < m → ∃ y : UInt8, w.cell? ((x.add (i * m)).add j) = some (.int .u8 (y.toNat : Int)) := by
      intro i hi j hj
      have h1 := hel i hi
      rw [List.getElem?_eq_getElem (by omega)] at h1
      obtain ⟨cs, h2, h3⟩ := Option.bind_eq_some_iff.1 h1
      obtain ⟨_, _, h4⟩ := World.cells?_some h2
      obtain ⟨y, hy⟩ := arr_cells he hq hcq h3 j hj
      exact ⟨y, (h4 j hj).trans hy⟩
    by_cases h0 : len = 0
    · subst h0
      exact ⟨[], ⟨rfl, by simp, .inl rfl⟩, hl⟩
    · obtain ⟨b, off, spot⟩ := x
      have hspot : spot = none := by
        obtain ⟨y, hy⟩ := key 0 (by omega) 0 hm
        simpa [Addr.add] using World.cell?_spot hy
      subst hspot
      have key2 : ∀ i, i < len → ∀ j, j < m → w.cell? ⟨b, off + i * m + j, none⟩ = some (.int .u8 ((byteAt w b (off + i * m + j)).toNat : Int)) := by
        intro i hi j hj
        obtain ⟨y, hy⟩ := key i hi j hj
        rw [add_plain, add_plain] at hy
        unfold byteAt
        rw [hy]
        simp
      refine ⟨(List.range len).map fun i => (List.range m).map fun j => byteAt w b (off + i * m + j), ⟨by simp, ?_, .inr ⟨b, off, rfl, ?_, ?_⟩⟩, hl⟩
      · intro x hx
        simp only [List.mem_map] at hx
        obtain ⟨i, _, rfl⟩ := hx
        simp
      · have := key2 0 (by omega) 0 hm
        exact World.block_lt_of_cell? w ⟨b, off + 0 * m + 0, none⟩ this
      · intro i x hx j y hy
        simp only [List.getElem?_map, Option.map_eq_some_iff] at hx
        obtain ⟨i', hi, rfl⟩ := hx
        obtain ⟨hi2, rfl⟩ := List.getElem?_eq_some_iff.1 hi
        simp only [List.length_range] at hi2
        simp only [List.getElem_range, List.getElem?_map, Option.map_eq_some_iff] at hy
        obtain ⟨j', hj, rfl⟩ := hy
        obtain ⟨hj2, rfl⟩ := List.getElem?_eq_some_iff.1 hj
        simp only [List.length_range] at hj2
        rw [List.getElem_range]
        exact key2 i hi2 j hj2
end Go.Proofs.YtpifmljbaogcbaaDoor
