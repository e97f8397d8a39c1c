/- Proved here: how a slice of what is done (a key, a number) that came in reads. Conditions: as each theorem states them. -/
import Derived.OpenShut
import Derived.WideShapes
import Derived.Test.YtgimmaancnlbcaaTb
namespace Go.Proofs.Ytgimmaancnlbcaa
set_option linter.unusedSimpArgs false
set_option linter.unusedVariables false
open Go.RowKit Go.WideShapes

/-- A slice of entries holds L; it lies below n. -/
def IsE (n : Nat) (W : World) (a : Option Addr) (len : Nat) (L : List En) : Prop :=
  len = L.length ∧ (L = [] ∨ ∃ b off, a = some ⟨b, off, none⟩ ∧ b < n ∧ ∀ j v, (ecells L)[j]? = some v → W.cell? ⟨b, off + j, none⟩ = some v)
theorem IsE.below {n k : Nat} {A B : World} (h : Below k A B) (hk : n ≤ k) {a : Option Addr} {len : Nat} {L : List En} : IsE n A a len L → IsE n B a len L
  | ⟨e, .inl z⟩ => ⟨e, .inl z⟩
  | ⟨e, .inr ⟨b, off, ea, hb, hc⟩⟩ => ⟨e, .inr ⟨b, off, ea, hb, fun j v hv => (h.cell (p := ⟨b, off + j, none⟩) (by show b < k; omega)).trans (hc j v hv)⟩⟩
theorem IsE.at {n : Nat} {W : World} {a : Option Addr} {len : Nat} {L : List En} (h : IsE n W a len L) {i : Nat} (hi : i < len) :
    ∃ b off x, a = some ⟨b, off, none⟩ ∧ b < n ∧ L[i]? = some x ∧ ∀ W', Below n W W' → W'.cell? ⟨b, off + i * 4, none⟩ = some (.int .i64 x.1.1) ∧ W'.cell? ⟨b, off + i * 4 + 1, none⟩ = some (.int .i64 x.1.2.1) ∧ W'.cell? ⟨b, off + i * 4 + 1 + 1, none⟩ = some (.int .i64 x.1.2.2) ∧ W'.cell? ⟨b, off + i * 4 + 1 + 1 + 1, none⟩ = some (.int .i64 x.2) := by
  have hl : i < L.length := by have := h.1; omega
  have hx : L[i]? = some L[i] := List.getElem?_eq_getElem hl
  rcases h.2 with rfl | ⟨b, off, e, hb', hc⟩
  · cases hx
  · obtain ⟨c0, c1, c2, c3⟩ := ecells_get hx
    exact ⟨b, off, _, e, hb', hx, fun W' hB => ⟨(hB.cell (p := ⟨b, off + i * 4, none⟩) hb').trans (hc _ _ c0), (hB.cell (p := ⟨b, off + i * 4 + 1, none⟩) hb').trans (hc _ _ c1), (hB.cell (p := ⟨b, off + i * 4 + 1 + 1, none⟩) hb').trans (hc _ _ c2), (hB.cell (p := ⟨b, off + i * 4 + 1 + 1 + 1, none⟩) hb').trans (hc _ _ c3)⟩⟩

theorem one_of {H : Type} {enc : TypeId × Value → H} {w : World} {base : Nat} {spare : Nat → Bool} {held : Bool} {fuel : Nat} {k m : Nat} {cs : List Value} {x : DataW H × List MemPlace} (hk : k < m)
    (h : DataW.trod enc Try.prog w base spare held fuel 3 (((cs.take m).drop k).take 1) = some x) : ∃ z : Int, cs[k]? = some (.int .i64 z) := by
  obtain ⟨z, hz, _, _⟩ := DataW.trod_int Try.underlying3 h
  refine ⟨z, ?_⟩
  have : (((cs.take m).drop k).take 1)[0]? = some (.int .i64 z) := by rw [hz]; rfl
  rw [List.getElem?_take_of_lt (by omega), List.getElem?_drop, List.getElem?_take_of_lt (by omega)] at this
  simpa using this

theorem cell4 {H : Type} {enc : TypeId × Value → H} {w : World} {base : Nat} {spare : Nat → Bool} {held : Bool} {fuel : Nat} {cs : List Value} {x : DataW H × List MemPlace}
    (hf : DataW.trod enc Try.prog w base spare held fuel 31 cs = some x) : ∃ (a b c d : Int), cs[0]? = some (.int .i64 a) ∧ cs[1]? = some (.int .i64 b) ∧ cs[2]? = some (.int .i64 c) ∧ cs[3]? = some (.int .i64 d) := by
  obtain ⟨xs, m, _, _, hl, hx, hall⟩ := DataW.trod_struct Try.underlying31 hf
  have hl2 : xs.length = 2 := by rw [hx]; rfl
  have a1 : DataW.trod enc Try.prog w base spare held m 24 (List.take (Try.prog.cellsOf 24) (List.drop 0 cs)) = xs[0]? := hall 0 _ rfl
  have a2 : DataW.trod enc Try.prog w base spare held m 3 (List.take (Try.prog.cellsOf 3) (List.drop 3 cs)) = xs[1]? := hall 1 _ rfl
  rw [show Try.prog.cellsOf 24 = 3 by kernel_rfl] at a1
  rw [show Try.prog.cellsOf 3 = 1 by kernel_rfl] at a2
  obtain ⟨y, hy⟩ : ∃ y, xs[0]? = some y := ⟨xs[0]'(by omega), by rw [List.getElem?_eq_getElem]⟩
  obtain ⟨y2, hy2⟩ : ∃ y, xs[1]? = some y := ⟨xs[1]'(by omega), by rw [List.getElem?_eq_getElem]⟩
  rw [hy] at a1
  rw [hy2] at a2
  obtain ⟨ys, m2, _, _, hl3, hx3, hall3⟩ := DataW.trod_struct Try.underlying24 a1
  have hl4 : ys.length = 3 := by rw [hx3]; rfl
  have e0 : DataW.trod enc Try.prog w base spare held m2 3 (List.take (Try.prog.cellsOf 3) (List.drop 0 (List.take 3 (List.drop 0 cs)))) = ys[0]? := hall3 0 _ rfl
  have e1 : DataW.trod enc Try.prog w base spare held m2 3 (List.take (Try.prog.cellsOf 3) (List.drop 1 (List.take 3 (List.drop 0 cs)))) = ys[1]? := hall3 1 _ rfl
  have e2 : DataW.trod enc Try.prog w base spare held m2 3 (List.take (Try.prog.cellsOf 3) (List.drop 2 (List.take 3 (List.drop 0 cs)))) = ys[2]? := hall3 2 _ rfl
  rw [show Try.prog.cellsOf 3 = 1 by kernel_rfl] at e0 e1 e2
  obtain ⟨z0, hz0⟩ : ∃ y, ys[0]? = some y := ⟨ys[0]'(by omega), by rw [List.getElem?_eq_getElem]⟩
  obtain ⟨z1, hz1⟩ : ∃ y, ys[1]? = some y := ⟨ys[1]'(by omega), by rw [List.getElem?_eq_getElem]⟩
  obtain ⟨z2, hz2⟩ : ∃ y, ys[2]? = some y := ⟨ys[2]'(by omega), by rw [List.getElem?_eq_getElem]⟩
  rw [hz0] at e0
  rw [hz1] at e1
  rw [hz2] at e2
  obtain ⟨a, ha⟩ := one_of (m := 3) (k := 0) (by omega) e0
  obtain ⟨b, hb⟩ := one_of (m := 3) (k := 1) (by omega) e1
  obtain ⟨c, hc⟩ := one_of (m := 3) (k := 2) (by omega) e2
  obtain ⟨d, hd, _, _⟩ := DataW.trod_int Try.underlying3 a2
  refine ⟨a, b, c, d, ha, hb, hc, ?_⟩
  have : (List.take 1 (List.drop 3 cs))[0]? = some (.int .i64 d) := by rw [hd]; rfl
  simpa using this

/-- The entry that lies somewhere. -/
def intAt (w : World) (b k : Nat) : Int := match w.cell? ⟨b, k, none⟩ with | some (.int _ z) => z | _ => 0
def entAt (w : World) (b k : Nat) : En := ((intAt w b k, intAt w b (k + 1), intAt w b (k + 2)), intAt w b (k + 3))
theorem intAt_of {w : World} {b k : Nat} {z : Int} (h : w.cell? ⟨b, k, none⟩ = some (.int .i64 z)) : w.cell? ⟨b, k, none⟩ = some (.int .i64 (intAt w b k)) := by unfold intAt; rw [h]

theorem ecells_split {L : List En} {j : Nat} {v : Value} (h : (ecells L)[j]? = some v) : ∃ i r x, L[i]? = some x ∧ j = i * 4 + r ∧
    ((r = 0 ∧ v = .int .i64 x.1.1) ∨ (r = 1 ∧ v = .int .i64 x.1.2.1) ∨ (r = 2 ∧ v = .int .i64 x.1.2.2) ∨ (r = 3 ∧ v = .int .i64 x.2)) := by
  have hj : j < L.length * 4 := by have := (List.getElem?_eq_some_iff.1 h).1; rwa [ecells_length] at this
  obtain ⟨x, hx⟩ : ∃ x, L[j / 4]? = some x := ⟨L[j / 4]'(by omega), by rw [List.getElem?_eq_getElem]⟩
  obtain ⟨c0, c1, c2, c3⟩ := ecells_get hx
  refine ⟨j / 4, j % 4, x, hx, by omega, ?_⟩
  have h4 : j % 4 = 0 ∨ j % 4 = 1 ∨ j % 4 = 2 ∨ j % 4 = 3 := by omega
  rcases h4 with e | e | e | e
  · left; rw [show j / 4 * 4 = j by omega] at c0; rw [h] at c0; exact ⟨e, Option.some.inj c0⟩
  · right; left; rw [show j / 4 * 4 + 1 = j by omega] at c1; rw [h] at c1; exact ⟨e, Option.some.inj c1⟩
  · right; right; left; rw [show j / 4 * 4 + 2 = j by omega] at c2; rw [h] at c2; exact ⟨e, Option.some.inj c2⟩
  · right; right; right; rw [show j / 4 * 4 + 3 = j by omega] at c3; rw [h] at c3; exact ⟨e, Option.some.inj c3⟩

theorem open_ents {H : Type} {enc : TypeId × Value → H} {w : World} {base : Nat} {spare : Nat → Bool} {held : Bool} {a : Option Addr} {len cap : Nat} {d : DataW H} {p : List MemPlace}
    (h : DataW.Trod enc Try.prog w base spare held 22 (.slice a len cap) d p) : ∃ L, IsE w.heap.size w a len L ∧ len ≤ cap := by
  obtain ⟨fuel, hf⟩ := h
  rcases DataW.trod_slice Try.underlying22 hf with ⟨hcs, _⟩ | ⟨x, l, c, elems, rest, n, _, hcs, _, _, hl, _, hlen, hel, _⟩
  · simp [Value.cells] at hcs
    obtain ⟨rfl, rfl, rfl⟩ := hcs
    exact ⟨[], ⟨rfl, .inl rfl⟩, Nat.le_refl _⟩
  · simp [Value.cells] at hcs
    obtain ⟨rfl, rfl, rfl⟩ := hcs
    rw [show Try.prog.cellsOf 31 = 4 by kernel_rfl] at hel
    have key : ∀ i, i < len → ∃ (q1 q2 q3 q4 : Int), w.cell? ((x.add (i * 4)).add 0) = some (.int .i64 q1) ∧ w.cell? ((x.add (i * 4)).add 1) = some (.int .i64 q2) ∧ w.cell? ((x.add (i * 4)).add 2) = some (.int .i64 q3) ∧ w.cell? ((x.add (i * 4)).add 3) = some (.int .i64 q4) := by
      intro i hi
      have h1' := hel i hi
      rw [List.getElem?_eq_getElem (by omega)] at h1'
      obtain ⟨cs, h2', h3⟩ := Option.bind_eq_some_iff.1 h1'
      obtain ⟨_, _, h4⟩ := World.cells?_some h2'
      obtain ⟨q1, q2, q3, q4, y1, y2, y3, y4⟩ := cell4 h3
      exact ⟨q1, q2, q3, q4, (h4 0 (by decide)).trans y1, (h4 1 (by decide)).trans y2, (h4 2 (by decide)).trans y3, (h4 3 (by decide)).trans y4⟩
    by_cases h0 : len = 0
    · subst h0
      exact ⟨[], ⟨rfl, .inl rfl⟩, hl⟩
    · obtain ⟨b, off, spot⟩ := x
      have hspot : spot = none := by
        obtain ⟨q, _, _, _, hy, _⟩ := key 0 (by omega)
        simpa [Addr.add] using World.cell?_spot hy
      subst hspot
      have key2 : ∀ i, i < len → w.cell? ⟨b, off + i * 4, none⟩ = some (.int .i64 (entAt w b (off + i * 4)).1.1) ∧ w.cell? ⟨b, off + i * 4 + 1, none⟩ = some (.int .i64 (entAt w b (off + i * 4)).1.2.1) ∧
          w.cell? ⟨b, off + i * 4 + 2, none⟩ = some (.int .i64 (entAt w b (off + i * 4)).1.2.2) ∧ w.cell? ⟨b, off + i * 4 + 3, none⟩ = some (.int .i64 (entAt w b (off + i * 4)).2) := by
        intro i hi
        obtain ⟨q1, q2, q3, q4, hy1, hy2, hy3, hy4⟩ := key i hi
        rw [add_plain, add_plain] at hy1 hy2 hy3 hy4
        rw [Nat.add_zero] at hy1
        exact ⟨intAt_of hy1, intAt_of hy2, intAt_of hy3, intAt_of hy4⟩
      refine ⟨(List.range len).map fun i => entAt w b (off + i * 4), ⟨by simp, .inr ⟨b, off, rfl, ?_, ?_⟩⟩, hl⟩
      · have := (key2 0 (by omega)).1
        exact World.block_lt_of_cell? w ⟨b, off + 0 * 4, none⟩ this
      · intro j v hv
        obtain ⟨i, r, x, hx, rfl, hr⟩ := ecells_split hv
        simp only [List.getElem?_map, Option.map_eq_some_iff] at hx
        obtain ⟨i', hi, rfl⟩ := hx
        obtain ⟨hi2, hi3⟩ := List.getElem?_eq_some_iff.1 hi
        simp only [List.length_range] at hi2
        rw [List.getElem_range] at hi3
        subst hi3
        obtain ⟨e1, e2, e3, e4⟩ := key2 i hi2
        rcases hr with ⟨rfl, rfl⟩ | ⟨rfl, rfl⟩ | ⟨rfl, rfl⟩ | ⟨rfl, rfl⟩
        · rw [show off + (i * 4 + 0) = off + i * 4 by omega]; exact e1
        · rw [show off + (i * 4 + 1) = off + i * 4 + 1 by omega]; exact e2
        · rw [show off + (i * 4 + 2) = off + i * 4 + 2 by omega]; exact e3
        · rw [show off + (i * 4 + 3) = off + i * 4 + 3 by omega]; exact e4
end Go.Proofs.Ytgimmaancnlbcaa
