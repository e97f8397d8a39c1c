/- Proved here: how a slice of what is done (a step, a number, a need each) that came in reads. Conditions: as each theorem states them. -/
import Derived.OpenShut
import Derived.WideShapes
import Derived.Test.YtpljpndegadckaaMk
namespace Go.Proofs.Ytpljpndegadckaa
set_option linter.unusedSimpArgs false
set_option linter.unusedVariables false
open Go.RowKit Go.WideShapes

abbrev Op3 := Int × Int × Int
def ocells (L : List Op3) : List Value := L.flatMap fun x => [.int .i64 x.1, .int .i64 x.2.1, .int .i64 x.2.2]
theorem ocells_cons (x : Op3) (L : List Op3) : ocells (x :: L) = .int .i64 x.1 :: .int .i64 x.2.1 :: .int .i64 x.2.2 :: ocells L := by simp [ocells]
theorem ocells_append (L M : List Op3) : ocells (L ++ M) = ocells L ++ ocells M := by simp [ocells]
theorem ocells_get {L : List Op3} {j : Nat} {x : Op3} (h : L[j]? = some x) : (ocells L)[j * 3]? = some (.int .i64 x.1) ∧ (ocells L)[j * 3 + 1]? = some (.int .i64 x.2.1) ∧ (ocells L)[j * 3 + 2]? = some (.int .i64 x.2.2) := by
  induction L generalizing j with
  | nil => cases h
  | cons y L ih =>
    rw [ocells_cons]
    cases j with
    | zero => simp at h; subst h; simp
    | succ j =>
      have := ih (j := j) (by simpa using h)
      simp only [show (j + 1) * 3 = j * 3 + 1 + 1 + 1 by omega, show j * 3 + 1 + 1 + 1 + 1 = (j * 3 + 1) + 1 + 1 + 1 by omega, show j * 3 + 1 + 1 + 1 + 2 = (j * 3 + 2) + 1 + 1 + 1 by omega, List.getElem?_cons_succ]
      exact this
/-- A slice of what is done holds L; it lies below n. -/
def IsO (n : Nat) (W : World) (a : Option Addr) (len : Nat) (L : List Op3) : Prop :=
  len = L.length ∧ (L = [] ∨ ∃ b off, a = some ⟨b, off, none⟩ ∧ b < n ∧ ∀ j v, (ocells L)[j]? = some v → W.cell? ⟨b, off + j, none⟩ = some v)
/-- What lies at its i-th place, in whatever later world. -/
theorem IsO.at {n : Nat} {W : World} {a : Option Addr} {len : Nat} {L : List Op3} (h : IsO n W a len L) {i : Nat} (hi : i < len) :
    ∃ b off x, a = some ⟨b, off, none⟩ ∧ b < n ∧ L[i]? = some x ∧ ∀ W', Below n W W' → W'.cell? ⟨b, off + i * 3, none⟩ = some (.int .i64 x.1) ∧ W'.cell? ⟨b, off + i * 3 + 1, none⟩ = some (.int .i64 x.2.1) ∧ W'.cell? ⟨b, off + i * 3 + 1 + 1, none⟩ = some (.int .i64 x.2.2) := by
  have hl : i < L.length := by have := h.1; omega
  have hx : L[i]? = some L[i] := List.getElem?_eq_getElem hl
  obtain ⟨g0, g1, g2⟩ := ocells_get hx
  rcases h.2 with rfl | ⟨b, off, e, hb', hc⟩
  · cases hx
  · exact ⟨b, off, _, e, hb', hx, fun W' hB => ⟨(hB.cell (p := ⟨b, off + i * 3, none⟩) hb').trans (hc _ _ g0), (hB.cell (p := ⟨b, off + i * 3 + 1, none⟩) hb').trans (hc _ _ g1), (hB.cell (p := ⟨b, off + i * 3 + 1 + 1, none⟩) hb').trans (hc _ _ g2)⟩⟩

theorem op_cells {H : Type} {enc : TypeId × Value → H} {P : Program} {w : World} {base : Nat} {spare : Nat → Bool} {held : Bool} {t e : TypeId} {fuel : Nat} {fs : Array Field} {cs : List Value} {x : DataW H × List MemPlace}
    (ht : P.underlying t = some (.struct fs)) (he : P.underlying e = some (.int .i64)) (hce : P.cellsOf e = 1)
    (hfs : ((List.range 3).all fun i => match fs[i]? with | some f => f.type == e && f.offset == i | none => false) = true) (hfn : fs.size = 3)
    (hf : DataW.trod enc P w base spare held fuel t cs = some x) : ∀ i, i < 3 → ∃ z, cs[i]? = some (.int .i64 z) ∧ okI z := by
  obtain ⟨xs, m, _, _, hl, hx, hall⟩ := DataW.trod_struct ht hf
  intro i hi
  have hq := List.all_eq_true.1 hfs i (List.mem_range.2 hi)
  cases hfi : fs[i]? with
  | none => rw [hfi] at hq; simp at hq
  | some f =>
    rw [hfi] at hq
    simp only [Bool.and_eq_true, beq_iff_eq] at hq
    have h1 := hall i f hfi
    rw [hq.1, hq.2, hce] at h1
    obtain ⟨y, hy⟩ : ∃ y, xs[i]? = some y := ⟨xs[i]'(by omega), by rw [List.getElem?_eq_getElem]⟩
    rw [hy] at h1
    obtain ⟨z, hz, _, hw⟩ := DataW.trod_int he h1
    refine ⟨z, ?_, hw⟩
    have : (List.take 1 (List.drop i cs))[0]? = some (.int .i64 z) := by rw [hz]; rfl
    simpa using this

/-- The number, and what is done, that lies somewhere. -/
def intAt (w : World) (b k : Nat) : Int := match w.cell? ⟨b, k, none⟩ with | some (.int _ z) => z | _ => 0
def opAt (w : World) (b k : Nat) : Op3 := (intAt w b k, intAt w b (k + 1), intAt w b (k + 2))
theorem ocells_at (w : World) (b off n : Nat) : ocells ((List.range n).map fun i => opAt w b (off + i * 3)) = (List.range (n * 3)).map fun j => Value.int .i64 (intAt w b (off + j)) := by
  induction n with
  | zero => rfl
  | succ n ih =>
    rw [List.range_succ, List.map_append, ocells_append, ih, show (n + 1) * 3 = n * 3 + 1 + 1 + 1 by omega]
    simp only [List.range_succ, List.map_append, List.append_assoc]
    rfl

theorem open_ops3 {H : Type} {enc : TypeId × Value → H} {P : Program} {w : World} {base : Nat} {spare : Nat → Bool} {held : Bool} {t s e : TypeId} {fs : Array Field} {a : Option Addr} {len cap : Nat} {d : DataW H} {p : List MemPlace}
    (ht : P.underlying t = some (.slice s)) (hs : P.underlying s = some (.struct fs)) (he : P.underlying e = some (.int .i64)) (hce : P.cellsOf e = 1) (hcs : P.cellsOf s = 3)
    (hfs : ((List.range 3).all fun i => match fs[i]? with | some f => f.type == e && f.offset == i | none => false) = true) (hfn : fs.size = 3)
    (h : DataW.Trod enc P w base spare held t (.slice a len cap) d p) : ∃ L, (IsO w.heap.size w a len L ∧ ∀ x ∈ L, okI x.1 ∧ okI x.2.1 ∧ okI x.2.2) ∧ len ≤ cap := by
  obtain ⟨fuel, hf⟩ := h
  rcases DataW.trod_slice ht hf with ⟨hc, _⟩ | ⟨x, l, c, elems, rest, n, _, hc, _, _, hl, _, hlen, hel, _⟩
  · simp [Value.cells] at hc
    obtain ⟨rfl, rfl, rfl⟩ := hc
    exact ⟨[], ⟨⟨rfl, .inl rfl⟩, fun _ h => by cases h⟩, Nat.le_refl _⟩
  · simp [Value.cells] at hc
    obtain ⟨rfl, rfl, rfl⟩ := hc
    rw [hcs] at hel
    have key : ∀ i, i < len → ∀ k, k < 3 → ∃ z, w.cell? ((x.add (i * 3)).add k) = some (.int .i64 z) ∧ okI z := by
      intro i hi k hk
      have h1 := hel i hi
      rw [List.getElem?_eq_getElem (by omega)] at h1
      obtain ⟨cs, h2, h3⟩ := Option.bind_eq_some_iff.1 h1
      obtain ⟨_, _, h4⟩ := World.cells?_some h2
      obtain ⟨z, hz, hw⟩ := op_cells hs he hce hfs hfn h3 k hk
      exact ⟨z, (h4 k hk).trans hz, hw⟩
    by_cases h0 : len = 0
    · subst h0
      exact ⟨[], ⟨⟨rfl, .inl rfl⟩, fun _ h => by cases h⟩, hl⟩
    · obtain ⟨b, off, spot⟩ := x
      have hspot : spot = none := by
        obtain ⟨z, hz, _⟩ := key 0 (by omega) 0 (by decide)
        simpa [Addr.add] using World.cell?_spot hz
      subst hspot
      have key2 : ∀ j, j < len * 3 → w.cell? ⟨b, off + j, none⟩ = some (.int .i64 (intAt w b (off + j))) ∧ okI (intAt w b (off + j)) := by
        intro j hj
        obtain ⟨z, hz, hw⟩ := key (j / 3) (by omega) (j % 3) (by omega)
        rw [add_plain, add_plain, Nat.add_assoc, show j / 3 * 3 + j % 3 = j by omega] at hz
        unfold intAt
        rw [hz]
        exact ⟨rfl, hw⟩
      refine ⟨(List.range len).map fun i => opAt w b (off + i * 3), ⟨⟨by simp, .inr ⟨b, off, rfl, World.block_lt_of_cell? w ⟨b, off + 0, none⟩ (key2 0 (by omega)).1, ?_⟩⟩, ?_⟩, hl⟩
      · intro j v hv
        rw [ocells_at, List.getElem?_map, Option.map_eq_some_iff] at hv
        obtain ⟨j', hj, rfl⟩ := hv
        obtain ⟨hj2, rfl⟩ := List.getElem?_eq_some_iff.1 hj
        simp only [List.length_range] at hj2
        rw [List.getElem_range]
        exact (key2 j hj2).1
      · intro x hx
        obtain ⟨i, hi, rfl⟩ := List.mem_map.1 hx
        have hi2 := List.mem_range.1 hi
        exact ⟨(key2 (i * 3) (by omega)).2, (key2 (i * 3 + 1) (by omega)).2, (key2 (i * 3 + 2) (by omega)).2⟩
end Go.Proofs.Ytpljpndegadckaa
