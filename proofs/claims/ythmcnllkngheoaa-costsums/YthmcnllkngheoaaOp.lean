/- Proved here: how a slice of contracts that came in reads. Conditions: as each theorem states them. -/
import Derived.OpenShut
import Derived.WideShapes
import Derived.Test.YthmcnllkngheoaaCs
namespace Go.Proofs.Ythmcnllkngheoaa
set_option linter.unusedSimpArgs false
set_option linter.unusedVariables false
open Go.RowKit Go.WideShapes

theorem con_cells {H : Type} {enc : TypeId × Value → H} {P : Program} {w : World} {base : Nat} {spare : Nat → Bool} {held : Bool} {t e : TypeId} {fuel : Nat} {fs : Array Field} {cs : List Value} {x : DataW H × List MemPlace}
    (ht : P.underlying t = some (.struct fs)) (he : P.underlying e = some (.int .i64)) (hce : P.cellsOf e = 1)
    (hfs : ((List.range 6).all fun i => match fs[i]? with | some f => f.type == e && f.offset == i | none => false) = true) (hfn : fs.size = 6)
    (hf : DataW.trod enc P w base spare held fuel t cs = some x) : ∀ i, i < 6 → ∃ z, cs[i]? = some (.int .i64 z) := by
  obtain ⟨xs, m, _, _, hl, hx, hall⟩ := DataW.trod_struct ht hf
  intro i hi
  have hq := List.all_eq_true.1 hfs i (List.mem_range.2 hi)
  cases hfi : fs[i]? with
  | none => rw [hfi] at hq; simp at hq
  | some f =>
    rw [hfi] at hq
    simp only [Bool.and_eq_true, beq_iff_eq] at hq
    have h1 := hall i f hfi
    rw [hq.1, hq.2, hce] at h1
    obtain ⟨y, hy⟩ : ∃ y, xs[i]? = some y := ⟨xs[i]'(by omega), by rw [List.getElem?_eq_getElem]⟩
    rw [hy] at h1
    obtain ⟨z, hz, _, _⟩ := DataW.trod_int he h1
    refine ⟨z, ?_⟩
    have : (List.take 1 (List.drop i cs))[0]? = some (.int .i64 z) := by rw [hz]; rfl
    simpa using this

/-- The number, and the contract, that lies somewhere. -/
def intAt (w : World) (b k : Nat) : Int := match w.cell? ⟨b, k, none⟩ with | some (.int _ z) => z | _ => 0
def conAt (w : World) (b k : Nat) : C6 := ⟨intAt w b k, intAt w b (k + 1), intAt w b (k + 2), intAt w b (k + 3), intAt w b (k + 4), intAt w b (k + 5)⟩
theorem ccells_at (w : World) (b off n : Nat) : ccells ((List.range n).map fun i => conAt w b (off + i * 6)) = (List.range (n * 6)).map fun j => Value.int .i64 (intAt w b (off + j)) := by
  induction n with
  | zero => rfl
  | succ n ih =>
    rw [List.range_succ, List.map_append, ccells_append, ih, show (n + 1) * 6 = n * 6 + 1 + 1 + 1 + 1 + 1 + 1 by omega]
    simp only [List.range_succ, List.map_append, List.append_assoc]
    rfl

theorem open_cs {H : Type} {enc : TypeId × Value → H} {P : Program} {w : World} {base : Nat} {spare : Nat → Bool} {held : Bool} {t s e : TypeId} {fs : Array Field} {a : Option Addr} {len cap : Nat} {d : DataW H} {p : List MemPlace}
    (ht : P.underlying t = some (.slice s)) (hs : P.underlying s = some (.struct fs)) (he : P.underlying e = some (.int .i64)) (hce : P.cellsOf e = 1) (hcs : P.cellsOf s = 6)
    (hfs : ((List.range 6).all fun i => match fs[i]? with | some f => f.type == e && f.offset == i | none => false) = true) (hfn : fs.size = 6)
    (h : DataW.Trod enc P w base spare held t (.slice a len cap) d p) : ∃ L, IsT w.heap.size w a len cap L ∧ len ≤ cap := by
  obtain ⟨fuel, hf⟩ := h
  rcases DataW.trod_slice ht hf with ⟨hc, _⟩ | ⟨x, l, c, elems, rest, n, _, hc, _, _, hl, _, hlen, hel, _⟩
  · simp [Value.cells] at hc
    obtain ⟨rfl, rfl, rfl⟩ := hc
    exact ⟨[], isT_nil _ _, Nat.le_refl _⟩
  · simp [Value.cells] at hc
    obtain ⟨rfl, rfl, rfl⟩ := hc
    rw [hcs] at hel
    have key : ∀ i, i < len → ∀ k, k < 6 → ∃ z, w.cell? ((x.add (i * 6)).add k) = some (.int .i64 z) := by
      intro i hi k hk
      have h1 := hel i hi
      rw [List.getElem?_eq_getElem (by omega)] at h1
      obtain ⟨cs, h2, h3⟩ := Option.bind_eq_some_iff.1 h1
      obtain ⟨_, _, h4⟩ := World.cells?_some h2
      obtain ⟨z, hz⟩ := con_cells hs he hce hfs hfn h3 k hk
      exact ⟨z, (h4 k hk).trans hz⟩
    by_cases h0 : len = 0
    · subst h0
      exact ⟨[], ⟨rfl, (fun e => by cases e), .inl rfl⟩, hl⟩
    · obtain ⟨b, off, spot⟩ := x
      have hspot : spot = none := by
        obtain ⟨z, hz⟩ := key 0 (by omega) 0 (by decide)
        simpa [Addr.add] using World.cell?_spot hz
      subst hspot
      have key2 : ∀ j, j < len * 6 → w.cell? ⟨b, off + j, none⟩ = some (.int .i64 (intAt w b (off + j))) := by
        intro j hj
        obtain ⟨z, hz⟩ := key (j / 6) (by omega) (j % 6) (by omega)
        rw [add_plain, add_plain, Nat.add_assoc, show j / 6 * 6 + j % 6 = j by omega] at hz
        unfold intAt
        rw [hz]
      refine ⟨(List.range len).map fun i => conAt w b (off + i * 6), ⟨by simp, (fun e => by cases e), .inr ⟨b, off, rfl, World.block_lt_of_cell? w ⟨b, off + 0, none⟩ (key2 0 (by omega)), ?_⟩⟩, hl⟩
      intro j v hv
      rw [ccells_at, List.getElem?_map, Option.map_eq_some_iff] at hv
      obtain ⟨j', hj, rfl⟩ := hv
      obtain ⟨hj2, rfl⟩ := List.getElem?_eq_some_iff.1 hj
      simp only [List.length_range] at hj2
      rw [List.getElem_range]
      exact key2 j hj2
end Go.Proofs.Ythmcnllkngheoaa
