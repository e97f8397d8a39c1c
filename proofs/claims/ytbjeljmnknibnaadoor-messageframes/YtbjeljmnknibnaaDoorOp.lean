/- Proved here: how an element, and a slice of elements, that came in read. Conditions: as each theorem states them. -/
import Derived.OpenShut
import Derived.WideShapes
import Derived.ChangeSlices
import Derived.Test.YtbjeljmnknibnaaDoorEi
namespace Go.Proofs.YtbjeljmnknibnaaDoor
set_option linter.unusedSimpArgs false
set_option linter.unusedVariables false
set_option maxRecDepth 20000
open Go.RowKit Go.WideShapes Go.ChangeShapes

theorem ie_cells {H : Type} {enc : TypeId × Value → H} {w : World} {base : Nat} {held : Bool} {fuel : Nat} {cs : List Value} {x : DataW H × List MemPlace}
    (hf : DataW.trod enc Tryd.prog w base (fun _ => true) held fuel 60 cs = some x) : ∃ (i : UInt8) (a : Option Addr) (l c : Nat) (body : List UInt8), cs[0]? = some (.int .u8 (i.toNat : Int)) ∧ cs[1]? = some (.slice a l c) ∧ IsB w.heap.size w a l body ∧ (a = none → c = 0) ∧ l ≤ c := by
  obtain ⟨xs, m, _, _, hl, hx, hall⟩ := DataW.trod_struct Tryd.underlying60 hf
  have hl2 : xs.length = 2 := by rw [hx]; rfl
  have a0 : DataW.trod enc Tryd.prog w base (fun _ => true) held m 5 (List.take (Tryd.prog.cellsOf 5) (List.drop 0 cs)) = xs[0]? := hall 0 _ rfl
  have a1 : DataW.trod enc Tryd.prog w base (fun _ => true) held m 25 (List.take (Tryd.prog.cellsOf 25) (List.drop 1 cs)) = xs[1]? := hall 1 _ rfl
  rw [show Tryd.prog.cellsOf 5 = 1 by kernel_rfl] at a0
  rw [show Tryd.prog.cellsOf 25 = 1 by kernel_rfl] at a1
  obtain ⟨y0, h0⟩ : ∃ y, xs[0]? = some y := ⟨xs[0]'(by omega), by rw [List.getElem?_eq_getElem]⟩
  obtain ⟨y1, h1⟩ : ∃ y, xs[1]? = some y := ⟨xs[1]'(by omega), by rw [List.getElem?_eq_getElem]⟩
  rw [h0] at a0
  rw [h1] at a1
  obtain ⟨z, hz, _, hwf⟩ := DataW.trod_int Tryd.underlying5 a0
  obtain ⟨i, rfl⟩ := byte_of_wf hwf
  have e0 : cs[0]? = some (.int .u8 (i.toNat : Int)) := by
    have : (List.take 1 (List.drop 0 cs))[0]? = some (.int .u8 (i.toNat : Int)) := by rw [hz]; rfl
    simpa using this
  have hc1 : cs.drop 1 = (cs.drop 1).take 1 := by
    apply (List.take_of_length_le _).symm
    rw [List.length_drop]
    have : cs.length = 2 := by rw [hl]; kernel_rfl
    omega
  rcases open_ints Tryd.underlying25 Tryd.underlying5 (by kernel_rfl) a1 with ⟨hcs, _⟩ | ⟨ad, li, ci, zs, hcs, _, hl2', hm2, hz2, _, hcell, hwz⟩
  · have e1 : cs[1]? = some (.slice none 0 0) := by
      have : (List.take 1 (List.drop 1 cs))[0]? = some (.slice none 0 0) := by rw [hcs]; rfl
      simpa using this
    exact ⟨i, none, 0, 0, [], e0, e1, ⟨rfl, .inl rfl⟩, fun _ => rfl, Nat.le_refl _⟩
  · have e1 : cs[1]? = some (.slice (some ad) li ci) := by
      have : (List.take 1 (List.drop 1 cs))[0]? = some (.slice (some ad) li ci) := by rw [hcs]; rfl
      simpa using this
    obtain ⟨bs, _, hI, hn, hlc, _⟩ := isB_of_row (w := w) (a := some ad) (len := li) (cap := ci) (zs := zs) (.inr ⟨ad, rfl, hl2', hm2, by simpa using hz2, hcell, hwz⟩)
    exact ⟨i, some ad, li, ci, bs, e0, e1, hI, hn, hlc⟩

theorem list_of {α : Type} {P : Nat → α → Prop} : ∀ n, (∀ i, i < n → ∃ x, P i x) → ∃ L : List α, L.length = n ∧ ∀ (i : Nat) (x : α), L[i]? = some x → P i x
  | 0, _ => ⟨[], rfl, by simp⟩
  | n + 1, h => by
    obtain ⟨L, hl, hL⟩ := list_of n (fun i hi => h i (by omega))
    obtain ⟨x, hx⟩ := h n (by omega)
    refine ⟨L ++ [x], by simp [hl], fun i y hy => ?_⟩
    by_cases hi : i < n
    · exact hL i y (by rw [List.getElem?_append_left (by omega)] at hy; exact hy)
    · rw [List.getElem?_append_right (by omega)] at hy
      have : i - L.length = 0 := by have := (List.getElem?_eq_some_iff.1 hy).1; simpa using this
      rw [this] at hy
      obtain rfl : x = y := Option.some.inj hy
      rw [show i = n by omega]; exact hx

/-- A slice of elements that came in. -/
theorem open_ies {H : Type} {enc : TypeId × Value → H} {w : World} {base : Nat} {held : Bool} {a : Option Addr} {len cap : Nat} {d : DataW H} {p : List MemPlace}
    (h : DataW.Trod enc Tryd.prog w base (fun _ => true) held 22 (.slice a len cap) d p) : ∃ L, IsI w.heap.size w a len L ∧ len ≤ cap ∧ (a = none → cap = 0) ∧ len ≤ maxLen := by
  obtain ⟨fuel, hf⟩ := h
  rcases DataW.trod_slice Tryd.underlying22 hf with ⟨hcs, _⟩ | ⟨x, l, c, elems, rest, n, _, hcs, _, _, hl, hcm, hlen, hel, _⟩
  · simp [Value.cells] at hcs
    obtain ⟨rfl, rfl, rfl⟩ := hcs
    exact ⟨[], isI_nil _ _ _, Nat.le_refl _, fun _ => rfl, by unfold maxLen; omega⟩
  · simp [Value.cells] at hcs
    obtain ⟨rfl, rfl, rfl⟩ := hcs
    rw [show Tryd.prog.cellsOf 60 = 2 by kernel_rfl] at hel
    have key : ∀ i, i < len → ∃ q : Rw × El, q.1.1 = q.2.id ∧ w.cell? ((x.add (i * 2)).add 0) = some (.int .u8 (q.1.1.toNat : Int)) ∧ w.cell? ((x.add (i * 2)).add 1) = some (.slice q.1.2.1 q.1.2.2.1 q.1.2.2.2) ∧ IsB w.heap.size w q.1.2.1 q.1.2.2.1 q.2.body ∧ (q.1.2.1 = none → q.1.2.2.2 = 0) ∧ q.1.2.2.1 ≤ q.1.2.2.2 := by
      intro i hi
      have h1' := hel i hi
      rw [List.getElem?_eq_getElem (by omega)] at h1'
      obtain ⟨cs, h2', h3⟩ := Option.bind_eq_some_iff.1 h1'
      obtain ⟨_, _, h4⟩ := World.cells?_some h2'
      obtain ⟨i1, a1, l1, c1, body, e0, e1, hI, hn, hlc⟩ := ie_cells h3
      exact ⟨((i1, a1, l1, c1), ⟨i1, body⟩), rfl, (h4 0 (by decide)).trans e0, (h4 1 (by decide)).trans e1, hI, hn, hlc⟩
    by_cases h0 : len = 0
    · subst h0
      exact ⟨[], isI_nil _ _ _, hl, (by intro h; cases h), by omega⟩
    · obtain ⟨b, off, spot⟩ := x
      have hspot : spot = none := by
        obtain ⟨q, _, hy, _⟩ := key 0 (by omega)
        simpa [Addr.add] using World.cell?_spot hy
      subst hspot
      obtain ⟨Q, hQ, hP⟩ := list_of len key
      refine ⟨Q.map (·.2), ⟨by simp [hQ], Q.map (·.1), ⟨by simp, fun i r y hr hy => ?_⟩, .inr ⟨b, off, rfl, ?_, fun j v hv => ?_⟩⟩, hl, (by intro h; cases h), by omega⟩
      · simp only [List.getElem?_map, Option.map_eq_some_iff] at hr hy
        obtain ⟨q, hq, rfl⟩ := hr
        obtain ⟨q', hq', rfl⟩ := hy
        rw [hq] at hq'
        obtain rfl : q = q' := Option.some.inj hq'
        obtain ⟨e, _, _, hI, hn, hlc⟩ := hP i q hq
        exact ⟨e, hI.isO, hn, hlc⟩
      · obtain ⟨q, _, hy, _⟩ := key 0 (by omega)
        rw [add_plain, add_plain] at hy
        exact World.block_lt_of_cell? w ⟨b, off + 0 * 2 + 0, none⟩ hy
      · obtain ⟨i, r, hr, hjv⟩ := rcells_split hv
        simp only [List.getElem?_map, Option.map_eq_some_iff] at hr
        obtain ⟨q, hq, rfl⟩ := hr
        obtain ⟨_, c0, c1, _⟩ := hP i q hq
        rw [add_plain, add_plain] at c0 c1
        rcases hjv with ⟨rfl, rfl⟩ | ⟨rfl, rfl⟩
        · exact c0
        · rw [← Nat.add_assoc]; exact c1
end Go.Proofs.YtbjeljmnknibnaaDoor
