/- Proved here: how an array and a struct of integers that came in read. Conditions: as each theorem states them. -/
import Derived.OpenShut
import Derived.WideShapes
namespace Go.Proofs.Ythmcnllkngheoaa
set_option linter.unusedSimpArgs false
set_option linter.unusedVariables false
open Go.RowKit Go.WideShapes

theorem okWide_array {P : Program} {w : World} {r : Reach} {base : Nat} {t : TypeId} {v : Value} {n : Nat} {e : TypeId} (ht : P.underlying t = some (.array n e)) (h : Value.okWide P w r base t v) : ∃ cs, v = .agg cs ∧ cs.size = P.cellsOf t := by
  simp only [Value.okWide, ht] at h
  obtain ⟨cs, h1, h2, _⟩ := h
  exact ⟨cs, h1, h2⟩

theorem open_arr {H : Type} {enc : TypeId × Value → H} {P : Program} {w : World} {base : Nat} {spare : Nat → Bool} {held : Bool} {r : Reach} {b0 : Nat} {t e : TypeId} {n : Nat} {k : IntKind} {v : Value} {d : DataW H} {p : List MemPlace}
    (ht : P.underlying t = some (.array n e)) (he : P.underlying e = some (.int k)) (hce : P.cellsOf e = 1) (hct : P.cellsOf t = n) (hv : Value.okWide P w r b0 t v) (h : DataW.Trod enc P w base spare held t v d p) :
    ∃ zs : List Int, zs.length = n ∧ v = .agg (zs.map fun z => Value.int k z).toArray ∧ ∀ z ∈ zs, (Lit.int k z).wf = true := by
  obtain ⟨cs, rfl, hsz⟩ := okWide_array ht hv
  obtain ⟨fuel, hf⟩ := h
  obtain ⟨xs, m, _, _, hl, hx, hall⟩ := DataW.trod_array ht hf
  have hcells : (Value.cells (.agg cs)).toList = cs.toList := rfl
  rw [hcells] at hl hall
  rw [hce] at hall
  have key : ∀ i, i < n → ∃ z, cs.toList[i]? = some (.int k z) ∧ (Lit.int k z).wf = true := by
    intro i hi
    have h1 := hall i hi
    obtain ⟨y, hy⟩ : ∃ y, xs[i]? = some y := ⟨xs[i]'(by omega), by rw [List.getElem?_eq_getElem]⟩
    rw [hy] at h1
    obtain ⟨z, hz, _, hwf⟩ := DataW.trod_int he h1
    refine ⟨z, ?_, hwf⟩
    have : (List.take 1 (List.drop (i * 1) cs.toList))[0]? = some (.int k z) := by rw [hz]; rfl
    simpa using this
  have hlen : cs.toList.length = n := hl.trans hct
  have hcs : cs.toList = (cs.toList.map intOf).map fun z => Value.int k z := by
    apply List.ext_getElem?
    intro i
    by_cases hi : i < n
    · obtain ⟨z, hz, _⟩ := key i hi
      rw [List.getElem?_map, List.getElem?_map, hz]; rfl
    · rw [List.getElem?_eq_none (by omega), List.getElem?_eq_none (by simp; simpa using (by omega : cs.toList.length ≤ i))]
  refine ⟨cs.toList.map intOf, by simpa using hlen, ?_, ?_⟩
  · rw [← hcs]
  · intro z hz
    obtain ⟨v, hv, rfl⟩ := List.mem_map.1 hz
    obtain ⟨i, hi, rfl⟩ := List.getElem_of_mem hv
    obtain ⟨z, hz, hwf⟩ := key i (by omega)
    rw [List.getElem?_eq_getElem hi] at hz
    rw [Option.some.inj hz]
    exact hwf

theorem open_struct_ints {H : Type} {enc : TypeId × Value → H} {P : Program} {w : World} {base : Nat} {spare : Nat → Bool} {held : Bool} {r : Reach} {b0 : Nat} {t e : TypeId} {n : Nat} {k : IntKind} {fs : Array Field} {v : Value} {d : DataW H} {p : List MemPlace}
    (ht : P.underlying t = some (.struct fs)) (he : P.underlying e = some (.int k)) (hce : P.cellsOf e = 1) (hct : P.cellsOf t = n)
    (hfs : ((List.range n).all fun i => match fs[i]? with | some f => f.type == e && f.offset == i | none => false) = true) (hfn : fs.size = n) (hv : Value.okWide P w r b0 t v) (h : DataW.Trod enc P w base spare held t v d p) :
    ∃ zs : List Int, zs.length = n ∧ v = .agg (zs.map fun z => Value.int k z).toArray ∧ ∀ z ∈ zs, (Lit.int k z).wf = true := by
  obtain ⟨cs, rfl, hsz⟩ := okWide_struct ht hv
  obtain ⟨fuel, hf⟩ := h
  obtain ⟨xs, m, _, _, hl, hx, hall⟩ := DataW.trod_struct ht hf
  have hcells : (Value.cells (.agg cs)).toList = cs.toList := rfl
  rw [hcells] at hl hall
  have key : ∀ i, i < n → ∃ z, cs.toList[i]? = some (.int k z) ∧ (Lit.int k z).wf = true := by
    intro i hi
    have hq := List.all_eq_true.1 hfs i (List.mem_range.2 hi)
    cases hfi : fs[i]? with
    | none => rw [hfi] at hq; simp at hq
    | some f =>
      rw [hfi] at hq
      simp only [Bool.and_eq_true, beq_iff_eq] at hq
      have h1 := hall i f hfi
      rw [hq.1, hq.2, hce] at h1
      obtain ⟨y, hy⟩ : ∃ y, xs[i]? = some y := ⟨xs[i]'(by omega), by rw [List.getElem?_eq_getElem]⟩
      rw [hy] at h1
      obtain ⟨z, hz, _, hwf⟩ := DataW.trod_int he h1
      refine ⟨z, ?_, hwf⟩
      have : (List.take 1 (List.drop i cs.toList))[0]? = some (.int k z) := by rw [hz]; rfl
      simpa using this
  have hlen : cs.toList.length = n := hl.trans hct
  have hcs : cs.toList = (cs.toList.map intOf).map fun z => Value.int k z := by
    apply List.ext_getElem?
    intro i
    by_cases hi : i < n
    · obtain ⟨z, hz, _⟩ := key i hi
      rw [List.getElem?_map, List.getElem?_map, hz]; rfl
    · rw [List.getElem?_eq_none (by omega), List.getElem?_eq_none (by simp; simpa using (by omega : cs.toList.length ≤ i))]
  refine ⟨cs.toList.map intOf, by simpa using hlen, ?_, ?_⟩
  · rw [← hcs]
  · intro z hz
    obtain ⟨v, hv, rfl⟩ := List.mem_map.1 hz
    obtain ⟨i, hi, rfl⟩ := List.getElem_of_mem hv
    obtain ⟨z, hz, hwf⟩ := key i (by omega)
    rw [List.getElem?_eq_getElem hi] at hz
    rw [Option.some.inj hz]
    exact hwf
theorem list5 {α : Type} : ∀ {l : List α}, l.length = 5 → ∃ y0 y1 y2 y3 y4, l = [y0, y1, y2, y3, y4]
  | [y0, y1, y2, y3, y4], _ => ⟨y0, y1, y2, y3, y4, rfl⟩
theorem list6 {α : Type} : ∀ {l : List α}, l.length = 6 → ∃ y0 y1 y2 y3 y4 y5, l = [y0, y1, y2, y3, y4, y5]
  | [y0, y1, y2, y3, y4, y5], _ => ⟨y0, y1, y2, y3, y4, y5, rfl⟩
end Go.Proofs.Ythmcnllkngheoaa
