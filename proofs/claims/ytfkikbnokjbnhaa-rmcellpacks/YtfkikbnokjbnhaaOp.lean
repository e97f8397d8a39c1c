/- Proved here: how a cell of rates, and an array of four flags, that came in read. Conditions: as each theorem states them. -/
import Derived.OpenShut
import Derived.WideShapes
import Derived.Test.YtfkikbnokjbnhaaOpen
import Derived.Test.YtfkikbnokjbnhaaRw
namespace Go.Proofs.Ytfkikbnokjbnhaa
set_option linter.unusedSimpArgs false
set_option linter.unusedVariables false
open Go.RowKit Go.WideShapes

theorem u16_nat {z : Int} (h : (Lit.int .u16 z).wf = true) : ∃ n : Nat, z = (n : Int) ∧ n < 65536 := by
  have := bounds_u16 h
  exact ⟨z.toNat, by omega, by omega⟩
theorem u32_nat {z : Int} (h : (Lit.int .u32 z).wf = true) : ∃ n : Nat, z = (n : Int) ∧ n < 4294967296 := by
  have := bounds_u32 h
  exact ⟨z.toNat, by omega, by omega⟩

theorem open_rm {H : Type} {enc : TypeId × Value → H} {w : World} {base : Nat} {spare : Nat → Bool} {held : Bool} {r : Reach} {b0 : Nat} {v : Value} {d : DataW H} {p : List MemPlace}
    (hv : Value.okWide Try.prog w r b0 25 v) (h : DataW.Trod enc Try.prog w base spare held 25 v d p) : ∃ r : Rm, v = .agg (rmV r) ∧ r.Ok := by
  have hct : Try.prog.cellsOf 25 = 10 := by kernel_rfl
  have c4 : Try.prog.cellsOf 4 = 1 := by kernel_rfl
  have c16 : Try.prog.cellsOf 22 = 1 := by kernel_rfl
  have c32 : Try.prog.cellsOf 23 = 1 := by kernel_rfl
  obtain ⟨cs, rfl, hsz⟩ := okWide_struct Try.underlying25 hv
  obtain ⟨fuel, hf⟩ := h
  obtain ⟨xs, m, _, _, hl, hx, hall⟩ := DataW.trod_struct Try.underlying25 hf
  have hcells : (Value.cells (.agg cs)).toList = cs.toList := rfl
  rw [hcells] at hl hall
  have hxl : xs.length = 10 := hx
  have bo : ∀ i f, (Try.prog.fieldsOf 25)[i]? = some f → f.type = 4 → f.offset = i → i < 10 → ∃ b, cs.toList[i]? = some (.bool b) := by
    intro i f hfi ht ho hi
    have h1 := hall i f hfi
    rw [ht, ho, c4] at h1
    obtain ⟨y, hy⟩ : ∃ y, xs[i]? = some y := ⟨xs[i]'(by omega), by rw [List.getElem?_eq_getElem]⟩
    rw [hy] at h1
    obtain ⟨b, hb, _⟩ := DataW.trod_bool Try.underlying4 h1
    refine ⟨b, ?_⟩
    have : (List.take 1 (List.drop i cs.toList))[0]? = some (.bool b) := by rw [hb]; rfl
    simpa using this
  have in16 : ∀ i f, (Try.prog.fieldsOf 25)[i]? = some f → f.type = 22 → f.offset = i → i < 10 → ∃ n : Nat, cs.toList[i]? = some (.int .u16 (n : Int)) ∧ n < 65536 := by
    intro i f hfi ht ho hi
    have h1 := hall i f hfi
    rw [ht, ho, c16] at h1
    obtain ⟨y, hy⟩ : ∃ y, xs[i]? = some y := ⟨xs[i]'(by omega), by rw [List.getElem?_eq_getElem]⟩
    rw [hy] at h1
    obtain ⟨z, hz, _, hwf⟩ := DataW.trod_int Try.underlying22 h1
    obtain ⟨n, rfl, hn⟩ := u16_nat hwf
    refine ⟨n, ?_, hn⟩
    have : (List.take 1 (List.drop i cs.toList))[0]? = some (.int .u16 (n : Int)) := by rw [hz]; rfl
    simpa using this
  have in32 : ∀ i f, (Try.prog.fieldsOf 25)[i]? = some f → f.type = 23 → f.offset = i → i < 10 → ∃ n : Nat, cs.toList[i]? = some (.int .u32 (n : Int)) ∧ n < 4294967296 := by
    intro i f hfi ht ho hi
    have h1 := hall i f hfi
    rw [ht, ho, c32] at h1
    obtain ⟨y, hy⟩ : ∃ y, xs[i]? = some y := ⟨xs[i]'(by omega), by rw [List.getElem?_eq_getElem]⟩
    rw [hy] at h1
    obtain ⟨z, hz, _, hwf⟩ := DataW.trod_int Try.underlying23 h1
    obtain ⟨n, rfl, hn⟩ := u32_nat hwf
    refine ⟨n, ?_, hn⟩
    have : (List.take 1 (List.drop i cs.toList))[0]? = some (.int .u32 (n : Int)) := by rw [hz]; rfl
    simpa using this
  obtain ⟨b0, e0⟩ := bo 0 _ rfl rfl rfl (by decide)
  obtain ⟨b1, e1⟩ := bo 1 _ rfl rfl rfl (by decide)
  obtain ⟨b2, e2⟩ := bo 2 _ rfl rfl rfl (by decide)
  obtain ⟨b3, e3⟩ := bo 3 _ rfl rfl rfl (by decide)
  obtain ⟨b4, e4⟩ := bo 4 _ rfl rfl rfl (by decide)
  obtain ⟨n5, e5, l5⟩ := in16 5 _ rfl rfl rfl (by decide)
  obtain ⟨n6, e6, l6⟩ := in16 6 _ rfl rfl rfl (by decide)
  obtain ⟨n7, e7, l7⟩ := in16 7 _ rfl rfl rfl (by decide)
  obtain ⟨n8, e8, l8⟩ := in32 8 _ rfl rfl rfl (by decide)
  obtain ⟨n9, e9, l9⟩ := in32 9 _ rfl rfl rfl (by decide)
  have hlen : cs.toList.length = 10 := hl.trans hct
  obtain ⟨y0, y1, y2, y3, y4, y5, y6, y7, y8, y9, hcs⟩ := list10 hlen
  rw [hcs] at e0 e1 e2 e3 e4 e5 e6 e7 e8 e9
  simp only [List.getElem?_cons_zero, List.getElem?_cons_succ, Option.some.injEq] at e0 e1 e2 e3 e4 e5 e6 e7 e8 e9
  refine ⟨⟨b0, b1, b2, b3, b4, n5, n6, n7, n8, n9⟩, ?_, ⟨l5, l6, l7, l8, l9⟩⟩
  congr 1
  rw [← Array.toList_inj, hcs, e0, e1, e2, e3, e4, e5, e6, e7, e8, e9]
  rfl

theorem open_bools {H : Type} {enc : TypeId × Value → H} {w : World} {base : Nat} {spare : Nat → Bool} {held : Bool} {r : Reach} {b0 : Nat} {v : Value} {d : DataW H} {p : List MemPlace}
    (hv : Value.okWide Try.prog w r b0 48 v) (h : DataW.Trod enc Try.prog w base spare held 48 v d p) : ∃ c0 c1 c2 c3 : Bool, v = .agg #[.bool c0, .bool c1, .bool c2, .bool c3] := by
  have hct : Try.prog.cellsOf 48 = 4 := by kernel_rfl
  have c4 : Try.prog.cellsOf 4 = 1 := by kernel_rfl
  obtain ⟨cs, rfl, hsz⟩ := okWide_array Try.underlying48 hv
  obtain ⟨fuel, hf⟩ := h
  obtain ⟨xs, m, _, _, hl, hx, hall⟩ := DataW.trod_array Try.underlying48 hf
  have hcells : (Value.cells (.agg cs)).toList = cs.toList := rfl
  rw [hcells] at hl hall
  rw [c4] at hall
  have key : ∀ i, i < 4 → ∃ b, cs.toList[i]? = some (.bool b) := by
    intro i hi
    have h1 := hall i hi
    obtain ⟨y, hy⟩ : ∃ y, xs[i]? = some y := ⟨xs[i]'(by omega), by rw [List.getElem?_eq_getElem]⟩
    rw [hy] at h1
    obtain ⟨b, hb, _⟩ := DataW.trod_bool Try.underlying4 h1
    refine ⟨b, ?_⟩
    have : (List.take 1 (List.drop (i * 1) cs.toList))[0]? = some (.bool b) := by rw [hb]; rfl
    simpa using this
  obtain ⟨b0, e0⟩ := key 0 (by decide)
  obtain ⟨b1, e1⟩ := key 1 (by decide)
  obtain ⟨b2, e2⟩ := key 2 (by decide)
  obtain ⟨b3, e3⟩ := key 3 (by decide)
  have hlen : cs.toList.length = 4 := hl.trans hct
  obtain ⟨y0, y1, y2, y3, hcs⟩ := list4 hlen
  rw [hcs] at e0 e1 e2 e3
  simp only [List.getElem?_cons_zero, List.getElem?_cons_succ, Option.some.injEq] at e0 e1 e2 e3
  refine ⟨b0, b1, b2, b3, ?_⟩
  congr 1
  rw [← Array.toList_inj, hcs, e0, e1, e2, e3]
end Go.Proofs.Ytfkikbnokjbnhaa
