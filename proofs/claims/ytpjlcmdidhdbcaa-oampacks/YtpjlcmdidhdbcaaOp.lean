/- Proved here: how a maintenance cell that came in reads. Conditions: as each theorem states them. -/
import Derived.OpenShut
import Derived.WideShapes
import Derived.Test.YtpjlcmdidhdbcaaOpen
import Derived.Test.YtpjlcmdidhdbcaaPay
import Derived.Test.YtpjlcmdidhdbcaaOw
namespace Go.Proofs.Ytpjlcmdidhdbcaa
set_option linter.unusedSimpArgs false
set_option linter.unusedVariables false
open Go.RowKit Go.WideShapes

theorem u16_nat {z : Int} (h : (Lit.int .u16 z).wf = true) : ∃ n : Nat, z = (n : Int) ∧ n < 65536 := by
  have := bounds_u16 h
  exact ⟨z.toNat, by omega, by omega⟩
theorem u32_nat {z : Int} (h : (Lit.int .u32 z).wf = true) : ∃ n : Nat, z = (n : Int) ∧ n < 4294967296 := by
  have := bounds_u32 h
  exact ⟨z.toNat, by omega, by omega⟩
theorem trod_row16 {H : Type} {enc : TypeId × Value → H} {w : World} {base : Nat} {spare : Nat → Bool} {held : Bool} {fuel : Nat} {cs : List Value} {x : DataW H × List MemPlace}
    (h : DataW.trod enc Try.prog w base spare held fuel 23 cs = some x) : ∃ ps : List UInt8, ps.length = 16 ∧ cs = vals ps := by
  have hct : Try.prog.cellsOf 23 = 16 := by kernel_rfl
  have hce : Try.prog.cellsOf 5 = 1 := by kernel_rfl
  obtain ⟨xs, m, _, _, hl, hx, hall⟩ := DataW.trod_array Try.underlying23 h
  rw [hce] at hall
  have hlen : cs.length = 16 := hl.trans hct
  have key : ∀ i, i < 16 → ∃ z, cs[i]? = some (.int .u8 z) ∧ (Lit.int .u8 z).wf = true := by
    intro i hi
    have h1 := hall i hi
    obtain ⟨y, hy⟩ : ∃ y, xs[i]? = some y := ⟨xs[i]'(by omega), by rw [List.getElem?_eq_getElem]⟩
    rw [hy] at h1
    obtain ⟨z, hz, _, hwf⟩ := DataW.trod_int Try.underlying5 h1
    refine ⟨z, ?_, hwf⟩
    have : (List.take 1 (List.drop (i * 1) cs))[0]? = some (.int .u8 z) := by rw [hz]; rfl
    simpa using this
  have hcs : cs = (cs.map intOf).map fun z => Value.int .u8 z := by
    apply List.ext_getElem?
    intro i
    by_cases hi : i < 16
    · obtain ⟨z, hz, _⟩ := key i hi
      rw [List.getElem?_map, List.getElem?_map, hz]; rfl
    · rw [List.getElem?_eq_none (by omega), List.getElem?_eq_none (by simp; omega)]
  have hw : ∀ z ∈ cs.map intOf, (Lit.int .u8 z).wf = true := by
    intro z hz
    obtain ⟨v, hv, rfl⟩ := List.mem_map.1 hz
    obtain ⟨i, hi, rfl⟩ := List.getElem_of_mem hv
    obtain ⟨z, hz, hwf⟩ := key i (by omega)
    rw [List.getElem?_eq_getElem hi] at hz
    rw [Option.some.inj hz]
    exact hwf
  obtain ⟨ps, hps, he⟩ := pay_of hw
  refine ⟨ps, by simpa [hlen] using hps, ?_⟩
  rw [hcs]
  have := congrArg Array.toList he
  simpa [payV] using this

theorem open_om {H : Type} {enc : TypeId × Value → H} {w : World} {base : Nat} {spare : Nat → Bool} {held : Bool} {r : Reach} {b0 : Nat} {v : Value} {d : DataW H} {p : List MemPlace}
    (hv : Value.okWide Try.prog w r b0 25 v) (h : DataW.Trod enc Try.prog w base spare held 25 v d p) : ∃ o : Om, v = .agg (omV o) ∧ o.Ok := by
  have hct : Try.prog.cellsOf 25 = 36 := by kernel_rfl
  have c3 : Try.prog.cellsOf 3 = 1 := by kernel_rfl
  have c4 : Try.prog.cellsOf 4 = 1 := by kernel_rfl
  have c5 : Try.prog.cellsOf 5 = 1 := by kernel_rfl
  have c32 : Try.prog.cellsOf 22 = 1 := by kernel_rfl
  have c16 : Try.prog.cellsOf 23 = 16 := by kernel_rfl
  obtain ⟨cs, rfl, hsz⟩ := okWide_struct Try.underlying25 hv
  obtain ⟨fuel, hf⟩ := h
  obtain ⟨xs, m, _, _, hl, hx, hall⟩ := DataW.trod_struct Try.underlying25 hf
  have hcells : (Value.cells (.agg cs)).toList = cs.toList := rfl
  rw [hcells] at hl hall
  have hxl : xs.length = 6 := hx
  have hlen : cs.toList.length = 36 := hl.trans hct
  have get : ∀ i, i < 6 → ∃ y, xs[i]? = some y := fun i hi => ⟨xs[i]'(by omega), by rw [List.getElem?_eq_getElem]⟩
  have fld : ∀ (i : Nat) (f : Field), (Try.prog.fieldsOf 25)[i]? = some f → ∀ (ty : TypeId) (off n : Nat), f.type = ty → f.offset = off → Try.prog.cellsOf ty = n → i < 6 → ∃ y, DataW.trod enc Try.prog w base spare held m ty (List.take n (List.drop off cs.toList)) = some y := by
    intro i f hfi ty off n h1 h2 h3 hi
    obtain ⟨y, hy⟩ := get i hi
    have h := hall i f hfi
    rw [h1, h2, h3, hy] at h
    exact ⟨y, h⟩
  have one : ∀ (j : Nat) (u : Value), List.take 1 (List.drop j cs.toList) = [u] → cs.toList[j]? = some u := by
    intro j u hu
    have : (List.take 1 (List.drop j cs.toList))[0]? = some u := by rw [hu]; rfl
    simpa using this
  obtain ⟨k, e0⟩ : ∃ k : Int, cs.toList[0]? = some (.int .i64 k) := by
    obtain ⟨y, h1⟩ := fld 0 _ rfl 3 0 1 rfl rfl c3 (by decide)
    obtain ⟨z, hz, _, _⟩ := DataW.trod_int Try.underlying3 h1
    exact ⟨z, one _ _ hz⟩
  obtain ⟨dd, e1⟩ : ∃ d : UInt8, cs.toList[1]? = some (.int .u8 (d.toNat : Int)) := by
    obtain ⟨y, h1⟩ := fld 1 _ rfl 5 1 1 rfl rfl c5 (by decide)
    obtain ⟨z, hz, _, hwf⟩ := DataW.trod_int Try.underlying5 h1
    obtain ⟨x, rfl⟩ := byte_of_wf hwf
    exact ⟨x, one _ _ hz⟩
  obtain ⟨aa, e2⟩ : ∃ a : Bool, cs.toList[2]? = some (.bool a) := by
    obtain ⟨y, h1⟩ := fld 2 _ rfl 4 2 1 rfl rfl c4 (by decide)
    obtain ⟨z, hz, _⟩ := DataW.trod_bool Try.underlying4 h1
    exact ⟨z, one _ _ hz⟩
  obtain ⟨tt, e3, ht⟩ : ∃ t : Nat, cs.toList[3]? = some (.int .u32 (t : Int)) ∧ t < 4294967296 := by
    obtain ⟨y, h1⟩ := fld 3 _ rfl 22 3 1 rfl rfl c32 (by decide)
    obtain ⟨z, hz, _, hwf⟩ := DataW.trod_int Try.underlying22 h1
    obtain ⟨n, rfl, hn⟩ := u32_nat hwf
    exact ⟨n, one _ _ hz, hn⟩
  obtain ⟨ps, hp, e4⟩ : ∃ ps : List UInt8, ps.length = 16 ∧ List.take 16 (List.drop 4 cs.toList) = vals ps := by
    obtain ⟨y, h1⟩ := fld 4 _ rfl 23 4 16 rfl rfl c16 (by decide)
    exact trod_row16 h1
  obtain ⟨ss, hs, e5⟩ : ∃ ps : List UInt8, ps.length = 16 ∧ List.take 16 (List.drop 20 cs.toList) = vals ps := by
    obtain ⟨y, h1⟩ := fld 5 _ rfl 23 20 16 rfl rfl c16 (by decide)
    exact trod_row16 h1
  refine ⟨⟨k, dd, aa, tt, ps, ss⟩, ?_, ⟨ht, hp, hs⟩⟩
  congr 1
  rw [← Array.toList_inj]
  generalize cs.toList = L at *
  have hL : L = L.take 4 ++ (L.drop 4).take 16 ++ L.drop 20 := by
    rw [show (20 : Nat) = 4 + 16 by decide, ← List.drop_drop, List.append_assoc, List.take_append_drop, List.take_append_drop]
  have h5 : L.drop 20 = vals ss := by
    rw [← e5, List.take_of_length_le (by simp; omega)]
  have h4 : L.take 4 = [.int .i64 k, .int .u8 (dd.toNat : Int), .bool aa, .int .u32 (tt : Int)] := by
    match L, e0, e1, e2, e3 with
    | a :: b :: c :: d :: rest, e0, e1, e2, e3 =>
      simp only [List.getElem?_cons_zero, List.getElem?_cons_succ, Option.some.injEq] at e0 e1 e2 e3
      rw [e0, e1, e2, e3]; rfl
  rw [hL, h4, e4, h5]
  simp [omV]
end Go.Proofs.Ytpjlcmdidhdbcaa
