/- Proved here: how a slice of numbers that came in reads. Conditions: as each theorem states them. -/
import Derived.Test.YtpljpndegadckaaLib
import Derived.OpenShut
namespace Go.Proofs.Ytpljpndegadckaa
set_option linter.unusedSimpArgs false
set_option linter.unusedVariables false
open Go.RowKit

/-- A slice of numbers that came in. -/
theorem isR_of_row {k : IntKind} {w : World} {a : Option Addr} {len cap : Nat} {zs : List Int} (h : (a = none ∧ len = 0 ∧ cap = 0 ∧ zs = []) ∨
    ∃ x, a = some x ∧ len ≤ cap ∧ cap ≤ maxLen ∧ zs.length = cap ∧ (∀ i, i < zs.length → w.cell? (x.add i) = some (.int k (zs.getD i 0))) ∧ ∀ n ∈ zs, (Lit.int k n).wf = true) :
    ∃ ys : List Int, IsR k w.heap.size w a len ys ∧ len ≤ cap ∧ ∀ y ∈ ys, (Lit.int k y).wf = true := by
  rcases h with ⟨rfl, rfl, rfl, rfl⟩ | ⟨x, rfl, hl, hm, hz, hc, hw⟩
  · exact ⟨[], ⟨rfl, .inl rfl⟩, Nat.le_refl _, by simp⟩
  · refine ⟨zs.take len, ⟨by simp; omega, ?_⟩, hl, fun y hy => hw y (List.mem_of_mem_take hy)⟩
    by_cases h0 : len = 0
    · left; simp [h0]
    · right
      obtain ⟨b, off, rfl, hcx⟩ := ints_at hc (by omega)
      refine ⟨b, off, rfl, World.block_lt_of_cell? w ⟨b, off + 0, none⟩ (hcx 0 (by omega)), fun j y hy => ?_⟩
      have hj : j < (zs.take len).length := (List.getElem?_eq_some_iff.1 hy).1
      simp at hj
      rw [hcx j (by omega)]
      rw [List.getElem?_take_of_lt (by omega)] at hy
      rw [List.getD_eq_getElem?_getD, hy]
      rfl
end Go.Proofs.Ytpljpndegadckaa
