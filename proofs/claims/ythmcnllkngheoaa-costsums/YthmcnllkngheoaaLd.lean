/- Proved here: loads of contracts out of memory, as steps of a region that draws its order. Conditions: as each theorem states them. -/
import Derived.Test.YthmcnllkngheoaaSmall
namespace Go.Proofs.Ythmcnllkngheoaa
set_option linter.unusedSimpArgs false
set_option linter.unusedVariables false
open Go.RowKit Go.Shelf

theorem yields_ld {P : Program} {ops : Array Oper} {S : World → Prop} {o : Oper} {a : Act} {ty : TypeId} {x : Operand} {b k : Nat} {v : Value} (ho : o.op = .load ty x) (hw : Region.wanted o (yielded ops a.tmps) = true)
    (hx : a.eval x = .pointer (some ⟨b, k, none⟩)) (hS : ∀ w, S w → (Instr.loadAt ty (.pointer (some ⟨b, k, none⟩))).run P w = .ok v w) : YieldsIf P ops S o v a :=
  .inl ⟨hw, fun w h => by unfold execOp; simp [ho, hx, hS w h, Result.andThen]⟩

theorem CC.load {W : World} {r : Nat} {k p e w b l : Int} (h : CC W r k p e w b l) : (Instr.loadAt 23 (.pointer (some ⟨r, 0, none⟩))).run Try.prog W = .ok (cV k p e w b l) W := by
  obtain ⟨c0, c1, c2, c3, c4, c5⟩ := h.facts
  go_simp
theorem load_int {W : World} {g i : Nat} {x : Int} (h : W.cell? ⟨g, i, none⟩ = some (.int .i64 x)) : (Instr.loadAt 3 (.pointer (some ⟨g, i, none⟩))).run Try.prog W = .ok (.int .i64 x) W := by
  go_simp
theorem below_drewN' {n k : Nat} {a w : World} (h : Below n a w) : Below n a (w.drewN k) := ⟨h.os, h.tape, h.output, h.size, h.block⟩
end Go.Proofs.Ythmcnllkngheoaa
