/- Proved here: whole contracts and keys are stored. Conditions: as each theorem states them. -/
import Derived.Deep.WholeRow
import Derived.Test.YtbjeljmnknibnaaDoorAns
namespace Go.Proofs.YtbjeljmnknibnaaDoor
set_option linter.unusedSimpArgs false
set_option linter.unusedVariables false
open Go.RowKit Go.Shelf

theorem wpList_st {P : Program} {w : World} {ops : Array Oper} {rest : List Oper} {o : Oper} {a : Act} {Q : Exit → Act → World → Prop} (hgd : Region.wanted o (yielded ops a.tmps) = true)
    {ty : TypeId} {x y : Operand} {b : Nat} {V C : Array Value} (ho : o.op = .store ty x y) (hx : a.eval x = .pointer (some ⟨b, 0, none⟩)) (hy : a.eval y = .agg C) (hb : BK w b V ty)
    (hi : (P.info? ty).map (·.size) = some C.size) (hV : V.size = C.size) (h1 : C.all (·.oneCell') = true)
    (h : ∀ w', BK w' b C ty → (∀ n, n ≤ b → Below n w w') → But b w.heap.size w w' → w'.heap.size = w.heap.size → wpList P ops Q rest (a.put o.dst undef) w') : wpList P ops Q (o :: rest) a w := by
  refine wpList_step fun K hK => ?_
  rw [if_pos hgd]
  unfold Oper.wp execOp
  simp only [ho, hx, hy]
  have e := run_storeVar_row (P := P) w b ty ty V C hb hi hV h1
  simp only [Instr.storeAt, Instr.sureAddr, Sem.run_bind, Sem.run_pure, Result.andThen_ok, e]
  refine hK _ _ (h _ ?_ (fun n hn => ?_) ?_ (by simp))
  · exact setRow_heap w b V C ty (0, 0) hb
  · exact ⟨rfl, rfl, rfl, by simp, fun k hk => setRow_other w b k C (by omega)⟩
  · exact ⟨rfl, rfl, rfl, by simp, fun k _ hk => setRow_other w b k C hk⟩
theorem step_st {P : Program} {w : World} {ops : Array Oper} {o : Oper} {a : Act} {K : Act → World → Prop} {Q : Exit → Act → World → Prop} {E : Prop} (hgd : Region.wanted o (yielded ops a.tmps) = true)
    {ty : TypeId} {x y : Operand} {b : Nat} {V C : Array Value} (ho : o.op = .store ty x y) (hx : a.eval x = .pointer (some ⟨b, 0, none⟩)) (hy : a.eval y = .agg C) (hb : BK w b V ty)
    (hi : (P.info? ty).map (·.size) = some C.size) (hV : V.size = C.size) (h1 : C.all (·.oneCell') = true)
    (h : ∀ w', BK w' b C ty → (∀ n, n ≤ b → Below n w w') → But b w.heap.size w w' → w'.heap.size = w.heap.size → K (a.put o.dst undef) w') : if Region.wanted o (yielded ops a.tmps) = true then Oper.wp P o a w K Q else E := by
  rw [if_pos hgd]
  unfold Oper.wp execOp
  simp only [ho, hx, hy]
  have e := run_storeVar_row (P := P) w b ty ty V C hb hi hV h1
  simp only [Instr.storeAt, Instr.sureAddr, Sem.run_bind, Sem.run_pure, Result.andThen_ok, e]
  refine h _ ?_ (fun n hn => ?_) ?_ (by simp)
  · exact setRow_heap w b V C ty (0, 0) hb
  · exact ⟨rfl, rfl, rfl, by simp, fun k hk => setRow_other w b k C (by omega)⟩
  · exact ⟨rfl, rfl, rfl, by simp, fun k _ hk => setRow_other w b k C hk⟩
theorem one_K (k : Ky) : (kC k).all (·.oneCell') = true := by simp [Value.oneCell']
theorem one_C (k p e v b l : Int) : (cC k p e v b l).all (·.oneCell') = true := by simp [Value.oneCell']
theorem size_K : (Tryd.prog.info? 43).map (·.size) = some 3 := by kernel_rfl
theorem size_C : (Tryd.prog.info? 41).map (·.size) = some 6 := by kernel_rfl
theorem zero_K (w : World) : (zeroValue 43).run Tryd.prog w = .ok (.agg (kC (0, 0, 0))) w := by kernel_rfl
theorem zero_C (w : World) : (zeroValue 41).run Tryd.prog w = .ok (.agg (cC 0 0 0 0 0 0)) w := by kernel_rfl
end Go.Proofs.YtbjeljmnknibnaaDoor
