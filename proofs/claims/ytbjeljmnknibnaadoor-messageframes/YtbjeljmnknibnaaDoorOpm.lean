/- Proved here: how a message that came in reads. Conditions: as each theorem states them. -/
import Derived.Test.YtbjeljmnknibnaaDoorOp
import Derived.Test.YtbjeljmnknibnaaDoorMr
namespace Go.Proofs.YtbjeljmnknibnaaDoor
set_option linter.unusedSimpArgs false
set_option linter.unusedVariables false
set_option maxRecDepth 20000
open Go.RowKit Go.WideShapes Go.ChangeShapes

/-- A message that came in. -/
theorem open_me {H : Type} {enc : TypeId × Value → H} {w : World} {base : Nat} {held : Bool} {r : Reach} {b0 : Nat} {v : Value} {d : DataW H} {p : List MemPlace}
    (hv : Value.okWide Tryd.prog w r b0 24 v) (h : DataW.Trod enc Tryd.prog w base (fun _ => true) held 24 v d p) :
    ∃ (r : Int) (b : Bool) (k : Int) (a : Option Addr) (n c : Nat) (L : List El), v = meV r b k a n c ∧ IsI w.heap.size w a n L ∧ n ≤ maxLen ∧ (Lit.int .i64 r).wf = true ∧ (Lit.int .i64 k).wf = true := by
  obtain ⟨cs, rfl, hsz⟩ := okWide_struct Tryd.underlying24 hv
  obtain ⟨fuel, hf⟩ := h
  have hcells : (Value.cells (.agg cs)).toList = cs.toList := rfl
  rw [hcells] at hf
  obtain ⟨xs, m, _, _, hl, hx, hall⟩ := DataW.trod_struct Tryd.underlying24 hf
  have hl4 : xs.length = 4 := by rw [hx]; rfl
  have ci : Tryd.prog.cellsOf 3 = 1 := by kernel_rfl
  have cb : Tryd.prog.cellsOf 4 = 1 := by kernel_rfl
  have cl : Tryd.prog.cellsOf 22 = 1 := by kernel_rfl
  have a0 : DataW.trod enc Tryd.prog w base (fun _ => true) held m 3 (List.take (Tryd.prog.cellsOf 3) (List.drop 0 cs.toList)) = xs[0]? := hall 0 _ rfl
  have a1 : DataW.trod enc Tryd.prog w base (fun _ => true) held m 4 (List.take (Tryd.prog.cellsOf 4) (List.drop 1 cs.toList)) = xs[1]? := hall 1 _ rfl
  have a2 : DataW.trod enc Tryd.prog w base (fun _ => true) held m 3 (List.take (Tryd.prog.cellsOf 3) (List.drop 2 cs.toList)) = xs[2]? := hall 2 _ rfl
  have a3 : DataW.trod enc Tryd.prog w base (fun _ => true) held m 22 (List.take (Tryd.prog.cellsOf 22) (List.drop 3 cs.toList)) = xs[3]? := hall 3 _ rfl
  rw [ci] at a0 a2
  rw [cb] at a1
  rw [cl] at a3
  have hl : cs.toList.length = 4 := by rw [Array.length_toList, hsz]; kernel_rfl
  rw [List.getElem?_eq_getElem (by omega)] at a0 a1 a2 a3
  obtain ⟨r, hr, _, hwr⟩ := DataW.trod_int Tryd.underlying3 a0
  obtain ⟨b, hb, _⟩ := DataW.trod_bool Tryd.underlying4 a1
  obtain ⟨k, hk, _, hwk⟩ := DataW.trod_int Tryd.underlying3 a2
  match hcs : cs.toList, hl with
  | [y0, y1, y2, y3], _ =>
    rw [hcs] at hr hb hk a3
    simp only [List.drop_succ_cons, List.drop_zero, List.take_succ_cons, List.take_zero, List.cons.injEq, and_true] at hr hb hk a3
    subst hr hb hk
    have hcs' : cs = #[.int .i64 r, .bool b, .int .i64 k, y3] := by rw [← Array.toList_inj, hcs]
    subst hcs'
    have key : ∃ (a : Option Addr) (n c : Nat), y3 = .slice a n c := by
      rcases DataW.trod_slice Tryd.underlying22 a3 with ⟨h3, _⟩ | ⟨x, l, c, _, _, _, _, h3, _⟩
      · exact ⟨_, _, _, (List.cons.inj h3).1⟩
      · exact ⟨_, _, _, (List.cons.inj h3).1⟩
    obtain ⟨a, n, c, rfl⟩ := key
    obtain ⟨L, hI, _, _, hn⟩ := open_ies (a := a) (len := n) (cap := c) (d := _) (p := _) ⟨m, a3⟩
    exact ⟨r, b, k, a, n, c, L, rfl, hI, hn, hwr, hwk⟩
end Go.Proofs.YtbjeljmnknibnaaDoor
