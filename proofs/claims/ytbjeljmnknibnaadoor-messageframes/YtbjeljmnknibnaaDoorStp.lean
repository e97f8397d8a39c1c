/- Proved here: steps of a region that draws its order, and of a list: slices of bytes that are written out, appended to. Conditions: as each theorem states them. -/
import Derived.Deep.RegionHeld
import Derived.Deep.RegionHeldLaw
import Derived.BigRegion
import Derived.BigQuiet
import Derived.Laws.ResultCell
import Derived.Deep.QuietTactic
import Derived.Deep.RegionLaw
import Derived.OwnWalk
import Derived.Test.YtbjeljmnknibnaaDoorBut
import Derived.Test.YtbjeljmnknibnaaDoorSame
namespace Go.Proofs.YtbjeljmnknibnaaDoor
set_option linter.unusedSimpArgs false
set_option linter.unusedVariables false
open Go.RowKit

/-- A mark at which a walk stops. -/
structure Stop (p : Prop) : Prop where
  go : p
theorem stop_here {p : Prop} (h : Stop p) : p := h.go
theorem wpList_val {P : Program} {w w' : World} {v : Value} {ops : Array Oper} {rest : List Oper} {o : Oper} {a : Act} {Q : Exit → Act → World → Prop} (hgd : Region.wanted o (yielded ops a.tmps) = true)
    (hrun : (execOp a.eval o).run P w = .ok (.value v) w') (h : wpList P ops Q rest (a.put o.dst v) w') : wpList P ops Q (o :: rest) a w := by
  refine wpList_step fun K hK => ?_
  rw [if_pos hgd]
  unfold Oper.wp
  rw [hrun]
  exact hK _ _ h
theorem wpList_ld {P : Program} {w : World} {ops : Array Oper} {rest : List Oper} {o : Oper} {a : Act} {Q : Exit → Act → World → Prop} (hgd : Region.wanted o (yielded ops a.tmps) = true)
    {ty : TypeId} {x : Operand} {b k : Nat} {v : Value} (ho : o.op = .load ty x) (hx : a.eval x = .pointer (some ⟨b, k, none⟩)) (hrun : (Instr.loadAt ty (.pointer (some ⟨b, k, none⟩))).run P w = .ok v w)
    (h : wpList P ops Q rest (a.put o.dst v) w) : wpList P ops Q (o :: rest) a w := by
  refine wpList_val (v := v) (w' := w) hgd ?_ h
  unfold execOp
  simp [ho, hx, hrun, Result.andThen]
/-- A load whose run is known, in a region that draws its order. -/
theorem yields_ld {P : Program} {ops : Array Oper} {S : World → Prop} {o : Oper} {a : Act} {ty : TypeId} {x : Operand} {b k : Nat} {v : Value} (ho : o.op = .load ty x) (hw : Region.wanted o (yielded ops a.tmps) = true)
    (hx : a.eval x = .pointer (some ⟨b, k, none⟩)) (hS : ∀ w, S w → (Instr.loadAt ty (.pointer (some ⟨b, k, none⟩))).run P w = .ok v w) : YieldsIf P ops S o v a :=
  .inl ⟨hw, fun w h => by unfold execOp; simp [ho, hx, hS w h, Result.andThen]⟩
/-- A variable is laid down, and its value stored into it. -/
theorem step_al {P : Program} {w : World} {ops : Array Oper} {o : Oper} {a : Act} {K : Act → World → Prop} {Q : Exit → Act → World → Prop} {E : Prop} (hgd : Region.wanted o (yielded ops a.tmps) = true)
    {ty : TypeId} {Z : Array Value} (ho : o.op = .alloc ty) (hz : ∀ w, (zeroValue ty).run P w = .ok (.agg Z) w)
    (h : K (a.put o.dst (.pointer (some ⟨w.heap.size, 0, none⟩))) (w.alloc (.cells Z ty))) : if Region.wanted o (yielded ops a.tmps) = true then Oper.wp P o a w K Q else E := by
  rw [if_pos hgd]
  unfold Oper.wp
  have e : (execOp a.eval o).run P w = .ok (.value (.pointer (some ⟨w.heap.size, 0, none⟩))) (w.alloc (.cells Z ty)) := by
    unfold execOp
    simp [ho, Instr.alloc, hz, newVar, newRow, Result.andThen, Value.cells]
    try rfl
  rw [e]
  exact h
theorem ownB_lit (base : Nat) (w : World) (zs : List UInt8) (hb : base ≤ w.heap.size) (hl : zs.length ≤ 100000) : OwnB base (w.alloc (.cells (vals zs).toArray 5)) (some ⟨w.heap.size, 0, none⟩) zs.length zs.length zs :=
  ⟨rfl, by simp [vals], .inr ⟨w.heap.size, zs.length, _, rfl, hb, World.alloc_heap_new w _, Nat.le_refl _, by unfold maxLen; omega, by simp [vals], by
    rw [List.take_of_length_le (by simp [vals])]⟩⟩
theorem run_sl0 (w : World) : (Instr.buildSlice 25 0 #[]).run Tryd.prog w = .ok (.slice (some ⟨w.heap.size, 0, none⟩) 0 0) (w.alloc (.cells (vals []).toArray 5)) := by kernel_rfl
theorem run_sl1 (x : UInt8) (w : World) : (Instr.buildSlice 25 1 #[(0, .int .u8 (x.toNat : Int))]).run Tryd.prog w = .ok (.slice (some ⟨w.heap.size, 0, none⟩) 1 1) (w.alloc (.cells (vals [x]).toArray 5)) := by kernel_rfl
theorem run_sl2 (x y : UInt8) (w : World) : (Instr.buildSlice 25 2 #[(0, .int .u8 (x.toNat : Int)), (1, .int .u8 (y.toNat : Int))]).run Tryd.prog w = .ok (.slice (some ⟨w.heap.size, 0, none⟩) 2 2) (w.alloc (.cells (vals [x, y]).toArray 5)) := by kernel_rfl
theorem run_sl4 (x y z u : UInt8) (w : World) : (Instr.buildSlice 25 4 #[(0, .int .u8 (x.toNat : Int)), (1, .int .u8 (y.toNat : Int)), (2, .int .u8 (z.toNat : Int)), (3, .int .u8 (u.toNat : Int))]).run Tryd.prog w = .ok (.slice (some ⟨w.heap.size, 0, none⟩) 4 4) (w.alloc (.cells (vals [x, y, z, u]).toArray 5)) := by kernel_rfl
theorem run_sl5 (x y z u v : UInt8) (w : World) : (Instr.buildSlice 25 5 #[(0, .int .u8 (x.toNat : Int)), (1, .int .u8 (y.toNat : Int)), (2, .int .u8 (z.toNat : Int)), (3, .int .u8 (u.toNat : Int)), (4, .int .u8 (v.toNat : Int))]).run Tryd.prog w = .ok (.slice (some ⟨w.heap.size, 0, none⟩) 5 5) (w.alloc (.cells (vals [x, y, z, u, v]).toArray 5)) := by kernel_rfl
/-- A slice of bytes is written out. -/
theorem wpList_slB {P : Program} {w : World} {ops : Array Oper} {rest : List Oper} {o : Oper} {a : Act} {Q : Exit → Act → World → Prop} (hgd : Region.wanted o (yielded ops a.tmps) = true)
    {ty : TypeId} {n : Nat} {parts : Array (Nat × Operand)} {vs : List (Nat × Value)} {zs : List UInt8} (base : Nat) (ho : o.op = .buildSlice ty n parts) (hps : parts.toList.map (fun x => (x.1, a.eval x.2)) = vs)
    (hrun : ∀ w, (Instr.buildSlice ty n vs.toArray).run P w = .ok (.slice (some ⟨w.heap.size, 0, none⟩) n n) (w.alloc (.cells (vals zs).toArray 5))) (hn : zs.length = n) (hl : n ≤ 100000) (hbase : base ≤ w.heap.size)
    (h : ∀ b w', base ≤ b → OwnB base w' (some ⟨b, 0, none⟩) n n zs → Below w.heap.size w w' → wpList P ops Q rest (a.put o.dst (.slice (some ⟨b, 0, none⟩) n n)) w') : wpList P ops Q (o :: rest) a w := by
  have e : parts.map (fun x => (x.1, a.eval x.2)) = vs.toArray := by
    rw [← hps]
    cases parts
    simp
  refine wpList_val (v := .slice (some ⟨w.heap.size, 0, none⟩) n n) (w' := w.alloc (.cells (vals zs).toArray 5)) hgd ?_ ?_
  · unfold execOp
    simp only [ho]
    rw [e]
    simp [hrun, Result.andThen]
  · refine h _ _ hbase ?_ ((Below.refl _ w).alloc (Nat.le_refl _) _)
    have := ownB_lit base w zs hbase (by omega)
    rwa [hn] at this
theorem step_slB {P : Program} {w : World} {ops : Array Oper} {o : Oper} {a : Act} {K : Act → World → Prop} {Q : Exit → Act → World → Prop} {E : Prop} (hgd : Region.wanted o (yielded ops a.tmps) = true)
    {ty : TypeId} {n : Nat} {parts : Array (Nat × Operand)} {vs : List (Nat × Value)} {zs : List UInt8} (base : Nat) (ho : o.op = .buildSlice ty n parts) (hps : parts.toList.map (fun x => (x.1, a.eval x.2)) = vs)
    (hrun : ∀ w, (Instr.buildSlice ty n vs.toArray).run P w = .ok (.slice (some ⟨w.heap.size, 0, none⟩) n n) (w.alloc (.cells (vals zs).toArray 5))) (hn : zs.length = n) (hl : n ≤ 100000) (hbase : base ≤ w.heap.size)
    (h : ∀ b w', base ≤ b → OwnB base w' (some ⟨b, 0, none⟩) n n zs → Below w.heap.size w w' → K (a.put o.dst (.slice (some ⟨b, 0, none⟩) n n)) w') : if Region.wanted o (yielded ops a.tmps) = true then Oper.wp P o a w K Q else E := by
  have e : parts.map (fun x => (x.1, a.eval x.2)) = vs.toArray := by
    rw [← hps]
    cases parts
    simp
  rw [if_pos hgd]
  unfold Oper.wp
  have e2 : (execOp a.eval o).run P w = .ok (.value (.slice (some ⟨w.heap.size, 0, none⟩) n n)) (w.alloc (.cells (vals zs).toArray 5)) := by
    unfold execOp
    simp only [ho]
    rw [e]
    simp [hrun, Result.andThen]
  rw [e2]
  refine h _ _ hbase ?_ ((Below.refl _ w).alloc (Nat.le_refl _) _)
  have := ownB_lit base w zs hbase (by omega)
  rwa [hn] at this
/-- Bytes are appended to a slice of the call's own. -/
theorem step_appB {w : World} {ops : Array Oper} {o : Oper} {a : Act} {K : Act → World → Prop} {Q : Exit → Act → World → Prop} {E : Prop} (hgd : Region.wanted o (yielded ops a.tmps) = true)
    {base n k c m c2 N : Nat} {a1 a2 : Option Addr} {xs ys : List UInt8} {s x : Operand} (ho : o.op = .call { callee := .builtin .append, args := #[s, x], argTypes := #[25, 25] }) (hs : a.eval s = .slice a1 k c) (hx : a.eval x = .slice a2 m c2)
    (hv : OwnB base w a1 k c xs) (hy : IsB n w a2 m ys) (hnone : a2 = none → c2 = 0) (hlen : k + m ≤ 100000) (hbase : base ≤ w.heap.size) (hN : k + m = N)
    (h : ∀ a' c' w', OwnB base w' a' N c' (xs ++ ys) → Below base w w' → K (a.put o.dst (.slice a' N c')) w') : if Region.wanted o (yielded ops a.tmps) = true then Oper.wp Tryd.prog o a w K Q else E := by
  obtain ⟨a', c', w', hap, own, bel⟩ := run_app w base o.type a1 k c xs hv a2 m c2 ys hy hnone hlen hbase
  subst hN
  exact step_app hap s x hgd ho rfl hs hx (h _ _ _ own bel)
theorem wpList_appB {w : World} {ops : Array Oper} {rest : List Oper} {o : Oper} {a : Act} {Q : Exit → Act → World → Prop} (hgd : Region.wanted o (yielded ops a.tmps) = true)
    {base n k c m c2 N : Nat} {a1 a2 : Option Addr} {xs ys : List UInt8} {s x : Operand} (ho : o.op = .call { callee := .builtin .append, args := #[s, x], argTypes := #[25, 25] }) (hs : a.eval s = .slice a1 k c) (hx : a.eval x = .slice a2 m c2)
    (hv : OwnB base w a1 k c xs) (hy : IsB n w a2 m ys) (hnone : a2 = none → c2 = 0) (hlen : k + m ≤ 100000) (hbase : base ≤ w.heap.size) (hN : k + m = N)
    (h : ∀ a' c' w', OwnB base w' a' N c' (xs ++ ys) → Below base w w' → wpList Tryd.prog ops Q rest (a.put o.dst (.slice a' N c')) w') : wpList Tryd.prog ops Q (o :: rest) a w := by
  obtain ⟨a', c', w', hap, own, bel⟩ := run_app w base o.type a1 k c xs hv a2 m c2 ys hy hnone hlen hbase
  subst hN
  exact wpList_app hap s x hgd ho rfl hs hx (h _ _ _ own bel)
theorem below_drewN {n k : Nat} {a w : World} (h : Below n a w) : Below n a (w.drewN k) := ⟨h.os, h.tape, h.output, h.size, h.block⟩
theorem results_cell_tmp_row {P : Program} {fn : Func} {p u : Tmp} {ty : TypeId} (h : fn.results = #[.cell p ty, .tmp u]) (tmps : Array Value) (w : World) (g : Nat) (t : TypeId) (cs : Array Value) (fr : Nat × Nat) (d : TypeDesc) (v : Value)
    (hp : tmps.getD p undef = .pointer (some ⟨g, 0, none⟩)) (hv : tmps.getD u undef = v) (hg : w.heap[g]? = some (.cells cs t fr))
    (hu : P.underlying ty = some d) (hd : (match d with | .struct _ | .array _ _ => true | _ => false) = true) (hi : (P.info? ty).map (·.size) = some cs.size) :
    (results fn tmps).run P w = .ok (.tuple #[.agg cs, v]) w := by
  rw [results_cell_tmp h, hp, hv]
  simp [asAddr, run_loadVar_row w g t ty cs fr d hg hu hd hi]
/-- A struct of two cells is written over. -/
theorem bk_set2 {w : World} {b : Nat} {x y u v : Value} {t : TypeId} (h : BK w b #[x, y] t) : BK ((w.setCell ⟨b, 0, none⟩ u).setCell ⟨b, 1, none⟩ v) b #[u, v] t := (h.set 0 u).set 1 v
theorem below_set2 {n : Nat} {a w : World} {b : Nat} {u v : Value} (h : Below n a w) (hb : n ≤ b) : Below n a ((w.setCell ⟨b, 0, none⟩ u).setCell ⟨b, 1, none⟩ v) := (h.setCell (p := ⟨b, 0, none⟩) hb u).setCell (p := ⟨b, 1, none⟩) hb v
theorem OwnB.keep {base : Nat} {w w' : World} {a : Option Addr} {n c : Nat} {zs : List UInt8} (h : OwnB base w a n c zs) (hk : ∀ k, base ≤ k → k < w.heap.size → w'.heap[k]? = w.heap[k]?) : OwnB base w' a n c zs := by
  obtain ⟨hn, hl, ho⟩ := h
  refine ⟨hn, hl, ?_⟩
  rcases ho with ho | ⟨g, cap, cur, e, hg, hh, r⟩
  · exact .inl ho
  · exact .inr ⟨g, cap, cur, e, hg, (hk g hg (Array.getElem?_eq_some_iff.1 hh).1).trans hh, r⟩
theorem OwnB.set2 {base : Nat} {w : World} {a : Option Addr} {n c : Nat} {zs : List UInt8} (h : OwnB base w a n c zs) {b : Nat} (hb : b < base) (u v : Value) : OwnB base ((w.setCell ⟨b, 0, none⟩ u).setCell ⟨b, 1, none⟩ v) a n c zs :=
  h.keep fun k hk _ => (Below.heap_setCell _ _ _ _ (by show k ≠ b; omega)).trans (Below.heap_setCell _ _ _ _ (by show k ≠ b; omega))
end Go.Proofs.YtbjeljmnknibnaaDoor
