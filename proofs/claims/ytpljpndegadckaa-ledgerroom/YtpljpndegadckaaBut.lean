/- Proved here: what it is that but one block of memory is as it was, how a bucket lies in memory, and how an append goes as a step of a walk. Conditions: as each theorem states them. -/
import Derived.Deep.RegionLaw
import Derived.Deep.RegionHeld
import Derived.Shelf.Abstract
import Derived.Handy
import Derived.WalkLawsBesides
import Derived.Test.YtpljpndegadckaaLib
import Derived.Test.YtpljpndegadckaaProg
namespace Go.Proofs.Ytpljpndegadckaa
set_option linter.unusedSimpArgs false
set_option linter.unusedVariables false
open Go.RowKit Go.Shelf

/-- Below n all but block r is as it was. -/
structure But (r n : Nat) (w w' : World) : Prop where
  os : w'.os = w.os
  tape : w'.tape = w.tape
  output : w'.output = w.output
  size : w.heap.size ≤ w'.heap.size
  block : ∀ k, k < n → k ≠ r → w'.heap[k]? = w.heap[k]?

theorem But.of {r n : Nat} {w w' : World} (h : Below n w w') : But r n w w' := ⟨h.os, h.tape, h.output, h.size, fun k hk _ => h.block k hk⟩
theorem But.refl (r n : Nat) (w : World) : But r n w w := But.of (Below.refl n w)
theorem But.trans {r n : Nat} {a b c : World} (h : But r n a b) (k : But r n b c) : But r n a c :=
  ⟨k.os.trans h.os, k.tape.trans h.tape, k.output.trans h.output, Nat.le_trans h.size k.size, fun i hi hr => (k.block i hi hr).trans (h.block i hi hr)⟩
theorem But.mono {r n m : Nat} {w w' : World} (h : But r n w w') (hm : m ≤ n) : But r m w w' := ⟨h.os, h.tape, h.output, h.size, fun k hk => h.block k (Nat.lt_of_lt_of_le hk hm)⟩
theorem But.below {r n m : Nat} {w w' : World} (h : But r n w w') (hm : m ≤ n) (hr : m ≤ r) : Below m w w' := ⟨h.os, h.tape, h.output, h.size, fun k hk => h.block k (by omega) (by omega)⟩
theorem But.drew {r n : Nat} {a w : World} (h : But r n a w) : But r n a w.drew := ⟨h.os, h.tape, h.output, h.size, h.block⟩
theorem But.set {r n : Nat} {a w : World} (h : But r n a w) {p : Addr} (hp : p.block = r) (u : Value) : But r n a (w.setCell p u) :=
  h.trans ⟨rfl, rfl, rfl, by simp [World.setCell], fun k _ hk => Below.heap_setCell _ _ _ _ (by omega)⟩

/-- A block of cells. -/
def BK (w : World) (b : Nat) (vs : Array Value) (t : TypeId) : Prop := w.heap[b]? = some (.cells vs t (0, 0))
theorem bk_new (w : World) (vs : Array Value) (t : TypeId) : BK (w.alloc (.cells vs t)) w.heap.size vs t := World.alloc_heap_new w _
theorem BK.lt {w : World} {b : Nat} {vs : Array Value} {t : TypeId} (h : BK w b vs t) : b < w.heap.size := (Array.getElem?_eq_some_iff.1 h).1
theorem BK.below {n b : Nat} {w w' : World} {vs : Array Value} {t : TypeId} (h : BK w b vs t) (hb : Below n w w') (hn : b < n) : BK w' b vs t := (hb.block b hn).trans h
theorem BK.but {r n b : Nat} {w w' : World} {vs : Array Value} {t : TypeId} (h : BK w b vs t) (hb : But r n w w') (hn : b < n) (hr : b ≠ r) : BK w' b vs t := (hb.block b hn hr).trans h
theorem BK.drew {b : Nat} {w : World} {vs : Array Value} {t : TypeId} (h : BK w b vs t) : BK w.drew b vs t := h
theorem BK.alloc {b : Nat} {w : World} {vs : Array Value} {t : TypeId} (h : BK w b vs t) (o : Obj) : BK (w.alloc o) b vs t := h.below ((Below.refl _ w).alloc (Nat.le_refl _) o) h.lt
theorem BK.cell {b : Nat} {w : World} {vs : Array Value} {t : TypeId} (h : BK w b vs t) (k : Nat) (v : Value) (hv : vs[k]? = some v) : w.cell? ⟨b, k, none⟩ = some v := by
  unfold World.cell?
  rw [show w.heap[(⟨b, k, none⟩ : Addr).block]? = some (.cells vs t (0, 0)) from h]
  exact hv
theorem BK.frozen {b : Nat} {w : World} {vs : Array Value} {t : TypeId} (h : BK w b vs t) (k : Nat) : w.frozen? ⟨b, k, none⟩ = false := frozen_of_cells h
theorem BK.set {b : Nat} {w : World} {vs : Array Value} {t : TypeId} (h : BK w b vs t) (k : Nat) (v : Value) : BK (w.setCell ⟨b, k, none⟩ v) b (vs.setIfInBounds k v) t := by
  show (w.heap.modify b _)[b]? = _
  rw [Array.getElem?_modify, if_pos rfl, show w.heap[b]? = some (.cells vs t (0, 0)) from h]; rfl

/-- An append whose run is known, as a law for the walk. -/
theorem wpList_app {P : Program} {w w' : World} {t : TypeId} {va vx v' : Value} {ty : TypeId} (hrun : (Builtin.append_ #[t, t] ty #[va, vx]).run P w = .ok v' w')
    {ops : Array Oper} {rest : List Oper} {o : Oper} {a : Act} {Q : Exit → Act → World → Prop} (s x : Operand) (hgd : Region.wanted o (yielded ops a.tmps) = true)
    (ho : o.op = .call { callee := .builtin .append, args := #[s, x], argTypes := #[t, t] }) (hty : o.type = ty) (hs : a.eval s = va) (hx : a.eval x = vx)
    (h : wpList P ops Q rest (a.put o.dst v') w') : wpList P ops Q (o :: rest) a w := by
  refine wpList_step fun K hK => ?_
  rw [if_pos hgd]
  subst hty
  unfold Oper.wp
  simp [execOp, ho, resolve, invoke, builtin, hs, hx, hrun, Result.andThen]
  exact hK _ _ h

/-- A call of a Go function by its contract, as a step of a region that draws its order. -/
theorem step_call {P : Program} {w : World} {f : FuncId} {vs : List Value} {R : Ending → World → Prop} (hc : Calls P f vs.toArray w R) (eg : ∀ args w, (callFunc f args).run P w = .ok (.enter f args) w)
    {ops : Array Oper} {o : Oper} {a : Act} {K : Act → World → Prop} {Q : Exit → Act → World → Prop} {E : Prop} (args : List Operand) (ts : Array TypeId) (hgd : Region.wanted o (yielded ops a.tmps) = true)
    (ho : o.op = .call { callee := .value (.func f), args := args.toArray, argTypes := ts }) (hvs : args.map a.eval = vs)
    (h : ∀ e w', R e w' → ∃ v, e = .returned v ∧ K (a.put o.dst v) w') : if Region.wanted o (yielded ops a.tmps) = true then Oper.wp P o a w K Q else E := by
  rw [if_pos hgd]
  unfold Oper.wp
  have e : (execOp a.eval o).run P w = .ok (.enter f vs.toArray) w := by
    simp [execOp, ho, resolve, invoke, hvs, eg, Deferred.ofValue, Act.eval]
  rw [e]
  refine Calls.mono hc fun e w' hr => ?_
  obtain ⟨v, rfl, hk⟩ := h e w' hr
  exact hk

/-- A number as a time is held, as a step is; their bounds. -/
def hM (x : Int) : Int := min (max x 0) 1152921504606846976
def hS (x : Int) : Int := min (max x 1) 1152921504606846976
theorem hM_bound (x : Int) : 0 ≤ hM x ∧ hM x ≤ 1152921504606846976 := by unfold hM; omega
theorem hS_bound (x : Int) : 1 ≤ hS x ∧ hS x ≤ 1152921504606846976 := by unfold hS; omega
theorem hM_id {x : Int} (h0 : 0 ≤ x) (h1 : x ≤ 1152921504606846976) : hM x = x := by unfold hM; omega
theorem hS_id {x : Int} (h0 : 1 ≤ x) (h1 : x ≤ 1152921504606846976) : hS x = x := by unfold hS; omega
end Go.Proofs.Ytpljpndegadckaa
