/- Proved here: what it is that but one block of memory is as it was, and how a receiver lies in memory. Conditions: as each theorem states them. -/
import Derived.Test.YtbjeljmnknibnaaDoorFApp
namespace Go.Proofs.YtbjeljmnknibnaaDoor.F
set_option linter.unusedSimpArgs false
set_option linter.unusedVariables false
open Go.RowKit

/-- Below n all but block r is as it was. -/
structure But (r n : Nat) (w w' : World) : Prop where
  os : w'.os = w.os
  tape : w'.tape = w.tape
  output : w'.output = w.output
  size : w.heap.size ≤ w'.heap.size
  block : ∀ k, k < n → k ≠ r → w'.heap[k]? = w.heap[k]?

theorem But.of {r n : Nat} {w w' : World} (h : Below n w w') : But r n w w' := ⟨h.os, h.tape, h.output, h.size, fun k hk _ => h.block k hk⟩
theorem But.refl (r n : Nat) (w : World) : But r n w w := But.of (Below.refl n w)
theorem But.trans {r n : Nat} {a b c : World} (h : But r n a b) (k : But r n b c) : But r n a c :=
  ⟨k.os.trans h.os, k.tape.trans h.tape, k.output.trans h.output, Nat.le_trans h.size k.size, fun i hi hr => (k.block i hi hr).trans (h.block i hi hr)⟩
theorem But.mono {r n m : Nat} {w w' : World} (h : But r n w w') (hm : m ≤ n) : But r m w w' := ⟨h.os, h.tape, h.output, h.size, fun k hk => h.block k (Nat.lt_of_lt_of_le hk hm)⟩
theorem But.below {r n m : Nat} {w w' : World} (h : But r n w w') (hm : m ≤ n) (hr : m ≤ r) : Below m w w' := ⟨h.os, h.tape, h.output, h.size, fun k hk => h.block k (by omega) (by omega)⟩
theorem But.drew {r n : Nat} {a w : World} (h : But r n a w) : But r n a w.drew := ⟨h.os, h.tape, h.output, h.size, h.block⟩
theorem But.alloc {r n : Nat} {a w : World} (h : But r n a w) (hn : n ≤ w.heap.size) (o : Obj) : But r n a (w.alloc o) := h.trans (But.of ((Below.refl n w).alloc hn o))
theorem But.set {r n : Nat} {a w : World} (h : But r n a w) {p : Addr} (hp : p.block = r) (u : Value) : But r n a (w.setCell p u) :=
  h.trans ⟨rfl, rfl, rfl, by simp [World.setCell], fun k _ hk => Below.heap_setCell _ _ _ _ (by omega)⟩
theorem But.setNew {r n : Nat} {a w : World} (h : But r n a w) {p : Addr} (hp : n ≤ p.block) (u : Value) : But r n a (w.setCell p u) := h.trans (But.of ((Below.refl n w).setCell hp u))

/-- A block of cells. -/
def BK (w : World) (b : Nat) (vs : Array Value) (t : TypeId) : Prop := w.heap[b]? = some (.cells vs t (0, 0))
theorem bk_new (w : World) (vs : Array Value) (t : TypeId) : BK (w.alloc (.cells vs t)) w.heap.size vs t := World.alloc_heap_new w _
theorem BK.lt {w : World} {b : Nat} {vs : Array Value} {t : TypeId} (h : BK w b vs t) : b < w.heap.size := (Array.getElem?_eq_some_iff.1 h).1
theorem BK.below {n b : Nat} {w w' : World} {vs : Array Value} {t : TypeId} (h : BK w b vs t) (hb : Below n w w') (hn : b < n) : BK w' b vs t := (hb.block b hn).trans h
theorem BK.but {r n b : Nat} {w w' : World} {vs : Array Value} {t : TypeId} (h : BK w b vs t) (hb : But r n w w') (hn : b < n) (hr : b ≠ r) : BK w' b vs t := (hb.block b hn hr).trans h
theorem BK.drew {b : Nat} {w : World} {vs : Array Value} {t : TypeId} (h : BK w b vs t) : BK w.drew b vs t := h
theorem BK.alloc {b : Nat} {w : World} {vs : Array Value} {t : TypeId} (h : BK w b vs t) (o : Obj) : BK (w.alloc o) b vs t := h.below ((Below.refl _ w).alloc (Nat.le_refl _) o) h.lt
theorem BK.cell {b : Nat} {w : World} {vs : Array Value} {t : TypeId} (h : BK w b vs t) (k : Nat) (v : Value) (hv : vs[k]? = some v) : w.cell? ⟨b, k, none⟩ = some v := by
  unfold World.cell?
  rw [show w.heap[(⟨b, k, none⟩ : Addr).block]? = some (.cells vs t (0, 0)) from h]
  exact hv
theorem BK.frozen {b : Nat} {w : World} {vs : Array Value} {t : TypeId} (h : BK w b vs t) (k : Nat) : w.frozen? ⟨b, k, none⟩ = false := frozen_of_block h
theorem BK.set {b : Nat} {w : World} {vs : Array Value} {t : TypeId} (h : BK w b vs t) (k : Nat) (v : Value) : BK (w.setCell ⟨b, k, none⟩ v) b (vs.setIfInBounds k v) t := by
  show (w.heap.modify b _)[b]? = _
  rw [Array.getElem?_modify, if_pos rfl, show w.heap[b]? = some (.cells vs t (0, 0)) from h]; rfl
theorem BK.setOther {b : Nat} {w : World} {vs : Array Value} {t : TypeId} (h : BK w b vs t) {p : Addr} (hp : b ≠ p.block) (v : Value) : BK (w.setCell p v) b vs t := (Below.heap_setCell _ _ _ _ hp).trans h
theorem BK.isB {b : Nat} {w : World} {zs : List UInt8} {t : TypeId} (h : BK w b (vals zs).toArray t) : IsB w.heap.size w (some ⟨b, 0, none⟩) zs.length zs := by
  refine ⟨rfl, .inr ⟨_, 0, rfl, h.lt, fun j x hx => ?_⟩⟩
  rw [Nat.zero_add]
  exact h.cell j _ (by simp [vals, hx])

end Go.Proofs.YtbjeljmnknibnaaDoor.F
