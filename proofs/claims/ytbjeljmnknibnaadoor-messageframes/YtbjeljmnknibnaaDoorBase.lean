/- Proved here: how rows of bytes in memory are spoken of. Conditions: as each theorem states them. -/
import Derived.WalkKit
import Derived.ProofKit
import Derived.OpenShut
import Derived.Handy
import Derived.Below
import Derived.Shelf.Abstract
import Derived.Test.YtbjeljmnknibnaaDoorProg
namespace Go.Proofs.YtbjeljmnknibnaaDoor
set_option linter.unusedSimpArgs false
set_option linter.unusedVariables false
open Go.RowKit

/-- A slice value holds the bytes zs; its cells lie below n. -/
def IsB (n : Nat) (W : World) (a : Option Addr) (len : Nat) (zs : List UInt8) : Prop :=
  len = zs.length ∧ (zs = [] ∨ ∃ b off, a = some ⟨b, off, none⟩ ∧ b < n ∧ ∀ j x, zs[j]? = some x → W.cell? ⟨b, off + j, none⟩ = some (.int .u8 (x.toNat : Int)))

theorem IsB.below {n m : Nat} {A B : World} (h : Below m A B) (hm : n ≤ m) {a : Option Addr} {len : Nat} {zs : List UInt8} : IsB n A a len zs → IsB n B a len zs
  | ⟨e, .inl z⟩ => ⟨e, .inl z⟩
  | ⟨e, .inr ⟨b, off, ea, hb, hc⟩⟩ => ⟨e, .inr ⟨b, off, ea, hb, fun j x hx => (h.cell (p := ⟨b, off + j, none⟩) (by show b < m; omega)).trans (hc j x hx)⟩⟩
theorem IsB.cell {n : Nat} {W : World} {a : Option Addr} {len : Nat} {zs : List UInt8} (h : IsB n W a len zs) {k : Nat} {x : UInt8} (hx : zs[k]? = some x) :
    ∃ b off, a = some ⟨b, off, none⟩ ∧ b < n ∧ ∀ j y, zs[j]? = some y → W.cell? ⟨b, off + j, none⟩ = some (.int .u8 (y.toNat : Int)) := by
  rcases h.2 with rfl | h
  · cases hx
  · exact h
theorem IsB.mono {n m : Nat} {W : World} {a : Option Addr} {len : Nat} {zs : List UInt8} (h : IsB n W a len zs) (hm : n ≤ m) : IsB m W a len zs :=
  ⟨h.1, h.2.imp id fun ⟨b, off, e, hb, hc⟩ => ⟨b, off, e, Nat.lt_of_lt_of_le hb hm, hc⟩⟩
theorem IsB.drew {n : Nat} {W : World} {a : Option Addr} {len : Nat} {zs : List UInt8} (h : IsB n W a len zs) : IsB n W.drew a len zs := h.below (m := n) ((Below.refl n W).drew) (Nat.le_refl _)

theorem heap_new (w : World) (o : Obj) : (w.alloc o).heap[w.heap.size]? = some o := by unfold World.alloc; simp
def vals (zs : List UInt8) : List Value := zs.map fun x => Value.int .u8 (x.toNat : Int)
theorem cell_new_any (w : World) (o : Array Value) (t : TypeId) (m : Nat × Nat) (k : Nat) (v : Value) (h : o[k]? = some v) : (w.alloc (.cells o t m)).cell? ⟨w.heap.size, k, none⟩ = some v := by
  unfold World.cell?
  rw [show (w.alloc (.cells o t m)).heap[(⟨w.heap.size, k, none⟩ : Addr).block]? = some (.cells o t m) from heap_new w (.cells o t m)]
  exact h
theorem isB_new (w : World) (zs : List UInt8) (t : TypeId) (m : Nat × Nat) : IsB (w.heap.size + 1) (w.alloc (.cells (vals zs).toArray t m)) (some ⟨w.heap.size, 0, none⟩) zs.length zs := by
  refine ⟨rfl, .inr ⟨_, 0, rfl, by omega, fun j x hx => ?_⟩⟩
  rw [Nat.zero_add]
  exact cell_new_any w _ t m j _ (by simp [vals, hx])

theorem ofNat_toNat_lt {x : Nat} (h : x < 256) : (UInt8.ofNat x).toNat = x := by simp [UInt8.toNat_ofNat']; omega
theorem IsB.take {n : Nat} {W : World} {a : Option Addr} {len : Nat} {zs : List UInt8} (h : IsB n W a len zs) (k : Nat) (hk : k ≤ zs.length) : IsB n W a k (zs.take k) := by
  refine ⟨by simp; omega, ?_⟩
  rcases h.2 with rfl | ⟨b, off, e, hb, hc⟩
  · left; simp
  · right
    refine ⟨b, off, e, hb, fun j x hx => hc j x ?_⟩
    rw [List.getElem?_take] at hx
    split at hx
    · exact hx
    · cases hx

theorem IsB.dropA {n : Nat} {W : World} {b off len : Nat} {xs ys : List UInt8} (h : IsB n W (some ⟨b, off, none⟩) len (xs ++ ys)) : IsB n W (some ⟨b, off + xs.length, none⟩) ys.length ys := by
  refine ⟨rfl, ?_⟩
  rcases h.2 with e | ⟨b', off', e, hb, hc⟩
  · left; exact (List.append_eq_nil_iff.1 e).2
  · right
    cases e
    refine ⟨b, off + xs.length, rfl, hb, fun j x hx => ?_⟩
    rw [Nat.add_assoc]
    exact hc (xs.length + j) x (by rw [List.getElem?_append_right (by omega)]; rw [show xs.length + j - xs.length = j from by omega]; exact hx)
theorem IsB.takeA {n : Nat} {W : World} {a : Option Addr} {len : Nat} {xs ys : List UInt8} (h : IsB n W a len (xs ++ ys)) : IsB n W a xs.length xs := by
  have := h.take xs.length (by simp)
  rwa [List.take_left'] at this
  rfl

end Go.Proofs.YtbjeljmnknibnaaDoor
