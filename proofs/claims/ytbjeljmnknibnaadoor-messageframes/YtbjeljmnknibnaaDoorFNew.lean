/- Proved here: how a new block of bytes reads. Conditions: as each theorem states them. -/
import Derived.Test.YtbjeljmnknibnaaDoorFBit
namespace Go.Proofs.YtbjeljmnknibnaaDoor.F
open Go.RowKit

def vals (zs : List UInt8) : List Value := zs.map fun x => Value.int .u8 (x.toNat : Int)
theorem cell_new_any (w : World) (o : Array Value) (t : TypeId) (m : Nat × Nat) (k : Nat) (v : Value) (h : o[k]? = some v) : (w.alloc (.cells o t m)).cell? ⟨w.heap.size, k, none⟩ = some v := by
  unfold World.cell?
  rw [show (w.alloc (.cells o t m)).heap[(⟨w.heap.size, k, none⟩ : Addr).block]? = some (.cells o t m) from World.alloc_heap_new w (.cells o t m)]
  exact h
theorem isB_new (w : World) (zs : List UInt8) (t : TypeId) (m : Nat × Nat) : IsB (w.heap.size + 1) (w.alloc (.cells (vals zs).toArray t m)) (some ⟨w.heap.size, 0, none⟩) zs.length zs := by
  refine ⟨rfl, .inr ⟨_, 0, rfl, by omega, fun j x hx => ?_⟩⟩
  rw [Nat.zero_add]
  exact cell_new_any w _ t m j _ (by simp [vals, hx])
end Go.Proofs.YtbjeljmnknibnaaDoor.F
