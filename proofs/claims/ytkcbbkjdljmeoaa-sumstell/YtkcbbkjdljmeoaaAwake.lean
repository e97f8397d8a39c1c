/- Proved here: the first call of each statement answers true. Conditions: as each theorem states them. -/
import Derived.Lib.SlBytesConst
import Derived.Test.YtkcbbkjdljmeoaaBit
namespace Go.Proofs.Ytkcbbkjdljmeoaa
open Go.RowKit

def vals (zs : List UInt8) : List Value := zs.map fun x => Value.int .u8 (x.toNat : Int)
theorem cell_new_any (w : World) (o : Array Value) (t : TypeId) (m : Nat × Nat) (k : Nat) (v : Value) (h : o[k]? = some v) : (w.alloc (.cells o t m)).cell? ⟨w.heap.size, k, none⟩ = some v := by
  unfold World.cell?
  rw [show (w.alloc (.cells o t m)).heap[(⟨w.heap.size, k, none⟩ : Addr).block]? = some (.cells o t m) from World.alloc_heap_new w (.cells o t m)]
  exact h
theorem isB_new (w : World) (zs : List UInt8) (t : TypeId) (m : Nat × Nat) : IsB (w.heap.size + 1) (w.alloc (.cells (vals zs).toArray t m)) (some ⟨w.heap.size, 0, none⟩) zs.length zs := by
  refine ⟨rfl, .inr ⟨_, 0, rfl, by omega, fun j x hx => ?_⟩⟩
  rw [Nat.zero_add]
  exact cell_new_any w _ t m j _ (by simp [vals, hx])

theorem bitN_one : bitN 1 = some 39 := by kernel_rfl
theorem eightN_one : eightN [0, 0, 0, 1] = 82 := by kernel_rfl
theorem longN_nine : longN [49, 50, 51, 52, 53, 54, 55, 56, 57] = 4236843288 := by kernel_rfl

set_option maxHeartbeats 1000000 in
theorem awake_calls (w : World) : Calls Try.prog 9 #[] w fun e W' => e = .returned (.bool true) ∧ Below w.heap.size w W' := by
  have kc := fun (w : World) (C : Array Value) (n c : Nat) => Lib.run_convert_bytes_const (P := Try.prog) w 22 5 C n c Try.underlying22 Try.underlying5
  go_enter Try.func9, Try.ntmps9
  go_wp2_with (go_at_call 10; refine (bit_calls 1 _).mono ?_; rintro e w1 ⟨rfl, hb1⟩; rw [bitN_one])
  refine (eight_calls _ _ _ [0, 0, 0, 1] (by decide) _ (isB_new w1 [0, 0, 0, 1] 5 (0, 0)) (by simp)).mono ?_
  rintro e w2 ⟨rfl, hb2⟩
  rw [eightN_one]
  go_wp2_with fail
  refine (long_calls _ _ _ [49, 50, 51, 52, 53, 54, 55, 56, 57] (by decide) _ (isB_new w2 [49, 50, 51, 52, 53, 54, 55, 56, 57] 5 (9, 10)) (by simp)).mono ?_
  rintro e w3 ⟨rfl, hb3⟩
  rw [longN_nine]
  go_wp2
  go_ret
  have z1 := hb1.size; have z2 := hb2.size; have z3 := hb3.size
  simp at z2 z3
  refine ⟨rfl, ?_⟩
  refine (hb1.trans (((Below.refl _ w1).alloc z1 _).trans (hb2.mono (by simp; omega)))).trans (((Below.refl _ w2).alloc (by omega) _).trans (hb3.mono (by simp; omega)))
end Go.Proofs.Ytkcbbkjdljmeoaa
