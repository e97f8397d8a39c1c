/- Proved here: the walk of HecNil. Conditions: as each theorem states them. -/
import Derived.Test.YtcehhldeocpanaaAwake
namespace Go.Proofs.Ytcehhldeocpanaa
open Go.RowKit

set_option maxHeartbeats 1000000 in
theorem nil_walk (x0 x1 x2 x3 x4 : UInt8) (w : World) :
    Calls Try.prog 7 #[.agg #[.int .u8 (x0.toNat : Int), .int .u8 (x1.toNat : Int), .int .u8 (x2.toNat : Int), .int .u8 (x3.toNat : Int), .int .u8 (x4.toNat : Int)]] w fun e w' => e = .returned (.bool true) ∧ Below w.heap.size w w' := by
  have eq0 := eql_self 0 0 0 0
  have A0 := bk_new w (vals [x0, x1, x2, x3, x4]).toArray 35
  have B0 : Below w.heap.size w (w.alloc (.cells (vals [x0, x1, x2, x3, x4]).toArray 35)) := (Below.refl _ w).alloc (Nat.le_refl _) _
  go_enter Try.func7, Try.ntmps7
  go_wp2_with fail
  refine (awake_calls _).mono ?_
  rintro e w1 ⟨rfl, b1⟩
  have A1 := A0.below b1 A0.lt
  have B1 : Below w.heap.size w w1 := B0.trans (b1.mono (by show w.heap.size ≤ (World.alloc _ _).heap.size; simp))
  obtain ⟨c0, c1, c2, c3, c4⟩ := A1.five
  clear A0 B0 A1 b1
  go_wp2_with fail
  refine (take_nil _ _ _ _ _ _).mono ?_
  rintro e w2 ⟨rfl, b2⟩
  have B2 : Below w.heap.size w w2 := B1.trans (b2.mono B1.size)
  clear c0 c1 c2 c3 c4 b2 B1
  have B2a : Below w.heap.size w (w2.alloc (.cells #[.int .u8 0, .int .u8 0, .int .u8 0, .int .u8 0] 32)) := B2.alloc B2.size _
  go_wp2_with fail
  refine (careful_nil _).mono ?_
  rintro e w3 ⟨rfl, rfl⟩
  go_wp2_with fail
  refine (repaired_nil _).mono ?_
  rintro e w3 ⟨rfl, rfl⟩
  go_wp2_with fail
  refine (dropped_nil _).mono ?_
  rintro e w3 ⟨rfl, rfl⟩
  go_wp2
  go_ret
  exact ⟨rfl, B2a⟩
end Go.Proofs.Ytcehhldeocpanaa
