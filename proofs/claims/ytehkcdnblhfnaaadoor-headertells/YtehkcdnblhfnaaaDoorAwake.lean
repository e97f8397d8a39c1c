/- Proved here: the first call of each statement answers true. Conditions: as each theorem states them. -/
import Derived.Test.YtehkcdnblhfnaaaDoorPack
import Derived.Test.YtehkcdnblhfnaaaDoorKind
import Derived.Test.YtehkcdnblhfnaaaDoorSame
namespace Go.Proofs.YtehkcdnblhfnaaaDoor
open Go.RowKit

set_option maxHeartbeats 1000000 in
theorem awake_calls (w : World) (tab : Tab w) : Calls Tryd.prog 9 #[] w fun e w' => e = .returned (.bool true) ∧ Below w.heap.size w w' := by
  have r0 : rightB true 0 0 0 0 0 = true := by decide
  have kk : kindN 0 9 0 0 = 1 := by decide
  have R0 : Hid (rightB true 0 0 0 0 0 = true) := r0
  have KK : Hid (kindN 0 9 0 0 = 1) := kk
  clear r0 kk
  go_enter Tryd.func9, Tryd.ntmps9
  go_wp2_with fail
  refine (pack_yes false 0 1 5 0 0 1048656 _ tab (by decide) (by decide)).mono ?_
  rintro e w1 ⟨a1, rfl, I1, b1⟩
  have I2 := I1.below ((Below.refl _ w1).alloc (Nat.le_refl _) (.cells #[.int .u8 0, .int .u8 16, .int .u8 0, .int .u8 80] 5)) (Nat.le_refl _)
  have J2 := isB_new w1 [0, 16, 0, 80] 5 (0, 0)
  go_wp2_with fail
  refine (same_calls _ _ _ _ _ _ _ [0, 16, 0, 80] _ I2 J2 (by simp) (by simp) (by decide)).mono ?_
  rintro e w2 ⟨rfl, b2⟩
  rw [show (bytesN 1048656 == [0, 16, 0, 80]) = true by decide]
  have B2 : Below w.heap.size w w2 := (b1.alloc b1.size _).trans (b2.mono (by have := b1.size; simp; omega))
  clear I1 I2 J2 b2
  go_wp2_with fail
  refine (right_calls true 0 0 0 0 0 _ (tab.below B2 tab.1)).mono ?_
  rintro e w3 ⟨rfl, b3⟩
  rw [R0.out]
  have B3 := B2.trans (b3.mono B2.size)
  go_wp2_with fail
  refine (kind_calls 0 0 9 0 0 _).mono ?_
  rintro e w4 ⟨rfl, b4⟩
  rw [KK.out]
  go_wp2
  go_ret
  exact ⟨rfl, B3.trans (b4.mono B3.size)⟩
end Go.Proofs.YtehkcdnblhfnaaaDoor
