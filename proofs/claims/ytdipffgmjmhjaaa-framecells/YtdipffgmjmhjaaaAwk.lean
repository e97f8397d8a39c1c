/- Proved here: what the laws' own awake answers. Conditions: as each theorem states them. -/
import Derived.Test.YtdipffgmjmhjaaaUp
import Derived.Test.YtdipffgmjmhjaaaPk
namespace Go.Proofs.Ytdipffgmjmhjaaa
set_option linter.unusedSimpArgs false
set_option linter.unusedVariables false
open Go.RowKit

set_option maxHeartbeats 1000000 in
theorem awake_calls (w : World) : Calls Try.prog 9 #[] w fun e w' => e = .returned (.bool true) ∧ Below w.heap.size w w' := by
  have J1 : IsB (w.heap.size + 1) (w.alloc (.cells #[.int .u8 1, .int .u8 2] 5)) (some ⟨w.heap.size, 0, none⟩) 2 [1, 2] := isB_new w [1, 2] 5 (0, 0)
  have B1 : Below w.heap.size w (w.alloc (.cells #[.int .u8 1, .int .u8 2] 5)) := (Below.refl _ w).alloc (Nat.le_refl _) _
  obtain ⟨W1, hW1⟩ : ∃ W1, w.alloc (.cells #[.int .u8 1, .int .u8 2] 5) = W1 := ⟨_, rfl⟩
  have z1 : W1.heap.size = w.heap.size + 1 := by rw [← hW1]; simp
  rw [hW1] at J1 B1
  have HP := pack_calls (some ⟨w.heap.size, 0, none⟩) 2 2 [1, 2] 9 W1 J1 (by omega) (by intro h; cases h) (by decide) (by decide)
  rw [show 48 * manyN 2 = 48 from rfl, show (((9 : UInt8)).toNat : Int) = 9 from rfl] at HP
  have HF : Hid (unpackN (frameN [1, 2] 9) = ([1, 2], 9, 0)) := unpack_frame 9 (by decide) (by decide)
  clear J1 z1
  go_enter Try.func9, Try.ntmps9
  go_wp2_with fail
  refine HP.mono ?_
  rintro e w2 ⟨a2, c2, rfl, o2, b2⟩
  have I2 := o2.isB
  go_wp2_with fail
  refine (unpack_calls _ _ _ _ _ I2.1 (Nat.le_refl _) I2.2.2 (by decide)).mono ?_
  rintro e w3 ⟨a3, c3, rfl, I3, n3, b3⟩
  rw [HF.out] at I3 ⊢
  have B3 : Below w.heap.size w w3 := B1.trans ((b2.mono B1.size).trans (b3.mono (Nat.le_trans B1.size b2.size)))
  have J4 : IsB (w3.heap.size + 1) (w3.alloc (.cells #[.int .u8 1, .int .u8 2] 5)) (some ⟨w3.heap.size, 0, none⟩) 2 [1, 2] := isB_new w3 [1, 2] 5 (0, 0)
  have s4 : Below w3.heap.size w3 (w3.alloc (.cells #[.int .u8 1, .int .u8 2] 5)) := (Below.refl _ w3).alloc (Nat.le_refl _) _
  have SC := same_calls a3 (some ⟨w3.heap.size, 0, none⟩) 2 c3 2 2 [1, 2] [1, 2] _ (I3.below s4 (Nat.le_refl _)) J4 s4.size (by simp) (by decide)
  have B4 : Below w.heap.size w (w3.alloc (.cells #[.int .u8 1, .int .u8 2] 5)) := B3.trans (s4.mono B3.size)
  clear I3 J4 HP I2 o2 b2 b3 hW1
  go_wp2_with fail
  refine SC.mono ?_
  rintro e w5 ⟨rfl, b5⟩
  rw [show (([1, 2] : List UInt8) == [1, 2]) = true from rfl]
  have HM := many_calls 41 (by decide) w5
  rw [show ((manyN 41 : Nat) : Int) = 2 from rfl] at HM
  go_wp2_with fail
  refine HM.mono ?_
  rintro e w6 ⟨rfl, rfl⟩
  go_wp2
  go_ret
  exact ⟨rfl, B4.trans (b5.mono B4.size)⟩
end Go.Proofs.Ytdipffgmjmhjaaa
