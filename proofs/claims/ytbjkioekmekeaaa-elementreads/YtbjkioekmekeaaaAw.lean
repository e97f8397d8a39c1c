/- Proved here: that the law's awake says yes. Conditions: as the theorem states them. -/
import Derived.Test.YtbjkioekmekeaaaCk
import Derived.Test.YtbjkioekmekeaaaPk
import Derived.Test.YtbjkioekmekeaaaUn
namespace Go.Proofs.Ytbjkioekmekeaaa
set_option linter.unusedSimpArgs false
set_option linter.unusedVariables false
open Go.RowKit Go.Shelf

theorem run_sl6 (w : World) : (Instr.buildSlice 23 6 #[(0, .int .u8 8), (1, .int .u8 128), (2, .int .u8 0), (3, .int .u8 2), (4, .int .u8 0), (5, .int .u8 35)]).run Try.prog w = .ok (.slice (some ⟨w.heap.size, 0, none⟩) 6 6) (w.alloc (.cells (vals [8, 128, 0, 2, 0, 35]).toArray 5)) := by kernel_rfl
theorem bytes_35 : bytesE [causeE 35] = [8, 128, 0, 2, 0, 35] := by decide
theorem un_35 : unE 16 [8, 128, 0, 2, 0, 35] = .ok [causeE 35] := by
  rw [← bytes_35, unE_bytes _ _ (by decide)]
  rfl
theorem ok_35 : okL [causeE 35] = true := by decide

set_option maxHeartbeats 2000000 in
theorem awake_calls (w : World) : Calls Try.prog 9 #[] w fun e w' => e = .returned (.bool true) ∧ Below w.heap.size w w' := by
  go_enter Try.func9, Try.ntmps9
  have HC : Calls Try.prog 27 #[.int .i64 35] w fun e w' => ∃ (a : Option Addr) (c : Nat), e = .returned (.tuple #[.agg #[.int .u8 8, .slice a 2 c], .int .i64 0]) ∧ OwnB w.heap.size w' a 2 c (causeE 35).body ∧ Below w.heap.size w w' := by
    refine (cause_ok 35 (by decide) w).mono ?_
    rintro e w' ⟨⟨a, l, c, rfl, ho⟩, hb⟩
    obtain rfl : l = 2 := ho.1
    exact ⟨a, c, rfl, ho, hb⟩
  go_wp2_with fail
  refine HC.mono ?_
  rintro e w1 ⟨a1, c1, rfl, o1, b1⟩
  have A1 : Below w1.heap.size w1 (w1.alloc (.cells #[.int .u8 8, .slice a1 2 c1] 36)) := (Below.refl _ w1).alloc (Nat.le_refl _) _
  have K1 := bk_new w1 #[.int .u8 8, .slice a1 2 c1] 36
  clear HC
  go_wp2_with (with_reducible show wpList _ _ _ (Oper.mk _ (Op.buildSlice _ _ _) _ _ _ _ :: _) _ _; refine stop_here ?_)
  refine ⟨?_⟩
  have o2 := o1.below A1 (Nat.le_refl _)
  have B2 := b1.trans (A1.mono b1.size)
  generalize w1.alloc (.cells #[.int .u8 8, .slice a1 2 c1] 36) = W1 at *
  refine wpList_slI (i := 8) (by rfl) (by rfl) (by rfl) ?_
  intro b3 w3 hb3 K3 e3
  have o3 := o2.below e3 (Nat.le_refl _)
  have B3 := B2.trans (e3.mono B2.size)
  have I3 : IsI w3.heap.size w3 (some ⟨b3, 0, none⟩) 1 [causeE 35] := isI_bk (i := 8) K3 o3.isB.1 o3.isB.2.1 o3.isB.2.2
  have HP := pack_ok (some ⟨b3, 0, none⟩) 1 1 [causeE 35] w3 I3 (Nat.le_refl _) ok_35
  clear o1 A1 K1 o2 B2 K3 o3 e3 b1
  rw [bytes_35] at HP
  go_wp2_with fail
  refine HP.mono ?_
  rintro e w4 ⟨a4, c4, rfl, o4, b4⟩
  have B4 := B3.trans (b4.mono B3.size)
  have HU := unpack_calls a4 6 c4 [8, 128, 0, 2, 0, 35] w4 o4.isB.1 (Nat.le_refl _) o4.isB.2.2 (by decide)
  clear HP I3 B3 b4
  go_wp2_with fail
  refine HU.mono ?_
  rintro e w5 ⟨b5, h5⟩
  have o5 := o4.below b5 (Nat.le_refl _)
  have B5 := B4.trans (b5.mono B4.size)
  rcases h5 with ⟨L, a6, c6, hL, rfl, o6⟩ | ⟨E, hE, rfl⟩
  · rw [un_35] at hL
    cases hL
    clear HU B4 b5 o4
    go_wp2_with (with_reducible show wpList _ _ _ (Oper.mk _ (Op.buildSlice _ _ _) _ _ _ _ :: _) _ _; refine stop_here ?_)
    refine ⟨?_⟩
    refine wpList_slB (zs := [8, 128, 0, 2, 0, 35]) (vs := [(0, .int .u8 8), (1, .int .u8 128), (2, .int .u8 0), (3, .int .u8 2), (4, .int .u8 0), (5, .int .u8 35)]) (by rfl) w5.heap.size (by rfl) (by rfl) run_sl6 rfl (by decide) (Nat.le_refl _) ?_
    intro b7 w7 hb7 o7 e7
    have o8 := o5.below e7 (Nat.le_refl _)
    have B7 := B5.trans (e7.mono B5.size)
    have HS := same_calls a4 (some ⟨b7, 0, none⟩) 6 c4 6 6 _ _ w7 o8.isB.1 o7.isB.1 (Nat.le_refl _) (Nat.le_refl _) (by decide)
    rw [beq_self_eq_true] at HS
    clear o5 o6 o7 o8 e7 B5
    go_wp2_with fail
    refine HS.mono ?_
    rintro e w9 ⟨rfl, b9⟩
    go_wp2
    go_ret
    exact ⟨rfl, B7.trans (b9.mono B7.size)⟩
  · rw [un_35] at hE
    cases hE
end Go.Proofs.Ytbjkioekmekeaaa
