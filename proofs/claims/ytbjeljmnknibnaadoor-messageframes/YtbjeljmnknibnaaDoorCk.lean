/- Proved here: what element.Cause and element.Key answer. Conditions: as each theorem states them. -/
import Derived.Test.YtbjeljmnknibnaaDoorLa
import Derived.Test.YtbjeljmnknibnaaDoorEi
import Derived.Test.YtbjeljmnknibnaaDoorKr
namespace Go.Proofs.YtbjeljmnknibnaaDoor
set_option linter.unusedSimpArgs false
set_option linter.unusedVariables false
open Go.RowKit Go.Shelf

/-- An element, and no error. -/
def IeAns (base : Nat) (x : El) (e : Ending) (w' : World) : Prop :=
  ∃ (a : Option Addr) (l c : Nat), e = .returned (.tuple #[ieV x.id a l c, .int .i64 0]) ∧ OwnB base w' a l c x.body
abbrev ieNo (E : Int) : Ending := .returned (.tuple #[ieV 0 none 0 0, .int .i64 E])
def causeE (c : Nat) : El := ⟨8, [0, UInt8.ofNat c]⟩

theorem ie_new (w : World) : BK (w.alloc (.cells #[.int .u8 0, .slice none 0 0] 60)) w.heap.size #[.int .u8 0, .slice none 0 0] 60 := bk_new w _ _

set_option maxHeartbeats 1000000 in
theorem cause_no (c : Int) (h : ¬ (0 ≤ c ∧ c ≤ 127)) (w : World) : Calls Tryd.prog 44 #[.int .i64 c] w fun e w' => e = ieNo 1 ∧ Below w.heap.size w w' := by
  have A0 : Below w.heap.size w (w.alloc (.cells #[.int .u8 0, .slice none 0 0] 60)) := (Below.refl _ w).alloc (Nat.le_refl _) _
  have K3 := ie_new w
  by_cases h0 : c < 0
  · have q1 : decide (c < 0) = true := decide_eq_true h0
    clear h h0
    go_enter Tryd.func44, Tryd.ntmps44
    go_wp2
    refine bodyPost_ret (v := .tuple #[ieV 0 none 0 0, .int .i64 1]) (results_cell_tmp_row Tryd.results44 _ _ _ _ _ _ _ _ rfl rfl K3 Tryd.underlying60 rfl size_ie) rfl ⟨rfl, A0⟩
  · have q1 : decide (c < 0) = false := decide_eq_false h0
    have q2 : decide (127 < c) = true := decide_eq_true (by omega)
    clear h h0
    go_enter Tryd.func44, Tryd.ntmps44
    go_wp2
    refine bodyPost_ret (v := .tuple #[ieV 0 none 0 0, .int .i64 1]) (results_cell_tmp_row Tryd.results44 _ _ _ _ _ _ _ _ rfl rfl K3 Tryd.underlying60 rfl size_ie) rfl ⟨rfl, A0⟩

set_option maxHeartbeats 1000000 in
theorem cause_ok (c : Nat) (h : c ≤ 127) (w : World) : Calls Tryd.prog 44 #[.int .i64 c] w fun e w' => IeAns w.heap.size (causeE c) e w' ∧ Below w.heap.size w w' := by
  have q1 : decide ((c : Int) < 0) = false := by simp
  have q2 : decide (127 < (c : Int)) = false := by simp; omega
  have HW : Hid ((c : Int) % 256 = ((UInt8.ofNat c).toNat : Int)) := by show _ = _; rw [byteN]; omega
  clear h
  go_enter Tryd.func44, Tryd.ntmps44
  go_wp2_with (with_reducible show wpList _ _ _ (Oper.mk _ (Op.buildSlice _ _ _) _ _ _ _ :: _) _ _; refine stop_here ?_)
  refine ⟨?_⟩
  rw [HW.out]
  have K1 := ie_new w
  have A1 : Below w.heap.size w (w.alloc (.cells #[.int .u8 0, .slice none 0 0] 60)) := (Below.refl _ w).alloc (Nat.le_refl _) _
  have S1 : w.heap.size + 1 ≤ (w.alloc (.cells #[.int .u8 0, .slice none 0 0] 60)).heap.size := by simp
  generalize w.alloc (.cells #[.int .u8 0, .slice none 0 0] 60) = W1 at *
  have HE : Hid ((causeE c).body = [0, UInt8.ofNat c]) := rfl
  generalize UInt8.ofNat c = y at *
  refine wpList_slB (zs := [0, y]) (vs := [(0, .int .u8 ((0 : UInt8).toNat : Int)), (1, .int .u8 (y.toNat : Int))]) (by rfl) (w.heap.size + 1) (by rfl) (by rfl) (run_sl2 _ _) rfl (by decide) S1 ?_
  intro b5 w5 hb5 o5 e5
  have K3 := K1.below e5 K1.lt
  have B2 := A1.trans (e5.mono A1.size)
  have p0 := K3.cell 0 _ rfl
  have p1 := K3.cell 1 _ rfl
  have z0 := K3.frozen 0
  have z1 := K3.frozen 1
  have kl := K3.lt
  have K5 := bk_set2 (u := .int .u8 8) (v := .slice (some ⟨b5, 0, none⟩) 2 2) K3
  have B5 := below_set2 (b := w.heap.size) (u := .int .u8 8) (v := .slice (some ⟨b5, 0, none⟩) 2 2) B2 (Nat.le_refl _)
  have o6 := (o5.set2 (Nat.lt_succ_self _) (.int .u8 8) (.slice (some ⟨b5, 0, none⟩) 2 2)).mono (Nat.le_succ _)
  clear K1 A1 S1 e5 o5
  go_wp2
  refine bodyPost_ret (v := .tuple #[ieV 8 (some ⟨b5, 0, none⟩) 2 2, .int .i64 0]) (results_cell_tmp_row Tryd.results44 _ _ _ _ _ _ _ _ rfl rfl K5 Tryd.underlying60 rfl size_ie) rfl ⟨⟨_, _, _, rfl, by rw [HE.out]; exact o6⟩, B5⟩

def keyE (p v c : Nat) : El := ⟨90, ([UInt8.ofNat p] ++ beN 2 v) ++ beN 2 c⟩
end Go.Proofs.YtbjeljmnknibnaaDoor
