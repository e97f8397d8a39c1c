/- Proved here: what element.Cause and element.Key answer. Conditions: as each theorem states them. -/
import Derived.Test.YtbjkioekmekeaaaLa
import Derived.Test.YtbjkioekmekeaaaEi
import Derived.Test.YtbjkioekmekeaaaKr
namespace Go.Proofs.Ytbjkioekmekeaaa
set_option linter.unusedSimpArgs false
set_option linter.unusedVariables false
open Go.RowKit Go.Shelf

/-- An element, and no error. -/
def IeAns (base : Nat) (x : El) (e : Ending) (w' : World) : Prop :=
  ∃ (a : Option Addr) (l c : Nat), e = .returned (.tuple #[ieV x.id a l c, .int .i64 0]) ∧ OwnB base w' a l c x.body
abbrev ieNo (E : Int) : Ending := .returned (.tuple #[ieV 0 none 0 0, .int .i64 E])
def causeE (c : Nat) : El := ⟨8, [0, UInt8.ofNat c]⟩

theorem ie_new (w : World) : BK (w.alloc (.cells #[.int .u8 0, .slice none 0 0] 36)) w.heap.size #[.int .u8 0, .slice none 0 0] 36 := bk_new w _ _

set_option maxHeartbeats 1000000 in
theorem cause_no (c : Int) (h : ¬ (0 ≤ c ∧ c ≤ 127)) (w : World) : Calls Try.prog 27 #[.int .i64 c] w fun e w' => e = ieNo 1 ∧ Below w.heap.size w w' := by
  have A0 : Below w.heap.size w (w.alloc (.cells #[.int .u8 0, .slice none 0 0] 36)) := (Below.refl _ w).alloc (Nat.le_refl _) _
  have K3 := ie_new w
  by_cases h0 : c < 0
  · have q1 : decide (c < 0) = true := decide_eq_true h0
    clear h h0
    go_enter Try.func27, Try.ntmps27
    go_wp2
    refine bodyPost_ret (v := .tuple #[ieV 0 none 0 0, .int .i64 1]) (results_cell_tmp_row Try.results27 _ _ _ _ _ _ _ _ rfl rfl K3 Try.underlying36 rfl size_ie) rfl ⟨rfl, A0⟩
  · have q1 : decide (c < 0) = false := decide_eq_false h0
    have q2 : decide (127 < c) = true := decide_eq_true (by omega)
    clear h h0
    go_enter Try.func27, Try.ntmps27
    go_wp2
    refine bodyPost_ret (v := .tuple #[ieV 0 none 0 0, .int .i64 1]) (results_cell_tmp_row Try.results27 _ _ _ _ _ _ _ _ rfl rfl K3 Try.underlying36 rfl size_ie) rfl ⟨rfl, A0⟩

set_option maxHeartbeats 1000000 in
theorem cause_ok (c : Nat) (h : c ≤ 127) (w : World) : Calls Try.prog 27 #[.int .i64 c] w fun e w' => IeAns w.heap.size (causeE c) e w' ∧ Below w.heap.size w w' := by
  have q1 : decide ((c : Int) < 0) = false := by simp
  have q2 : decide (127 < (c : Int)) = false := by simp; omega
  have HW : Hid ((c : Int) % 256 = ((UInt8.ofNat c).toNat : Int)) := by show _ = _; rw [byteN]; omega
  clear h
  go_enter Try.func27, Try.ntmps27
  go_wp2_with (with_reducible show wpList _ _ _ (Oper.mk _ (Op.buildSlice _ _ _) _ _ _ _ :: _) _ _; refine stop_here ?_)
  refine ⟨?_⟩
  rw [HW.out]
  have K1 := ie_new w
  have A1 : Below w.heap.size w (w.alloc (.cells #[.int .u8 0, .slice none 0 0] 36)) := (Below.refl _ w).alloc (Nat.le_refl _) _
  have S1 : w.heap.size + 1 ≤ (w.alloc (.cells #[.int .u8 0, .slice none 0 0] 36)).heap.size := by simp
  generalize w.alloc (.cells #[.int .u8 0, .slice none 0 0] 36) = W1 at *
  have HE : Hid ((causeE c).body = [0, UInt8.ofNat c]) := rfl
  generalize UInt8.ofNat c = y at *
  refine wpList_slB (zs := [0, y]) (vs := [(0, .int .u8 ((0 : UInt8).toNat : Int)), (1, .int .u8 (y.toNat : Int))]) (by rfl) (w.heap.size + 1) (by rfl) (by rfl) (run_sl2 _ _) rfl (by decide) S1 ?_
  intro b5 w5 hb5 o5 e5
  have K3 := K1.below e5 K1.lt
  have B2 := A1.trans (e5.mono A1.size)
  have p0 := K3.cell 0 _ rfl
  have p1 := K3.cell 1 _ rfl
  have z0 := K3.frozen 0
  have z1 := K3.frozen 1
  have kl := K3.lt
  have K5 := bk_set2 (u := .int .u8 8) (v := .slice (some ⟨b5, 0, none⟩) 2 2) K3
  have B5 := below_set2 (b := w.heap.size) (u := .int .u8 8) (v := .slice (some ⟨b5, 0, none⟩) 2 2) B2 (Nat.le_refl _)
  have o6 := (o5.set2 (Nat.lt_succ_self _) (.int .u8 8) (.slice (some ⟨b5, 0, none⟩) 2 2)).mono (Nat.le_succ _)
  clear K1 A1 S1 e5 o5
  go_wp2
  refine bodyPost_ret (v := .tuple #[ieV 8 (some ⟨b5, 0, none⟩) 2 2, .int .i64 0]) (results_cell_tmp_row Try.results27 _ _ _ _ _ _ _ _ rfl rfl K5 Try.underlying36 rfl size_ie) rfl ⟨⟨_, _, _, rfl, by rw [HE.out]; exact o6⟩, B5⟩

set_option maxHeartbeats 1000000 in
theorem key_no (k : Ky) (h : rightK k = false) (w : World) : Calls Try.prog 26 #[keyV k] w fun e w' => e = ieNo 1 ∧ Below w.heap.size w w' := by
  have A0 : Below w.heap.size w ((w.alloc (.cells #[.int .i64 k.1, .int .i64 k.2.1, .int .i64 k.2.2] 45)).alloc (.cells #[.int .u8 0, .slice none 0 0] 36)) := ((Below.refl _ w).alloc (Nat.le_refl _) _).alloc (by simp) _
  have K1 : BK ((w.alloc (.cells #[.int .i64 k.1, .int .i64 k.2.1, .int .i64 k.2.2] 45)).alloc (.cells #[.int .u8 0, .slice none 0 0] 36)) (w.heap.size + 1) #[.int .u8 0, .slice none 0 0] 36 := by
    have := ie_new (w.alloc (.cells #[.int .i64 k.1, .int .i64 k.2.1, .int .i64 k.2.2] 45))
    rwa [World.size_alloc] at this
  have HR := kright_calls k
  rw [h] at HR
  clear h
  go_enter Try.func26, Try.ntmps26
  go_wp2_with fail
  refine (HR _).mono ?_
  rintro e w2 ⟨rfl, b2⟩
  have B2 := A0.trans (b2.mono A0.size)
  have K3 := K1.below b2 K1.lt
  have p0 := K3.cell 0 _ rfl
  have p1 := K3.cell 1 _ rfl
  have z0 := K3.frozen 0
  have z1 := K3.frozen 1
  have kl := K3.lt
  have K5 := bk_set2 (u := .int .u8 0) (v := .slice none 0 0) K3
  have B5 := below_set2 (b := w.heap.size + 1) (u := .int .u8 0) (v := .slice none 0 0) B2 (Nat.le_succ _)
  clear HR A0 K1
  go_wp2
  refine bodyPost_ret (v := .tuple #[ieV 0 none 0 0, .int .i64 1]) (results_cell_tmp_row Try.results26 _ _ _ _ _ _ _ _ rfl rfl K5 Try.underlying36 rfl size_ie) rfl ⟨rfl, B5⟩

def keyE (p v c : Nat) : El := ⟨90, ([UInt8.ofNat p] ++ beN 2 v) ++ beN 2 c⟩
set_option maxHeartbeats 2000000 in
theorem key_ok (p v c : Nat) (hp : p ≤ 7) (hv : v ≤ 4095) (hc : c ≤ 65535) (w : World) : Calls Try.prog 26 #[keyV ((p : Int), (v : Int), (c : Int))] w fun e w' => IeAns w.heap.size (keyE p v c) e w' ∧ Below w.heap.size w w' := by
  have A0 : Below w.heap.size w ((w.alloc (.cells #[.int .i64 p, .int .i64 v, .int .i64 c] 45)).alloc (.cells #[.int .u8 0, .slice none 0 0] 36)) := ((Below.refl _ w).alloc (Nat.le_refl _) _).alloc (by simp) _
  have S0 : w.heap.size + 2 ≤ ((w.alloc (.cells #[.int .i64 p, .int .i64 v, .int .i64 c] 45)).alloc (.cells #[.int .u8 0, .slice none 0 0] 36)).heap.size := by simp
  have K1 : BK ((w.alloc (.cells #[.int .i64 p, .int .i64 v, .int .i64 c] 45)).alloc (.cells #[.int .u8 0, .slice none 0 0] 36)) (w.heap.size + 1) #[.int .u8 0, .slice none 0 0] 36 := by
    have := ie_new (w.alloc (.cells #[.int .i64 p, .int .i64 v, .int .i64 c] 45))
    rwa [World.size_alloc] at this
  have J1 : BK ((w.alloc (.cells #[.int .i64 p, .int .i64 v, .int .i64 c] 45)).alloc (.cells #[.int .u8 0, .slice none 0 0] 36)) w.heap.size #[.int .i64 p, .int .i64 v, .int .i64 c] 45 := (bk_new w _ _).alloc _
  have HR := kright_calls ((p : Int), (v : Int), (c : Int))
  rw [(rightK_iff _).2 ⟨by simp only; omega, by simp only; omega, by simp only; omega⟩] at HR
  have HW : Hid ((p : Int) % 256 = ((UInt8.ofNat p).toNat : Int)) := by show _ = _; rw [byteN]; omega
  clear hp
  have HE : Hid ((keyE p v c).body = ([UInt8.ofNat p] ++ beN 2 v) ++ beN 2 c) := rfl
  generalize UInt8.ofNat p = y at *
  go_enter Try.func26, Try.ntmps26
  go_wp2_with fail
  refine (HR _).mono ?_
  rintro e w2 ⟨rfl, b2⟩
  have B2 := A0.trans (b2.mono A0.size)
  have S2 := Nat.le_trans S0 b2.size
  have K2 := K1.below b2 K1.lt
  have J2 := J1.below b2 J1.lt
  have j0 := J2.cell 0 _ rfl
  have jl := J2.lt
  clear HR A0 K1 J1 S0 b2
  go_wp2_with (with_reducible show wpList _ _ _ (Oper.mk _ (Op.buildSlice _ _ _) _ _ _ _ :: _) _ _; refine stop_here ?_)
  refine ⟨?_⟩
  rw [HW.out]
  refine wpList_slB (zs := [y]) (vs := [(0, .int .u8 (y.toNat : Int))]) (by rfl) (w.heap.size + 2) (by rfl) (by rfl) (run_sl1 _) rfl (by decide) S2 ?_
  intro b5 w5 hb5 o5 e5
  have S5 := Nat.le_trans S2 e5.size
  have K5 := K2.below e5 K2.lt
  have J5 := J2.below e5 J2.lt
  have B5 := B2.trans (e5.mono B2.size)
  have k1 := J5.cell 1 _ rfl
  have kl := J5.lt
  have HL := lay_calls (w.heap.size + 2) w5 S5 _ 1 1 _ o5 (by decide) v (by omega) 2 (by decide)
  clear K2 J2 B2 j0 jl e5 S2
  go_wp2_with fail
  refine HL.mono ?_
  rintro e w6 ⟨a6, c6, rfl, o6, g6⟩
  have e6 := g6.below (fun k hk => (o5.blk_lt k hk).1) S5
  have S6 := Nat.le_trans S5 e6.size
  have K6 := K5.below e6 (by omega)
  have J6 := J5.below e6 (by omega)
  have B6 := B5.trans (e6.mono (by omega))
  have l2 := J6.cell 2 _ rfl
  have ll := J6.lt
  have HM := lay_calls (w.heap.size + 2) w6 S6 _ _ _ _ o6 (by decide) c (by omega) 2 (by decide)
  clear K5 J5 B5 k1 kl HL e6 g6 o5 S5
  go_wp2_with fail
  refine HM.mono ?_
  rintro e w7 ⟨a7, c7, rfl, o7, g7⟩
  have e7 := g7.below (fun k hk => (o6.blk_lt k hk).1) S6
  have K3 := K6.below e7 (by omega)
  have B7 := B6.trans (e7.mono (by omega))
  have p0 := K3.cell 0 _ rfl
  have p1 := K3.cell 1 _ rfl
  have z0 := K3.frozen 0
  have z1 := K3.frozen 1
  have kl := K3.lt
  have KF := bk_set2 (u := .int .u8 90) (v := .slice a7 (1 + 2 + 2) c7) K3
  have BF := below_set2 (b := w.heap.size + 1) (u := .int .u8 90) (v := .slice a7 (1 + 2 + 2) c7) B7 (Nat.le_succ _)
  have oF := (o7.set2 (b := w.heap.size + 1) (Nat.lt_succ_self _) (.int .u8 90) (.slice a7 (1 + 2 + 2) c7)).mono (show w.heap.size ≤ w.heap.size + 2 by omega)
  clear K6 J6 B6 l2 ll HM e7 g7 o6 o7 S6
  go_wp2
  refine bodyPost_ret (v := .tuple #[ieV 90 a7 (1 + 2 + 2) c7, .int .i64 0]) (results_cell_tmp_row Try.results26 _ _ _ _ _ _ _ _ rfl rfl KF Try.underlying36 rfl size_ie) rfl ⟨⟨_, _, _, rfl, by rw [HE.out]; exact oF⟩, BF⟩
end Go.Proofs.Ytbjkioekmekeaaa
