/- Proved here: the walk of FrameBack. Conditions: as each theorem states them. -/
import Derived.Test.YtdipffgmjmhjaaaAwk
namespace Go.Proofs.Ytdipffgmjmhjaaa
set_option linter.unusedSimpArgs false
set_option linter.unusedVariables false
open Go.RowKit

/-- What was packed is unpacked. -/
theorem unpack_packed (a : Option Addr) (len cap L : Nat) (xs : List UInt8) (m : UInt8) (w : World) {n : Nat} (h : IsB n w a L (frameN xs m)) (hn : n ≤ w.heap.size) (hcap : L ≤ cap) (hl : len = xs.length) (h1 : 1 ≤ len) (h2 : len ≤ 1000) :
    Calls Try.prog 12 #[.slice a L cap] w fun e w' => ∃ a' c', e = .returned (.tuple #[.slice a' len c', .int .u8 (m.toNat : Int), .int .i64 0]) ∧ IsB w'.heap.size w' a' len xs ∧ (a' = none → c' = 0) ∧ Below w.heap.size w w' := by
  have hL : L ≤ 3000 := by
    have := h.1
    have hf := frame_len (t := xs) m (by omega)
    have := many_eq (n := xs.length) (by omega)
    omega
  have key := unpack_calls a L cap _ w h hn hcap hL
  unfold UpAns at key
  rw [unpack_frame m (by omega) (by omega)] at key
  dsimp only at key
  rw [← hl] at key
  exact key

set_option maxHeartbeats 2000000 in
theorem back_walk (a1 : Option Addr) (len cap1 : Nat) (xs : List UInt8) (m : UInt8) (w : World) (h1 : IsB w.heap.size w a1 len xs) (n1 : a1 = none → cap1 = 0) :
    Calls Try.prog 5 #[.slice a1 len cap1, .int .u8 (m.toNat : Int)] w fun e w' => e = .returned (.bool true) ∧ Below w.heap.size w w' := by
  by_cases g1 : 2000 < len
  · have q1 : decide (2000 < (len : Int)) = true := by simp; omega
    clear g1 h1
    go_enter Try.func5, Try.ntmps5
    go_wp2_with fail
    refine (awake_calls _).mono ?_
    rintro e w1 ⟨rfl, hb1⟩
    go_wp2_with fail
    refine (awake_calls _).mono ?_
    rintro e w2 ⟨rfl, hb2⟩
    go_wp2
    go_ret
    exact ⟨rfl, hb1.trans (hb2.mono hb1.size)⟩
  have q1 : decide (2000 < (len : Int)) = false := by simp; omega
  by_cases g0 : len = 0
  · subst g0
    clear g1 h1
    go_enter Try.func5, Try.ntmps5
    go_wp2_with fail
    refine (awake_calls _).mono ?_
    rintro e w1 ⟨rfl, hb1⟩
    go_wp2_with fail
    refine (pack_none 0 cap1 a1 _ rfl _).mono ?_
    rintro e w2 ⟨rfl, rfl⟩
    go_wp2
    go_ret
    exact ⟨rfl, hb1⟩
  have q0 : ((len : Int) == 0) = false := beq_eq_false_iff_ne.2 (by omega)
  by_cases g2 : 1000 < len
  · have q2 : decide (1000 < (len : Int)) = true := by simp; omega
    clear g1 g0 h1
    go_enter Try.func5, Try.ntmps5
    go_wp2_with fail
    refine (awake_calls _).mono ?_
    rintro e w1 ⟨rfl, hb1⟩
    go_wp2_with fail
    refine (pack_long len cap1 a1 _ g2 _).mono ?_
    rintro e w2 ⟨rfl, rfl⟩
    go_wp2
    go_ret
    exact ⟨rfl, hb1⟩
  have q2 : decide (1000 < (len : Int)) = false := by simp; omega
  have p1 : 1 ≤ len := by omega
  have p2 : len ≤ 1000 := by omega
  have lx := h1.1
  have hme := many_eq p1
  have HP : ∀ w1, Below w.heap.size w w1 → Calls Try.prog 10 #[.slice a1 len cap1, .int .u8 (m.toNat : Int)] w1 fun e w' => ∃ a' c', e = .returned (.tuple #[.slice a' (48 * manyN len) c', .int .i64 0]) ∧ OwnB w1.heap.size w' a' (48 * manyN len) c' (frameN xs m) ∧ Below w1.heap.size w1 w' := fun w1 b => pack_calls a1 len cap1 xs m w1 (h1.below b (Nat.le_refl _)) b.size n1 p1 p2
  have HM := many_calls len (by omega)
  obtain ⟨M, hM⟩ : ∃ M, manyN len = M := ⟨_, rfl⟩
  rw [hM] at HP HM hme
  have hMb : M ≤ 21 := by omega
  have qm : ((M : Int) == ((len : Int) + 55) / 48) = true := by rw [beq_iff_eq]; omega
  have LX : Hid (len = xs.length) := lx
  have HY : ∀ (v w' : World) (a : Option Addr) (c : Nat), OwnB v.heap.size w' a (48 * M) c (frameN xs m) → Calls Try.prog 12 #[.slice a (48 * M) c] w' fun e w'' => ∃ a' c', e = .returned (.tuple #[.slice a' len c', .int .u8 (m.toNat : Int), .int .i64 0]) ∧ IsB w''.heap.size w'' a' len xs ∧ (a' = none → c' = 0) ∧ Below w'.heap.size w' w'' :=
    fun v w' a c o => unpack_packed a len c _ xs m w' o.isB.1 (Nat.le_refl _) o.isB.2.2 lx p1 p2
  clear g0 g1 g2 hM lx hme
  go_enter Try.func5, Try.ntmps5
  go_wp2_with fail
  refine (awake_calls _).mono ?_
  rintro e w1 ⟨rfl, b1⟩
  go_wp2_with fail
  refine (HP _ b1).mono ?_
  rintro e w2 ⟨a2, c2, rfl, o2, b2⟩
  have B2 := b1.trans (b2.mono b1.size)
  go_wp2_with fail
  refine (HY _ _ _ _ o2).mono ?_
  rintro e w3 ⟨a3, c3, rfl, i3, n3, b3⟩
  have B3 := B2.trans (b3.mono B2.size)
  clear HP HY o2 b1 b2
  go_wp2_with fail
  refine (same_calls _ _ _ _ _ _ _ _ _ i3 (h1.below B3 (Nat.le_refl _)) (Nat.le_refl _) B3.size (by omega)).mono ?_
  rintro e w4 ⟨rfl, b4⟩
  rw [beq_self_eq_true]
  have B4 := B3.trans (b4.mono B3.size)
  clear i3 b3 b4 B3 B2 h1
  go_wp2_with fail
  refine (HM _).mono ?_
  rintro e w5 ⟨rfl, rfl⟩
  go_wp2_with fail
  refine (HM _).mono ?_
  rintro e w6 ⟨rfl, rfl⟩
  go_wp2_with fail
  refine (many_neg _ (by omega) (by omega) _).mono ?_
  rintro e w7 ⟨rfl, rfl⟩
  go_wp2
  go_ret
  exact ⟨rfl, B4⟩
end Go.Proofs.Ytdipffgmjmhjaaa
