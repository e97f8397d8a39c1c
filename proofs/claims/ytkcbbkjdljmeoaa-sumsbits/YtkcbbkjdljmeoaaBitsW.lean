/- Proved here: the walk of SumsBits. Conditions: as each theorem states them. -/
import Derived.Test.YtkcbbkjdljmeoaaApp
import Derived.Test.YtkcbbkjdljmeoaaMathC
namespace Go.Proofs.Ytkcbbkjdljmeoaa
open Go.RowKit

set_option maxHeartbeats 2000000 in
theorem bits_walk (x0 x1 x2 x3 : UInt8) (i k : Nat) (hi : i < 256) (hk : k < 256) (w : World) :
    Calls Try.prog 6 #[.agg #[.int .u8 (x0.toNat : Int), .int .u8 (x1.toNat : Int), .int .u8 (x2.toNat : Int), .int .u8 (x3.toNat : Int)], .int .u8 i, .int .u8 k] w fun e w' => e = .returned (.bool true) ∧ Below w.heap.size w w' := by
  go_enter Try.func6, Try.ntmps6
  go_wp2_with fail
  refine (awake_calls _).mono ?_
  rintro e w1 ⟨rfl, b1⟩
  have I0 := isB_new w [x0, x1, x2, x3] 39 (0, 0)
  have I1 : IsB (w.heap.size + 1) w1 (some ⟨w.heap.size, 0, none⟩) 4 [x0, x1, x2, x3] := I0.below b1 (by simp)
  have z1 : w.heap.size + 1 ≤ w1.heap.size := by have := b1.size; simp at this; omega
  obtain ⟨p, hp⟩ : ∃ p, i % 40 = p := ⟨_, rfl⟩
  obtain ⟨q, hq⟩ : ∃ q, k % 40 = q := ⟨_, rfl⟩
  have hp40 : p < 40 := by omega
  have hq40 : q < 40 := by omega
  have ip : (i : Int) % 40 = (p : Int) := by omega
  have kq : (k : Int) % 40 = (q : Int) := by omega
  clear hp hq
  obtain ⟨c, hc⟩ : ∃ c : UInt8, c.toNat = eightN [x0, x1, x2, x3] := ⟨UInt8.ofNat _, ofNat_toNat_lt (eightN_lt _)⟩
  have HC : Hid (c.toNat = eightN [x0, x1, x2, x3]) := hc
  clear hc
  go_wp2
  go_region_law (first
    | (refine step_call (eight_calls _ _ 4 [x0, x1, x2, x3] (by show 4 ≤ maxLen; decide) _ I1.drew z1) (enters_of Try.func12 (by kernel_rfl) rfl) _ _ rfl rfl rfl ?_; rintro e w2 ⟨rfl, b2⟩; refine ⟨_, rfl, ?_⟩; rw [← HC.out]; obtain ⟨a5, c5, w5, hap, o5, b5⟩ := run_app_grow (w2.alloc (.cells #[.int .u8 (c.toNat : Int)] 5)) 22 w.heap.size 0 4 4 [x0, x1, x2, x3] ((I1.drew.below b2 z1).below ((Below.refl _ w2).alloc (Nat.le_refl _) _) (Nat.le_trans z1 b2.size)) ⟨w2.heap.size, 0, none⟩ 1 1 [c] (isB_new w2 [c] 5 (0, 0)) (by decide) (by decide))
    | refine step_app hap (.tmp 14) (.tmp 17) (by rfl) (by rfl) (by rfl) (by rfl) (by rfl) ?_)
  have z2 : w1.heap.size ≤ w2.heap.size := b2.size
  have B5 : Below w.heap.size w w5 := ((((Below.refl _ w).alloc (Nat.le_refl _) _).trans (b1.mono (by simp))).drew.trans (b2.mono (by show w.heap.size ≤ w1.heap.size; omega))).trans ((((Below.refl _ w2).alloc (Nat.le_refl _) _).mono (by omega)).trans (b5.mono (by simp; omega)))
  have I5 : IsB w5.heap.size w5 a5 5 [x0, x1, x2, x3, c] := o5.isB.1
  have n5 := o5.isB.2.1
  have k5 : 5 ≤ c5 := o5.isB.2.2
  have s0 : synN [x0, x1, x2, x3, c] = 0 := syn_self [x0, x1, x2, x3] [x0, x1, x2, x3] c rfl HC.out
  have s1 : synN (flipN [x0, x1, x2, x3, c] p) = synN (dam p) := by rw [syn_flip _ _ _ _ _ _ hp40, s0, Nat.zero_xor]
  have l1 : (flipN [x0, x1, x2, x3, c] p).length ≤ maxLen := by rw [flipN_length]; show 5 ≤ maxLen; decide
  have s2 : synN (flipN (flipN [x0, x1, x2, x3, c] p) q) = synN (dam p) ^^^ synN (dam q) := by
    obtain ⟨y0, y1, y2, y3, y4, e⟩ := flip_list5 x0 x1 x2 x3 c p
    rw [e] at s1 ⊢
    rw [syn_flip _ _ _ _ _ _ hq40, s1]
  have l2 : (flipN (flipN [x0, x1, x2, x3, c] p) q).length ≤ maxLen := by rw [flipN_length, flipN_length]; show 5 ≤ maxLen; decide
  have S0 : Hid (synN [x0, x1, x2, x3, c] = 0) := s0
  have S1 : Hid (synN (flipN [x0, x1, x2, x3, c] p) = synN (dam p)) := s1
  have S2 : Hid (synN (flipN (flipN [x0, x1, x2, x3, c] p) q) = synN (dam p) ^^^ synN (dam q)) := s2
  clear s0 s1 s2 hap o5 I0 I1 b5 b2 b1
  go_wp2_with fail
  refine (flip_calls _ _ _ _ _ I5 (Nat.le_refl _) n5 (by decide) p (by omega)).mono ?_
  rintro e w6 ⟨a6, c6, rfl, o6, b6⟩
  have B6 := B5.trans (b6.mono B5.size)
  go_wp2_with fail
  refine (flip_calls _ _ _ _ _ o6.isB.1 (Nat.le_refl _) o6.isB.2.1 (by decide) q (by omega)).mono ?_
  rintro e w7 ⟨a7, c7, rfl, o7, b7⟩
  have B7 := B6.trans (b7.mono B6.size)
  go_wp2_with fail
  refine (syndrome_calls _ _ _ _ o6.isB.2.2 l1 _ (o6.isB.1.below b7 (Nat.le_refl _)) b7.size).mono ?_
  rintro e w8 ⟨rfl, b8⟩
  rw [S1.out]
  have B8 := B7.trans (b8.mono B7.size)
  go_wp2_with fail
  refine (bit_calls _ _).mono ?_
  rintro e w9 ⟨rfl, b9⟩
  rw [bitN_dam p hp40]
  have B9 := B8.trans (b9.mono B8.size)
  have f59 : Below w5.heap.size w5 w9 := b6.trans ((b7.trans ((b8.trans (b9.mono b8.size)).mono b7.size)).mono b6.size)
  have f79 : Below w7.heap.size w7 w9 := b8.trans (b9.mono b8.size)
  go_wp2_with fail
  refine (syndrome_calls _ _ _ _ k5 (by show 5 ≤ maxLen; decide) _ (I5.below f59 (Nat.le_refl _)) f59.size).mono ?_
  rintro e w10 ⟨rfl, b10⟩
  rw [S0.out]
  have B10 := B9.trans (b10.mono B9.size)
  have f710 := f79.trans (b10.mono f79.size)
  go_wp2_with fail
  refine (syndrome_calls _ _ _ _ o7.isB.2.2 l2 _ (o7.isB.1.below f710 (Nat.le_refl _)) f710.size).mono ?_
  rintro e w11 ⟨rfl, b11⟩
  rw [S2.out]
  have B11 := B10.trans (b11.mono B10.size)
  by_cases hpq : p = q
  · subst hpq
    rw [Nat.xor_self]
    go_wp2
    go_ret
    exact ⟨rfl, B11⟩
  · have hne : synN (dam p) ^^^ synN (dam q) ≠ 0 := fun h => hpq (dam_inj p q hp40 hq40 (by have := xor_twice (synN (dam p)) (synN (dam q)); rw [h, Nat.zero_xor] at this; exact this.symm))
    have t1 : (((synN (dam p) ^^^ synN (dam q) : Nat) : Int) == 0) = false := beq_eq_false_iff_ne.2 (by omega)
    have t2 : ((p : Int) == (q : Int)) = false := beq_eq_false_iff_ne.2 (by omega)
    clear hne hpq
    generalize synN (dam p) ^^^ synN (dam q) = t at *
    go_wp2
    go_ret
    exact ⟨rfl, B11⟩
end Go.Proofs.Ytkcbbkjdljmeoaa
