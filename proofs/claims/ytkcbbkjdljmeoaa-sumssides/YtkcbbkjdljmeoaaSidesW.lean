/- Proved here: the walk of SumsSides. Conditions: as each theorem states them. -/
import Derived.Test.YtkcbbkjdljmeoaaApp
import Derived.Test.YtkcbbkjdljmeoaaMathB
namespace Go.Proofs.Ytkcbbkjdljmeoaa
open Go.RowKit

set_option maxHeartbeats 1000000 in
theorem sides_walk (a1 : Option Addr) (len1 cap1 : Nat) (xs : List UInt8) (z : Nat) (hz : z < 256) (w : World) (h1 : IsB w.heap.size w a1 len1 xs) (n1 : a1 = none → cap1 = 0) :
    Calls Try.prog 7 #[.slice a1 len1 cap1, .int .u8 z] w fun e w' => e = .returned (.bool true) ∧ Below w.heap.size w w' := by
  by_cases hl1 : 300 < len1
  · go_enter Try.func7, Try.ntmps7
    go_wp2_with fail
    refine (awake_calls _).mono ?_
    rintro e w1 ⟨rfl, hb1⟩
    go_wp2_with fail
    refine (awake_calls _).mono ?_
    rintro e w2 ⟨rfl, hb2⟩
    go_wp2
    go_ret
    exact ⟨rfl, hb1.trans (hb2.mono hb1.size)⟩
  have lxs : xs.length ≤ maxLen := by rw [← h1.1]; unfold maxLen; omega
  go_enter Try.func7, Try.ntmps7
  go_wp2_with fail
  refine (awake_calls _).mono ?_
  rintro e w1 ⟨rfl, B1⟩
  go_wp2_with fail
  refine (long_calls _ _ _ _ lxs _ (h1.below B1 (Nat.le_refl _)) B1.size).mono ?_
  rintro e w2 ⟨rfl, b2⟩
  have B2 : Below w.heap.size w w2 := B1.trans (b2.mono B1.size)
  obtain ⟨c, hc⟩ : ∃ c, longN xs = c := ⟨_, rfl⟩
  have hc32 : c < 4294967296 := by rw [← hc]; exact longN_lt xs
  rw [hc]
  have HC : Hid (longN xs = c) := hc
  clear hc
  have b3 : Below w2.heap.size w2 (w2.alloc (.cells #[] 5)) := (Below.refl _ w2).alloc (Nat.le_refl _) _
  have B3 := B2.trans (b3.mono B2.size)
  obtain ⟨a4, c4, w4, hap4, o4, b4⟩ := run_app (w2.alloc (.cells #[] 5)) w2.heap.size 22 _ 0 0 _ (ownB_new w2.heap.size w2 (Nat.le_refl _)) a1 len1 cap1 xs (h1.below B3 (Nat.le_refl _)) n1 (by omega) (by simp)
  simp only [Nat.zero_add, List.nil_append] at hap4 o4
  obtain ⟨d0, e0⟩ : ∃ d : UInt8, d.toNat = c / 16777216 % 256 := ⟨UInt8.ofNat _, ofNat_toNat_lt (Nat.mod_lt _ (by decide))⟩
  obtain ⟨d1, e1⟩ : ∃ d : UInt8, d.toNat = c / 65536 % 256 := ⟨UInt8.ofNat _, ofNat_toNat_lt (Nat.mod_lt _ (by decide))⟩
  obtain ⟨d2, e2⟩ : ∃ d : UInt8, d.toNat = c / 256 % 256 := ⟨UInt8.ofNat _, ofNat_toNat_lt (Nat.mod_lt _ (by decide))⟩
  obtain ⟨d3, e3⟩ : ∃ d : UInt8, d.toNat = c % 256 := ⟨UInt8.ofNat _, ofNat_toNat_lt (Nat.mod_lt _ (by decide))⟩
  have q0 : (c : Int) / 16777216 = (d0.toNat : Int) := by omega
  have q1 : (c : Int) / 65536 % 256 = (d1.toNat : Int) := by omega
  have q2 : (c : Int) / 256 % 256 = (d2.toNat : Int) := by omega
  have q3 : (c : Int) % 256 = (d3.toNat : Int) := by omega
  have hself : longN (xs ++ [d0, d1, d2, d3]) = 955982468 := long_self xs d0 d1 d2 d3 (by rw [HC.out]; exact e0) (by rw [HC.out]; exact e1) (by rw [HC.out]; exact e2) (by rw [HC.out]; exact e3)
  have HS : Hid (longN (xs ++ [d0, d1, d2, d3]) = 955982468) := hself
  clear hself HC e0 e1 e2 e3
  have b5 : Below w4.heap.size w4 (w4.alloc (.cells #[.int .u8 (d0.toNat : Int), .int .u8 (d1.toNat : Int), .int .u8 (d2.toNat : Int), .int .u8 (d3.toNat : Int)] 5)) := (Below.refl _ w4).alloc (Nat.le_refl _) _
  have b24 : Below w2.heap.size w2 w4 := b3.trans b4
  have b25 := b24.trans (b5.mono b24.size)
  obtain ⟨a6, c6, w6, hap6, o6, b6⟩ := run_app (w4.alloc (.cells #[.int .u8 (d0.toNat : Int), .int .u8 (d1.toNat : Int), .int .u8 (d2.toNat : Int), .int .u8 (d3.toNat : Int)] 5)) w2.heap.size 22 _ _ _ _ (o4.below b5 (Nat.le_refl _)) (some ⟨w4.heap.size, 0, none⟩) 4 4 [d0, d1, d2, d3] (isB_new w4 [d0, d1, d2, d3] 5 (0, 0)) (by intro h; cases h) (by omega) b25.size
  have b26 : Below w2.heap.size w2 w6 := b25.trans b6
  have B6 : Below w.heap.size w w6 := B2.trans (b26.mono B2.size)
  obtain ⟨w7, hmk, o7, b7⟩ := run_mk w6 w6.heap.size z hz (Nat.le_refl _)
  have B7 := B6.trans (b7.mono B6.size)
  go_wp2_with (at_builtin; first | refine wpList_app hap4 _ _ rfl rfl rfl rfl rfl ?_ | refine wpList_app hap6 _ _ rfl rfl rfl rfl rfl ?_)
  clear hap4 hap6 q0 q1 q2 q3 hmk
  have l6 : (xs ++ [d0, d1, d2, d3]).length ≤ maxLen := by rw [← o6.1]; unfold maxLen; omega
  refine (long_calls _ _ _ _ l6 _ (o6.isB.1.below b7 (Nat.le_refl _)) b7.size).mono ?_
  rintro e w8 ⟨rfl, b8⟩
  rw [HS.out]
  have B8 : Below w.heap.size w w8 := B7.trans (b8.mono B7.size)
  have o8 := o7.below b8 (Nat.le_refl _)
  have b9 : Below w8.heap.size w8 (w8.alloc (.cells #[] 5)) := (Below.refl _ w8).alloc (Nat.le_refl _) _
  have B9 := B8.trans (b9.mono B8.size)
  obtain ⟨a10, c10, w10, hap10, o10, b10⟩ := run_app (w8.alloc (.cells #[] 5)) w8.heap.size 22 _ 0 0 _ (ownB_new w8.heap.size w8 (Nat.le_refl _)) a1 len1 cap1 xs (h1.below B9 (Nat.le_refl _)) n1 (by omega) (by simp)
  simp only [Nat.zero_add, List.nil_append] at hap10 o10
  have b810 := b9.trans b10
  have B10 := B8.trans (b810.mono B8.size)
  go_wp2_with (at_builtin; refine wpList_app hap10 _ _ rfl rfl rfl rfl rfl ?_)
  clear hap10
  refine (eight_calls _ _ _ _ lxs _ (h1.below B10 (Nat.le_refl _)) B10.size).mono ?_
  rintro e w11 ⟨rfl, b11⟩
  have B11 := B10.trans (b11.mono B10.size)
  have b811 := b810.trans (b11.mono b810.size)
  obtain ⟨c, hc⟩ : ∃ c : UInt8, c.toNat = eightN xs ^^^ 85 := ⟨UInt8.ofNat _, ofNat_toNat_lt (Nat.xor_lt_two_pow (n := 8) (eightN_lt _) (by decide))⟩
  have hx85 : bits .xor .u8 ((eightN xs : Nat) : Int) 85 = ((c.toNat : Nat) : Int) := by rw [hc]; exact u8_xor_nat _ 85 (eightN_lt _) (by decide)
  have HC : Hid (c.toNat = eightN xs ^^^ 85) := hc
  clear hc
  have b12 : Below w11.heap.size w11 (w11.alloc (.cells #[.int .u8 (c.toNat : Int)] 5)) := (Below.refl _ w11).alloc (Nat.le_refl _) _
  have b812 := b811.trans (b12.mono b811.size)
  have o12 := (o10.below b11 (Nat.le_refl _)).below b12 (Nat.le_refl _)
  obtain ⟨a13, c13, w13, hap13, o13, b13⟩ := run_app (w11.alloc (.cells #[.int .u8 (c.toNat : Int)] 5)) w8.heap.size 22 _ _ _ _ o12 (some ⟨w11.heap.size, 0, none⟩) 1 1 [c] (isB_new w11 [c] 5 (0, 0)) (by intro h; cases h) (by omega) b812.size
  have b813 := b812.trans b13
  have B13 := B8.trans (b813.mono B8.size)
  go_wp2_with (at_builtin; refine wpList_app hap13 _ _ rfl rfl rfl rfl rfl ?_)
  clear hap13 hx85
  have l13 : (xs ++ [c]).length ≤ maxLen := by rw [← o13.1]; unfold maxLen; omega
  refine (eight_calls _ _ _ _ l13 _ o13.isB.1 (Nat.le_refl _)).mono ?_
  rintro e w14 ⟨rfl, b14⟩
  rw [eight_self _ _ HC.out]
  have B14 := B13.trans (b14.mono B13.size)
  have b814 := b813.trans (b14.mono b813.size)
  go_wp2_with fail
  have lz : (List.replicate z (0 : UInt8)).length ≤ maxLen := by simp; unfold maxLen; omega
  refine (ten_calls _ _ _ _ lz _ (o8.isB.1.below b814 (Nat.le_refl _)) b814.size).mono ?_
  rintro e w15 ⟨rfl, b15⟩
  rw [ten_zeros]
  have B15 := B14.trans (b15.mono B14.size)
  have b815 := b814.trans (b15.mono b814.size)
  go_wp2_with fail
  refine (eight_calls _ _ _ _ lz _ (o8.isB.1.below b815 (Nat.le_refl _)) b815.size).mono ?_
  rintro e w16 ⟨rfl, b16⟩
  rw [eight_zeros]
  go_wp2
  go_ret
  exact ⟨rfl, B15.trans (b16.mono B15.size)⟩
end Go.Proofs.Ytkcbbkjdljmeoaa
