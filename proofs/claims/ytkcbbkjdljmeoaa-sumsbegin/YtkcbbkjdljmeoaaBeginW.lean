/- Proved here: the walk of SumsBegin. Conditions: as each theorem states them. -/
import Derived.Test.YtkcbbkjdljmeoaaApp
import Derived.Test.YtkcbbkjdljmeoaaMathB
namespace Go.Proofs.Ytkcbbkjdljmeoaa
open Go.RowKit

set_option maxHeartbeats 1000000 in
theorem begin_walk (z : Nat) (hz : z < 256) (a1 : Option Addr) (len1 cap1 : Nat) (xs : List UInt8) (a2 : Option Addr) (len2 cap2 : Nat) (bs : List UInt8) (w : World)
    (h1 : IsB w.heap.size w a1 len1 xs) (n1 : a1 = none → cap1 = 0) (h2 : IsB w.heap.size w a2 len2 bs) (n2 : a2 = none → cap2 = 0) :
    Calls Try.prog 8 #[.int .u8 z, .slice a1 len1 cap1, .slice a2 len2 cap2] w fun e w' => e = .returned (.bool true) ∧ Below w.heap.size w w' := by
  by_cases hl1 : 300 < len1
  · go_enter Try.func8, Try.ntmps8
    go_wp2_with fail
    refine (awake_calls _).mono ?_
    rintro e w1 ⟨rfl, hb1⟩
    go_wp2_with fail
    refine (awake_calls _).mono ?_
    rintro e w2 ⟨rfl, hb2⟩
    go_wp2
    go_ret
    exact ⟨rfl, hb1.trans (hb2.mono hb1.size)⟩
  by_cases hl2 : 300 < len2
  · go_enter Try.func8, Try.ntmps8
    go_wp2_with fail
    refine (awake_calls _).mono ?_
    rintro e w1 ⟨rfl, hb1⟩
    go_wp2_with fail
    refine (awake_calls _).mono ?_
    rintro e w2 ⟨rfl, hb2⟩
    go_wp2
    go_ret
    exact ⟨rfl, hb1.trans (hb2.mono hb1.size)⟩
  go_enter Try.func8, Try.ntmps8
  go_wp2_with fail
  refine (awake_calls _).mono ?_
  rintro e w1 ⟨rfl, hb1⟩
  obtain ⟨w2, hmk, o2, b2⟩ := run_mk w1 w1.heap.size z hz (Nat.le_refl _)
  have B2 : Below w.heap.size w w2 := hb1.trans (b2.mono hb1.size)
  obtain ⟨az, cz, w3, hap3, o3, b3⟩ := run_app w2 w1.heap.size 22 _ z z _ o2 a1 len1 cap1 xs (h1.below B2 (Nat.le_refl _)) n1 (by omega) b2.size
  have B3 : Below w.heap.size w w3 := B2.trans (b3.mono hb1.size)
  have b4 : Below w3.heap.size w3 (w3.alloc (.cells #[] 5)) := (Below.refl _ w3).alloc (Nat.le_refl _) _
  have B4 : Below w.heap.size w (w3.alloc (.cells #[] 5)) := B3.trans (b4.mono B3.size)
  obtain ⟨ax, cx, w5, hap5, o5, b5⟩ := run_app (w3.alloc (.cells #[] 5)) w3.heap.size 22 _ 0 0 _ (ownB_new w3.heap.size w3 (Nat.le_refl _)) a1 len1 cap1 xs (h1.below B4 (Nat.le_refl _)) n1 (by omega) (by simp)
  simp only [Nat.zero_add, List.nil_append] at hap5 o5
  have B5 : Below w.heap.size w w5 := B4.trans (b5.mono B3.size)
  have Z5 : w3.heap.size ≤ w5.heap.size := Nat.le_trans b4.size b5.size
  obtain ⟨ay, cy, w6, hap6, o6, b6⟩ := run_app w5 w3.heap.size 22 ax len1 cx xs o5 a2 len2 cap2 bs (h2.below B5 (Nat.le_refl _)) n2 (by omega) Z5
  have B6 : Below w.heap.size w w6 := B5.trans (b6.mono B3.size)
  go_wp2_with (at_builtin; first | refine wpList_app hap3 _ _ rfl rfl rfl rfl rfl ?_ | refine wpList_app hap5 _ _ rfl rfl rfl rfl rfl ?_ | refine wpList_app hap6 _ _ rfl rfl rfl rfl rfl ?_)
  clear hap3 hap5 hap6 hmk
  have lx : (xs ++ bs).length ≤ maxLen := by rw [← o6.1]; unfold maxLen; omega
  refine (eight_calls _ _ _ _ lx _ o6.isB.1 (Nat.le_refl _)).mono ?_
  rintro e w7 ⟨rfl, b7⟩
  have B7 : Below w.heap.size w w7 := B6.trans (b7.mono B6.size)
  obtain ⟨c, hc⟩ : ∃ c : UInt8, c.toNat = eightN (xs ++ bs) ^^^ 85 := ⟨UInt8.ofNat _, ofNat_toNat_lt (Nat.xor_lt_two_pow (n := 8) (eightN_lt _) (by decide))⟩
  have hx85 : bits .xor .u8 ((eightN (xs ++ bs) : Nat) : Int) 85 = ((c.toNat : Nat) : Int) := by rw [hc]; exact u8_xor_nat _ 85 (eightN_lt _) (by decide)
  have HC : Hid (c.toNat = eightN (xs ++ bs) ^^^ 85) := hc
  clear hc
  have b37 : Below w3.heap.size w3 w7 := ((b4.trans b5).trans b6).trans (b7.mono (Nat.le_trans Z5 b6.size))
  have b78 : Below w7.heap.size w7 (w7.alloc (.cells #[.int .u8 (c.toNat : Int)] 5)) := (Below.refl _ w7).alloc (Nat.le_refl _) _
  have o8 := (o6.below b7 (Nat.le_refl _)).below b78 (Nat.le_refl _)
  obtain ⟨ax9, cx9, w9, hap9, o9, b9⟩ := run_app (w7.alloc (.cells #[.int .u8 (c.toNat : Int)] 5)) w3.heap.size 22 _ _ _ _ o8 (some ⟨w7.heap.size, 0, none⟩) 1 1 [c] (isB_new w7 [c] 5 (0, 0)) (by intro h; cases h) (by omega) (by have := b37.size; simp; omega)
  have b39 : Below w3.heap.size w3 w9 := (b37.trans (b78.mono b37.size)).trans b9
  have B9 : Below w.heap.size w w9 := B3.trans (b39.mono B3.size)
  go_wp2_with (at_builtin; refine wpList_app hap9 _ _ rfl rfl rfl rfl rfl ?_)
  clear hap9 hx85
  have lz : (List.replicate z 0 ++ xs).length ≤ maxLen := by rw [← o3.1]; unfold maxLen; omega
  have lxs : xs.length ≤ maxLen := by rw [← h1.1]; unfold maxLen; omega
  have iz9 := o3.isB.1.below b39 (Nat.le_refl _)
  refine (eight_calls _ _ _ _ lz _ iz9 b39.size).mono ?_
  rintro e w10 ⟨rfl, b10⟩
  rw [eight_lead]
  have B10 : Below w.heap.size w w10 := B9.trans (b10.mono B9.size)
  have b310 : Below w3.heap.size w3 w10 := b39.trans (b10.mono b39.size)
  go_wp2_with fail
  refine (eight_calls _ _ _ _ lxs _ (h1.below B10 (Nat.le_refl _)) B10.size).mono ?_
  rintro e w11 ⟨rfl, b11⟩
  have B11 : Below w.heap.size w w11 := B10.trans (b11.mono B10.size)
  have b311 : Below w3.heap.size w3 w11 := b310.trans (b11.mono b310.size)
  go_wp2_with fail
  refine (ten_calls _ _ _ _ lz _ (o3.isB.1.below b311 (Nat.le_refl _)) b311.size).mono ?_
  rintro e w12 ⟨rfl, b12⟩
  rw [ten_lead]
  have B12 : Below w.heap.size w w12 := B11.trans (b12.mono B11.size)
  have b312 : Below w3.heap.size w3 w12 := b311.trans (b12.mono b311.size)
  go_wp2_with fail
  refine (ten_calls _ _ _ _ lxs _ (h1.below B12 (Nat.le_refl _)) B12.size).mono ?_
  rintro e w13 ⟨rfl, b13⟩
  have B13 : Below w.heap.size w w13 := B12.trans (b13.mono B12.size)
  have b313 : Below w3.heap.size w3 w13 := b312.trans (b13.mono b312.size)
  have b913 : Below w9.heap.size w9 w13 := ((b10.trans (b11.mono b10.size)).trans (b12.mono (Nat.le_trans b10.size b11.size))).trans (b13.mono (Nat.le_trans (Nat.le_trans b10.size b11.size) b12.size))
  go_wp2_with fail
  have lx9 : (xs ++ bs ++ [c]).length ≤ maxLen := by rw [← o9.1]; unfold maxLen; omega
  refine (eight_calls _ _ _ _ lx9 _ (o9.isB.1.below b913 (Nat.le_refl _)) b913.size).mono ?_
  rintro e w14 ⟨rfl, b14⟩
  rw [eight_self _ _ HC.out]
  have B14 : Below w.heap.size w w14 := B13.trans (b14.mono B13.size)
  have b314 : Below w3.heap.size w3 w14 := b313.trans (b14.mono b313.size)
  have b15 : Below w14.heap.size w14 (w14.alloc (.cells #[] 5)) := (Below.refl _ w14).alloc (Nat.le_refl _) _
  have b315 := b314.trans (b15.mono b314.size)
  obtain ⟨a16, c16, w16, hap16, o16, b16⟩ := run_app (w14.alloc (.cells #[] 5)) w14.heap.size 22 _ 0 0 _ (ownB_new w14.heap.size w14 (Nat.le_refl _)) az (z + len1) cz _ (o3.isB.1.below b315 (Nat.le_refl _)) o3.isB.2.1 (by omega) (by simp)
  simp only [Nat.zero_add, List.nil_append] at hap16 o16
  have b1416 := b15.trans b16
  have B16 : Below w.heap.size w w16 := B14.trans (b1416.mono B14.size)
  go_wp2_with (at_builtin; refine wpList_app hap16 _ _ rfl rfl rfl rfl rfl ?_)
  refine (eight_calls _ _ _ _ lxs _ (h1.below B16 (Nat.le_refl _)) B16.size).mono ?_
  rintro e w17 ⟨rfl, b17⟩
  have B17 : Below w.heap.size w w17 := B16.trans (b17.mono B16.size)
  obtain ⟨c2, hc2⟩ : ∃ c : UInt8, c.toNat = eightN xs := ⟨UInt8.ofNat _, ofNat_toNat_lt (eightN_lt _)⟩
  rw [← hc2]
  have HC2 : Hid (c2.toNat = eightN xs) := hc2
  clear hc2 hap16
  have b18 : Below w17.heap.size w17 (w17.alloc (.cells #[.int .u8 (c2.toNat : Int)] 5)) := (Below.refl _ w17).alloc (Nat.le_refl _) _
  have B18 := B17.trans (b18.mono B17.size)
  have o18 := (o16.below b17 (Nat.le_refl _)).below b18 (Nat.le_refl _)
  obtain ⟨a19, c19, w19, hap19, o19, b19⟩ := run_app (w17.alloc (.cells #[.int .u8 (c2.toNat : Int)] 5)) w14.heap.size 22 _ _ _ _ o18 (some ⟨w17.heap.size, 0, none⟩) 1 1 [c2] (isB_new w17 [c2] 5 (0, 0)) (by intro h; cases h) (by omega) (by have := b1416.size; have := b17.size; simp; omega)
  have B19 := B18.trans (b19.mono B14.size)
  go_wp2_with (at_builtin; refine wpList_app hap19 _ _ rfl rfl rfl rfl rfl ?_)
  have lz9 : (List.replicate z 0 ++ xs ++ [c2]).length ≤ maxLen := by rw [← o19.1]; unfold maxLen; omega
  refine (syndrome_calls _ _ _ _ o19.isB.2.2 lz9 _ o19.isB.1 (Nat.le_refl _)).mono ?_
  rintro e w20 ⟨rfl, b20⟩
  rw [syn_self _ xs c2 (eight_lead z xs) HC2.out]
  go_wp2
  go_ret
  exact ⟨rfl, B19.trans (b20.mono B19.size)⟩
end Go.Proofs.Ytkcbbkjdljmeoaa
