/- Proved here: the walk of SumsJoin. Conditions: as each theorem states them. -/
import Derived.Test.YtkcbbkjdljmeoaaApp
import Derived.Test.YtkcbbkjdljmeoaaMathC
namespace Go.Proofs.Ytkcbbkjdljmeoaa
open Go.RowKit

/-- The first k of t, the rest of s. -/
def mix (s t : List UInt8) (k : Nat) : List UInt8 := t.take k ++ s.drop k
theorem mix_zero (s t : List UInt8) : mix s t 0 = s := by simp [mix]
theorem mix_all (s t : List UInt8) (h : t.length = s.length) : mix s t s.length = t := by simp [mix, ← h]
theorem mix_get (s t : List UInt8) (k : Nat) (h : t.length = s.length) (hk : k < s.length) : (mix s t k)[k]? = s[k]? := by
  rw [mix, List.getElem?_append_right (by simp; omega)]; simp [show min k t.length = k from by omega]
theorem mix_set (s t : List UInt8) (k : Nat) (h : t.length = s.length) (y : UInt8) (hy : t[k]? = some y) : (mix s t k).set k y = mix s t (k + 1) := by
  have hk : k < t.length := (List.getElem?_eq_some_iff.1 hy).1
  unfold mix
  rw [List.set_append_right _ _ (by simp; omega), List.take_add_one, hy]
  have e : (List.drop k s).set (k - (List.take k t).length) y = y :: List.drop (k + 1) s := by
    rw [List.length_take, show k - min k t.length = 0 from by omega, List.drop_eq_getElem_cons (show k < s.length by omega)]; rfl
  rw [e]; simp

set_option maxHeartbeats 2000000 in
theorem join_walk (a1 : Option Addr) (len1 cap1 : Nat) (xs : List UInt8) (a2 : Option Addr) (len2 cap2 : Nat) (ys : List UInt8) (a3 : Option Addr) (len3 cap3 : Nat) (zs : List UInt8) (w : World)
    (h1 : IsB w.heap.size w a1 len1 xs) (n1 : a1 = none → cap1 = 0) (h2 : IsB w.heap.size w a2 len2 ys) (h3 : IsB w.heap.size w a3 len3 zs) :
    Calls Try.prog 5 #[.slice a1 len1 cap1, .slice a2 len2 cap2, .slice a3 len3 cap3] w fun e w' => e = .returned (.bool true) ∧ Below w.heap.size w w' := by
  by_cases hc1 : 300 < len1
  · have q1 : decide (300 < (len1 : Int)) = true := by simp; omega
    clear hc1
    go_enter Try.func5, Try.ntmps5
    go_wp2_with fail
    refine (awake_calls _).mono ?_
    rintro e w1 ⟨rfl, hb1⟩
    go_wp2_with fail
    refine (awake_calls _).mono ?_
    rintro e w2 ⟨rfl, hb2⟩
    go_wp2
    go_ret
    exact ⟨rfl, hb1.trans (hb2.mono hb1.size)⟩
  have q1 : decide (300 < (len1 : Int)) = false := by simp; omega
  by_cases hc2 : len2 ≠ len1
  · have q2 : ((len2 : Int) != (len1 : Int)) = true := by rw [bne_iff_ne]; omega
    clear hc1 hc2
    go_enter Try.func5, Try.ntmps5
    go_wp2_with fail
    refine (awake_calls _).mono ?_
    rintro e w1 ⟨rfl, hb1⟩
    go_wp2_with fail
    refine (awake_calls _).mono ?_
    rintro e w2 ⟨rfl, hb2⟩
    go_wp2
    go_ret
    exact ⟨rfl, hb1.trans (hb2.mono hb1.size)⟩
  by_cases hc3 : len3 ≠ len1
  · have q2 : ((len2 : Int) != (len1 : Int)) = false := by simp; omega
    have q3 : ((len3 : Int) != (len1 : Int)) = true := by rw [bne_iff_ne]; omega
    clear hc1 hc2 hc3
    go_enter Try.func5, Try.ntmps5
    go_wp2_with fail
    refine (awake_calls _).mono ?_
    rintro e w1 ⟨rfl, hb1⟩
    go_wp2_with fail
    refine (awake_calls _).mono ?_
    rintro e w2 ⟨rfl, hb2⟩
    go_wp2
    go_ret
    exact ⟨rfl, hb1.trans (hb2.mono hb1.size)⟩
  have e2 : len2 = len1 := by omega
  have e3 : len3 = len1 := by omega
  have hl1 : len1 ≤ 300 := by omega
  clear hc1 hc2 hc3 q1
  subst e2 e3
  obtain ⟨len, hlen⟩ : ∃ len, len3 = len := ⟨_, rfl⟩
  rw [hlen] at h1 h2 h3 hl1 ⊢
  clear hlen
  have hd : decide (300 < (len : Int)) = false := by simp; omega
  have lxs := h1.1; have lys := h2.1; have lzs := h3.1
  have mxs : xs.length ≤ maxLen := by rw [← lxs]; unfold maxLen; omega
  have mys : ys.length ≤ maxLen := by rw [← lys]; unfold maxLen; omega
  have mzs : zs.length ≤ maxLen := by rw [← lzs]; unfold maxLen; omega
  obtain ⟨ts, hts⟩ : ∃ ts, xor3 xs ys zs = ts := ⟨_, rfl⟩
  have lts : ts.length = xs.length := by rw [← hts]; exact xor3_length xs ys zs (by omega) (by omega)
  have mts : ts.length ≤ maxLen := by rw [lts]; exact mxs
  have HT : Hid (∀ (k : Nat) (x y z : UInt8), xs[k]? = some x → ys[k]? = some y → zs[k]? = some z → ts[k]? = some (x ^^^ (y ^^^ z))) := by rw [← hts]; exact xor3_get xs ys zs
  have H8 : Hid (eightN ts = eightN xs ^^^ eightN ys ^^^ eightN zs) := by rw [← hts]; exact eight_xor3 xs ys zs (by omega) (by omega)
  have H10 : Hid (tenN ts = tenN xs ^^^ tenN ys ^^^ tenN zs) := by rw [← hts]; exact ten_xor3 xs ys zs (by omega) (by omega)
  have H32 : Hid (longN ts = longN xs ^^^ longN ys ^^^ longN zs) := by rw [← hts]; exact long_xor3 xs ys zs (by omega) (by omega)
  clear hts
  have Lx : Hid (len = xs.length) := lxs
  have Ly : Hid (len = ys.length) := lys
  have Lz : Hid (len = zs.length) := lzs
  have Lt : Hid (ts.length = xs.length) := lts
  clear lxs lys lzs lts
  go_enter Try.func5, Try.ntmps5
  go_wp2_with fail
  refine (awake_calls _).mono ?_
  rintro e w1 ⟨rfl, B1⟩
  have b2 : Below w1.heap.size w1 (w1.alloc (.cells #[] 5)) := (Below.refl _ w1).alloc (Nat.le_refl _) _
  have B2 := B1.trans (b2.mono B1.size)
  obtain ⟨a4, c4, w4, hap4, o4, b4⟩ := run_app (w1.alloc (.cells #[] 5)) w1.heap.size 22 _ 0 0 _ (ownB_new w1.heap.size w1 (Nat.le_refl _)) a1 _ cap1 xs (h1.below B2 (Nat.le_refl _)) n1 (by omega) (by simp)
  simp only [Nat.zero_add, List.nil_append] at hap4 o4
  have b14 := b2.trans b4
  go_wp2_with (at_builtin; refine wpList_app hap4 _ _ rfl rfl rfl rfl rfl ?_)
  clear hap4
  go_loopw [36] (fun i wr => ∃ k : Nat, k ≤ len ∧ i = .int .i64 k ∧ OwnB w1.heap.size wr a4 len c4 (mix xs ts k) ∧ Below w1.heap.size w1 wr) (fun i _ => len - (intOf i).toNat)
  case atStart => exact ⟨0, Nat.zero_le _, rfl, by rw [mix_zero]; exact o4, b14⟩
  case round =>
    obtain ⟨k, hk, rfl, ok, bk⟩ := hrel
    by_cases hlt : k < len
    · obtain ⟨x, hx⟩ : ∃ x, xs[k]? = some x := ⟨xs[k]'(by rw [← Lx.out]; exact hlt), by rw [List.getElem?_eq_getElem]⟩
      obtain ⟨y, hy⟩ : ∃ x, ys[k]? = some x := ⟨ys[k]'(by rw [← Ly.out]; exact hlt), by rw [List.getElem?_eq_getElem]⟩
      obtain ⟨z, hz⟩ : ∃ x, zs[k]? = some x := ⟨zs[k]'(by rw [← Lz.out]; exact hlt), by rw [List.getElem?_eq_getElem]⟩
      have hm : (mix xs ts k)[k]? = some x := by rw [mix_get xs ts k Lt.out (by rw [← Lx.out]; exact hlt)]; exact hx
      have hset := mix_set xs ts k Lt.out _ (HT.out k x y z hx hy hz)
      obtain ⟨g, cur, rfl, hg, hgs, hcur⟩ := ok.block (by omega)
      have fz := frozen_of_block (k := k) hcur
      have cs : wr.cell? ⟨g, k, none⟩ = some (.int .u8 (x.toNat : Int)) := by
        obtain ⟨b, off, e, _, hc⟩ := ok.isB.1.cell hm
        cases e
        have := hc k x hm
        rwa [Nat.zero_add] at this
      have Bk := B1.trans (bk.mono B1.size)
      obtain ⟨b2, off2, rfl, hb2, hc2⟩ := (h2.below Bk (Nat.le_refl _)).cell hy
      have cy := hc2 k y hy
      obtain ⟨b3, off3, rfl, hb3, hc3⟩ := (h3.below Bk (Nat.le_refl _)).cell hz
      have cz := hc3 k z hz
      have xyz : bits .xor .u8 (y.toNat : Int) (z.toNat : Int) = ((y ^^^ z).toNat : Int) := by rw [u8_xor_nat _ _ y.toNat_lt z.toNat_lt, UInt8.toNat_xor]
      have xx : bits .xor .u8 (x.toNat : Int) ((y ^^^ z).toNat : Int) = ((x ^^^ (y ^^^ z)).toNat : Int) := by rw [u8_xor_nat _ _ x.toNat_lt (y ^^^ z).toNat_lt, UInt8.toNat_xor x]
      have oset := ok.set k (x ^^^ (y ^^^ z))
      rw [hset] at oset
      generalize (x ^^^ (y ^^^ z)) = v at *
      generalize (y ^^^ z) = u at *
      have OS : Hid (OwnB w1.heap.size (wr.setCell ⟨g, k, none⟩ (.int .u8 (v.toNat : Int))) (some ⟨g, 0, none⟩) len c4 (mix xs ts (k + 1))) := oset
      clear hset oset hc2 hc3 hcur hm hx hy hz
      go_wp2
      go_region
      go_wp2
      go_roundw
      case rel => exact ⟨k + 1, by omega, by go_num, OS.out.below ((Below.refl _ _).drew) (Nat.le_refl _), (bk.setCell (p := ⟨g, k, none⟩) hg _).drew⟩
      case measure => simp [intOf]; omega
    · obtain rfl : k = len := by omega
      have Bk := B1.trans (bk.mono B1.size)
      have ot : OwnB w1.heap.size wr a4 k c4 ts := by
        have e := mix_all xs ts Lt.out
        rw [← Lx.out] at e
        rwa [e] at ok
      clear ok
      have l8 := eightN_lt xs; have l8' := eightN_lt ys; have l8'' := eightN_lt zs
      have l10 := tenN_lt xs; have l10' := tenN_lt ys; have l10'' := tenN_lt zs
      have l32 := longN_lt xs; have l32' := longN_lt ys; have l32'' := longN_lt zs
      have x8 : bits .xor .u8 ((eightN xs : Nat) : Int) ((eightN ys : Nat) : Int) = ((eightN xs ^^^ eightN ys : Nat) : Int) := u8_xor_nat _ _ l8 l8'
      have y8 : bits .xor .u8 ((eightN xs ^^^ eightN ys : Nat) : Int) ((eightN zs : Nat) : Int) = ((eightN ts : Nat) : Int) := by rw [H8.out]; exact u8_xor_nat _ _ (Nat.xor_lt_two_pow (n := 8) l8 l8') l8''
      have x10 : bits .xor .u16 ((tenN xs : Nat) : Int) ((tenN ys : Nat) : Int) = ((tenN xs ^^^ tenN ys : Nat) : Int) := u16_xor_nat _ _ (by omega) (by omega)
      have y10 : bits .xor .u16 ((tenN xs ^^^ tenN ys : Nat) : Int) ((tenN zs : Nat) : Int) = ((tenN ts : Nat) : Int) := by
        rw [H10.out]; exact u16_xor_nat _ _ (Nat.xor_lt_two_pow (n := 16) (by omega) (by omega)) (by omega)
      have x32 : bits .xor .u32 ((longN xs : Nat) : Int) ((longN ys : Nat) : Int) = ((longN xs ^^^ longN ys : Nat) : Int) := u32_xor_nat _ _ l32 l32'
      have y32 : bits .xor .u32 ((longN xs ^^^ longN ys : Nat) : Int) ((longN zs : Nat) : Int) = ((longN ts : Nat) : Int) := by rw [H32.out]; exact u32_xor_nat _ _ (Nat.xor_lt_two_pow (n := 32) l32 l32') l32''
      clear H8 H10 H32 l8 l8' l8'' l10 l10' l10'' l32 l32' l32''
      generalize (eightN xs ^^^ eightN ys) = p8 at *
      generalize (tenN xs ^^^ tenN ys) = p10 at *
      generalize (longN xs ^^^ longN ys) = p32 at *
      go_wp2_with fail
      refine (eight_calls _ _ _ _ mts _ ot.isB.1 (Nat.le_refl _)).mono ?_
      rintro e u1 ⟨rfl, d1⟩
      have D1 := Bk.trans (d1.mono Bk.size)
      go_wp2_with fail
      refine (eight_calls _ _ _ _ mxs _ (h1.below D1 (Nat.le_refl _)) D1.size).mono ?_
      rintro e u2 ⟨rfl, d2⟩
      have D2 := D1.trans (d2.mono D1.size)
      go_wp2_with fail
      refine (eight_calls _ _ _ _ mys _ (h2.below D2 (Nat.le_refl _)) D2.size).mono ?_
      rintro e u3 ⟨rfl, d3⟩
      have D3 := D2.trans (d3.mono D2.size)
      go_wp2_with fail
      refine (eight_calls _ _ _ _ mzs _ (h3.below D3 (Nat.le_refl _)) D3.size).mono ?_
      rintro e u4 ⟨rfl, d4⟩
      have D4 := D3.trans (d4.mono D3.size)
      have f4 : Below wr.heap.size wr u4 := d1.trans ((d2.trans ((d3.trans (d4.mono d3.size)).mono d2.size)).mono d1.size)
      go_wp2_with fail
      refine (ten_calls _ _ _ _ mts _ (ot.isB.1.below f4 (Nat.le_refl _)) f4.size).mono ?_
      rintro e u5 ⟨rfl, d5⟩
      have D5 := D4.trans (d5.mono D4.size)
      have f5 := f4.trans (d5.mono f4.size)
      go_wp2_with fail
      refine (ten_calls _ _ _ _ mxs _ (h1.below D5 (Nat.le_refl _)) D5.size).mono ?_
      rintro e u6 ⟨rfl, d6⟩
      have D6 := D5.trans (d6.mono D5.size)
      have f6 := f5.trans (d6.mono f5.size)
      go_wp2_with fail
      refine (ten_calls _ _ _ _ mys _ (h2.below D6 (Nat.le_refl _)) D6.size).mono ?_
      rintro e u7 ⟨rfl, d7⟩
      have D7 := D6.trans (d7.mono D6.size)
      have f7 := f6.trans (d7.mono f6.size)
      go_wp2_with fail
      refine (ten_calls _ _ _ _ mzs _ (h3.below D7 (Nat.le_refl _)) D7.size).mono ?_
      rintro e u8 ⟨rfl, d8⟩
      have D8 := D7.trans (d8.mono D7.size)
      have f8 := f7.trans (d8.mono f7.size)
      go_wp2_with fail
      refine (long_calls _ _ _ _ mts _ (ot.isB.1.below f8 (Nat.le_refl _)) f8.size).mono ?_
      rintro e u9 ⟨rfl, d9⟩
      have D9 := D8.trans (d9.mono D8.size)
      go_wp2_with fail
      refine (long_calls _ _ _ _ mxs _ (h1.below D9 (Nat.le_refl _)) D9.size).mono ?_
      rintro e u10 ⟨rfl, d10⟩
      have D10 := D9.trans (d10.mono D9.size)
      go_wp2_with fail
      refine (long_calls _ _ _ _ mys _ (h2.below D10 (Nat.le_refl _)) D10.size).mono ?_
      rintro e u11 ⟨rfl, d11⟩
      have D11 := D10.trans (d11.mono D10.size)
      go_wp2_with fail
      refine (long_calls _ _ _ _ mzs _ (h3.below D11 (Nat.le_refl _)) D11.size).mono ?_
      rintro e u12 ⟨rfl, d12⟩
      go_wp2
      go_ret
      exact ⟨rfl, D11.trans (d12.mono D11.size)⟩
end Go.Proofs.Ytkcbbkjdljmeoaa
