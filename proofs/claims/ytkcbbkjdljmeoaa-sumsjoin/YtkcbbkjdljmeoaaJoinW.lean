/- Proved here: the walk of SumsJoin. Conditions: as each theorem states them. -/
import Derived.Test.YtkcbbkjdljmeoaaApp
import Derived.Test.YtkcbbkjdljmeoaaMathB
namespace Go.Proofs.Ytkcbbkjdljmeoaa
open Go.RowKit

/-! ### Plain -/
def xor3 (xs ys zs : List UInt8) : List UInt8 := List.zipWith (fun x p => x ^^^ p) xs (List.zipWith (fun y z => y ^^^ z) ys zs)
theorem xor3_length (xs ys zs : List UInt8) (h1 : ys.length = xs.length) (h2 : zs.length = xs.length) : (xor3 xs ys zs).length = xs.length := by simp [xor3]; omega
theorem xor3_get (xs ys zs : List UInt8) (k : Nat) (x y z : UInt8) (hx : xs[k]? = some x) (hy : ys[k]? = some y) (hz : zs[k]? = some z) : (xor3 xs ys zs)[k]? = some (x ^^^ (y ^^^ z)) := by
  simp [xor3, List.getElem?_zipWith, hx, hy, hz]

theorem zipx_append (a b c d : List Bool) (h : a.length = c.length) : zipx (a ++ b) (c ++ d) = zipx a c ++ zipx b d := by
  unfold zipx; exact List.zipWith_append h
theorem bitsUpto_xor (x y j : Nat) : bitsUpto (x ^^^ y) j = zipx (bitsUpto x j) (bitsUpto y j) := by
  apply List.ext_getElem?
  intro i
  simp only [bitsUpto, zipx, List.getElem?_zipWith, List.getElem?_map]
  by_cases h : i < j
  · simp [h]
  · simp [h]
theorem bitsOf_xor : ∀ (xs ys : List UInt8), xs.length = ys.length → bitsOf (List.zipWith (fun x y => x ^^^ y) xs ys) = zipx (bitsOf xs) (bitsOf ys)
  | [], [], _ => rfl
  | x :: xs, y :: ys, h => by
    rw [List.zipWith_cons_cons, bitsOf_cons, bitsOf_cons, bitsOf_cons, bitsOf_xor xs ys (by simpa using h), zipx_append _ _ _ _ (by simp [bitsUpto_length]), UInt8.toNat_xor, bitsUpto_xor]

theorem feed_xor3 (gen deg r : Nat) (h1 : 1 ≤ deg) (hd : deg ≤ 32) (hg : gen < 2 ^ deg) (hr : r < 2 ^ deg) (xs ys zs : List UInt8) (ly : ys.length = xs.length) (lz : zs.length = xs.length) :
    feedN gen deg r (bitsOf (xor3 xs ys zs)) = feedN gen deg r (bitsOf xs) ^^^ feedN gen deg r (bitsOf ys) ^^^ feedN gen deg r (bitsOf zs) := by
  unfold xor3
  rw [bitsOf_xor _ _ (by simp; omega), bitsOf_xor _ _ (by omega)]
  have e : r = r ^^^ (r ^^^ r) := by simp
  conv => lhs; rw [e]
  rw [feed_xor gen deg h1 hd hg _ _ _ _ (by simp [zipx, bitsOf_length]; omega) hr (by rw [Nat.xor_self]; exact Nat.two_pow_pos _), feed_xor gen deg h1 hd hg _ _ _ _ (by simp [bitsOf_length]; omega) hr hr, Nat.xor_assoc]

theorem eight_xor3 (xs ys zs : List UInt8) (ly : ys.length = xs.length) (lz : zs.length = xs.length) : eightN (xor3 xs ys zs) = eightN xs ^^^ eightN ys ^^^ eightN zs := by
  unfold eightN
  rw [feed_xor3 7 8 0 (by decide) (by decide) (by decide) (by decide) xs ys zs ly lz]
  generalize feedN 7 8 0 (bitsOf xs) = a
  generalize feedN 7 8 0 (bitsOf ys) = b
  generalize feedN 7 8 0 (bitsOf zs) = c
  apply Nat.eq_of_testBit_eq; intro j
  simp only [Nat.testBit_xor]
  generalize a.testBit j = p; generalize b.testBit j = q; generalize c.testBit j = s; generalize (85 : Nat).testBit j = t
  revert p q s t; decide
theorem ten_xor3 (xs ys zs : List UInt8) (ly : ys.length = xs.length) (lz : zs.length = xs.length) : tenN (xor3 xs ys zs) = tenN xs ^^^ tenN ys ^^^ tenN zs :=
  feed_xor3 563 10 0 (by decide) (by decide) (by decide) (by decide) xs ys zs ly lz
theorem long_xor3 (xs ys zs : List UInt8) (ly : ys.length = xs.length) (lz : zs.length = xs.length) : longN (xor3 xs ys zs) = longN xs ^^^ longN ys ^^^ longN zs := by
  unfold longN
  rw [feed_xor3 79764919 32 4294967295 (by decide) (by decide) (by decide) (by decide) xs ys zs ly lz]
  generalize feedN 79764919 32 4294967295 (bitsOf xs) = a
  generalize feedN 79764919 32 4294967295 (bitsOf ys) = b
  generalize feedN 79764919 32 4294967295 (bitsOf zs) = c
  apply Nat.eq_of_testBit_eq; intro j
  simp only [Nat.testBit_xor]
  generalize a.testBit j = p; generalize b.testBit j = q; generalize c.testBit j = s; generalize (4294967295 : Nat).testBit j = t
  revert p q s t; decide

/-- The first k of t, the rest of s. -/
def mix (s t : List UInt8) (k : Nat) : List UInt8 := t.take k ++ s.drop k
theorem mix_zero (s t : List UInt8) : mix s t 0 = s := by simp [mix]
theorem mix_all (s t : List UInt8) (h : t.length = s.length) : mix s t s.length = t := by simp [mix, ← h]
theorem mix_get (s t : List UInt8) (k : Nat) (h : t.length = s.length) (hk : k < s.length) : (mix s t k)[k]? = s[k]? := by
  rw [mix, List.getElem?_append_right (by simp; omega)]; simp [show min k t.length = k from by omega]
theorem mix_set (s t : List UInt8) (k : Nat) (h : t.length = s.length) (y : UInt8) (hy : t[k]? = some y) : (mix s t k).set k y = mix s t (k + 1) := by
  have hk : k < t.length := (List.getElem?_eq_some_iff.1 hy).1
  unfold mix
  rw [List.set_append_right _ _ (by simp; omega), List.take_add_one, hy]
  have e : (List.drop k s).set (k - (List.take k t).length) y = y :: List.drop (k + 1) s := by
    rw [List.length_take, show k - min k t.length = 0 from by omega, List.drop_eq_getElem_cons (show k < s.length by omega)]; rfl
  rw [e]; simp

/-! ### A store into a row of the call's own -/
theorem OwnB.block {base : Nat} {w : World} {a : Option Addr} {n c : Nat} {zs : List UInt8} (h : OwnB base w a n c zs) (hn : 0 < n) :
    ∃ g cur, a = some ⟨g, 0, none⟩ ∧ base ≤ g ∧ g < w.heap.size ∧ w.heap[g]? = some (.cells cur 5 (0, 0)) := by
  obtain ⟨_, _, h⟩ := h
  rcases h with ⟨e, h0⟩ | ⟨g, cap, cur, e, hg, hh, _⟩
  · omega
  · simp only [Value.slice.injEq] at e
    exact ⟨g, cur, e.1, hg, (Array.getElem?_eq_some_iff.1 hh).1, hh⟩
theorem frozen_of_block {w : World} {g k : Nat} {cur : Array Value} {t : TypeId} (hh : w.heap[g]? = some (.cells cur t (0, 0))) : w.frozen? ⟨g, k, none⟩ = false := by
  unfold World.frozen?
  rw [show w.heap[(⟨g, k, none⟩ : Addr).block]? = some (.cells cur t (0, 0)) from hh]
  simp
theorem OwnB.set {base : Nat} {w : World} {g n c : Nat} {zs : List UInt8} (h : OwnB base w (some ⟨g, 0, none⟩) n c zs) (k : Nat) (y : UInt8) :
    OwnB base (w.setCell ⟨g, k, none⟩ (.int .u8 (y.toNat : Int))) (some ⟨g, 0, none⟩) n c (zs.set k y) := by
  obtain ⟨hn, hl, h⟩ := h
  refine ⟨by simpa using hn, by simpa [vals] using hl, ?_⟩
  rcases h with ⟨e, h0⟩ | ⟨g', cap, cur, e, hg, hh, hc, hm, hsz, ht⟩
  · cases e
  · cases e
    refine .inr ⟨g, c, cur.setIfInBounds k (.int .u8 (y.toNat : Int)), rfl, hg, ?_, hc, hm, by simpa using hsz, ?_⟩
    · show (w.heap.modify g _)[g]? = _
      rw [Array.getElem?_modify, if_pos rfl, hh]; rfl
    · rw [Array.toList_setIfInBounds, List.take_set, ht]
      simp [vals, List.map_set]

set_option maxHeartbeats 2000000 in
theorem join_walk (a1 : Option Addr) (len1 cap1 : Nat) (xs : List UInt8) (a2 : Option Addr) (len2 cap2 : Nat) (ys : List UInt8) (a3 : Option Addr) (len3 cap3 : Nat) (zs : List UInt8) (w : World)
    (h1 : IsB w.heap.size w a1 len1 xs) (n1 : a1 = none → cap1 = 0) (h2 : IsB w.heap.size w a2 len2 ys) (h3 : IsB w.heap.size w a3 len3 zs) :
    Calls Try.prog 5 #[.slice a1 len1 cap1, .slice a2 len2 cap2, .slice a3 len3 cap3] w fun e w' => e = .returned (.bool true) ∧ Below w.heap.size w w' := by
  by_cases hc1 : 300 < len1
  · have q1 : decide (300 < (len1 : Int)) = true := by simp; omega
    clear hc1
    go_enter Try.func5, Try.ntmps5
    go_wp2_with fail
    refine (awake_calls _).mono ?_
    rintro e w1 ⟨rfl, hb1⟩
    go_wp2_with fail
    refine (awake_calls _).mono ?_
    rintro e w2 ⟨rfl, hb2⟩
    go_wp2
    go_ret
    exact ⟨rfl, hb1.trans (hb2.mono hb1.size)⟩
  have q1 : decide (300 < (len1 : Int)) = false := by simp; omega
  by_cases hc2 : len2 ≠ len1
  · have q2 : ((len2 : Int) != (len1 : Int)) = true := by rw [bne_iff_ne]; omega
    clear hc1 hc2
    go_enter Try.func5, Try.ntmps5
    go_wp2_with fail
    refine (awake_calls _).mono ?_
    rintro e w1 ⟨rfl, hb1⟩
    go_wp2_with fail
    refine (awake_calls _).mono ?_
    rintro e w2 ⟨rfl, hb2⟩
    go_wp2
    go_ret
    exact ⟨rfl, hb1.trans (hb2.mono hb1.size)⟩
  by_cases hc3 : len3 ≠ len1
  · have q2 : ((len2 : Int) != (len1 : Int)) = false := by simp; omega
    have q3 : ((len3 : Int) != (len1 : Int)) = true := by rw [bne_iff_ne]; omega
    clear hc1 hc2 hc3
    go_enter Try.func5, Try.ntmps5
    go_wp2_with fail
    refine (awake_calls _).mono ?_
    rintro e w1 ⟨rfl, hb1⟩
    go_wp2_with fail
    refine (awake_calls _).mono ?_
    rintro e w2 ⟨rfl, hb2⟩
    go_wp2
    go_ret
    exact ⟨rfl, hb1.trans (hb2.mono hb1.size)⟩
  have e2 : len2 = len1 := by omega
  have e3 : len3 = len1 := by omega
  have hl1 : len1 ≤ 300 := by omega
  clear hc1 hc2 hc3 q1
  subst e2 e3
  obtain ⟨len, hlen⟩ : ∃ len, len3 = len := ⟨_, rfl⟩
  rw [hlen] at h1 h2 h3 hl1 ⊢
  clear hlen
  have hd : decide (300 < (len : Int)) = false := by simp; omega
  have lxs := h1.1; have lys := h2.1; have lzs := h3.1
  have mxs : xs.length ≤ maxLen := by rw [← lxs]; unfold maxLen; omega
  have mys : ys.length ≤ maxLen := by rw [← lys]; unfold maxLen; omega
  have mzs : zs.length ≤ maxLen := by rw [← lzs]; unfold maxLen; omega
  obtain ⟨ts, hts⟩ : ∃ ts, xor3 xs ys zs = ts := ⟨_, rfl⟩
  have lts : ts.length = xs.length := by rw [← hts]; exact xor3_length xs ys zs (by omega) (by omega)
  have mts : ts.length ≤ maxLen := by rw [lts]; exact mxs
  have HT : Hid (∀ (k : Nat) (x y z : UInt8), xs[k]? = some x → ys[k]? = some y → zs[k]? = some z → ts[k]? = some (x ^^^ (y ^^^ z))) := by rw [← hts]; exact xor3_get xs ys zs
  have H8 : Hid (eightN ts = eightN xs ^^^ eightN ys ^^^ eightN zs) := by rw [← hts]; exact eight_xor3 xs ys zs (by omega) (by omega)
  have H10 : Hid (tenN ts = tenN xs ^^^ tenN ys ^^^ tenN zs) := by rw [← hts]; exact ten_xor3 xs ys zs (by omega) (by omega)
  have H32 : Hid (longN ts = longN xs ^^^ longN ys ^^^ longN zs) := by rw [← hts]; exact long_xor3 xs ys zs (by omega) (by omega)
  clear hts
  have Lx : Hid (len = xs.length) := lxs
  have Ly : Hid (len = ys.length) := lys
  have Lz : Hid (len = zs.length) := lzs
  have Lt : Hid (ts.length = xs.length) := lts
  clear lxs lys lzs lts
  go_enter Try.func5, Try.ntmps5
  go_wp2_with fail
  refine (awake_calls _).mono ?_
  rintro e w1 ⟨rfl, B1⟩
  have b2 : Below w1.heap.size w1 (w1.alloc (.cells #[] 5)) := (Below.refl _ w1).alloc (Nat.le_refl _) _
  have B2 := B1.trans (b2.mono B1.size)
  obtain ⟨a4, c4, w4, hap4, o4, b4⟩ := run_app (w1.alloc (.cells #[] 5)) w1.heap.size 22 _ 0 0 _ (ownB_new w1.heap.size w1 (Nat.le_refl _)) a1 _ cap1 xs (h1.below B2 (Nat.le_refl _)) n1 (by omega) (by simp)
  simp only [Nat.zero_add, List.nil_append] at hap4 o4
  have b14 := b2.trans b4
  go_wp2_with (at_builtin; refine wpList_app hap4 _ _ rfl rfl rfl rfl rfl ?_)
  clear hap4
  go_loopw [36] (fun i wr => ∃ k : Nat, k ≤ len ∧ i = .int .i64 k ∧ OwnB w1.heap.size wr a4 len c4 (mix xs ts k) ∧ Below w1.heap.size w1 wr) (fun i _ => len - (intOf i).toNat)
  case atStart => exact ⟨0, Nat.zero_le _, rfl, by rw [mix_zero]; exact o4, b14⟩
  case round =>
    obtain ⟨k, hk, rfl, ok, bk⟩ := hrel
    by_cases hlt : k < len
    · obtain ⟨x, hx⟩ : ∃ x, xs[k]? = some x := ⟨xs[k]'(by rw [← Lx.out]; exact hlt), by rw [List.getElem?_eq_getElem]⟩
      obtain ⟨y, hy⟩ : ∃ x, ys[k]? = some x := ⟨ys[k]'(by rw [← Ly.out]; exact hlt), by rw [List.getElem?_eq_getElem]⟩
      obtain ⟨z, hz⟩ : ∃ x, zs[k]? = some x := ⟨zs[k]'(by rw [← Lz.out]; exact hlt), by rw [List.getElem?_eq_getElem]⟩
      have hm : (mix xs ts k)[k]? = some x := by rw [mix_get xs ts k Lt.out (by rw [← Lx.out]; exact hlt)]; exact hx
      have hset := mix_set xs ts k Lt.out _ (HT.out k x y z hx hy hz)
      obtain ⟨g, cur, rfl, hg, hgs, hcur⟩ := ok.block (by omega)
      have fz := frozen_of_block (k := k) hcur
      have cs : wr.cell? ⟨g, k, none⟩ = some (.int .u8 (x.toNat : Int)) := by
        obtain ⟨b, off, e, _, hc⟩ := ok.isB.1.cell hm
        cases e
        have := hc k x hm
        rwa [Nat.zero_add] at this
      have Bk := B1.trans (bk.mono B1.size)
      obtain ⟨b2, off2, rfl, hb2, hc2⟩ := (h2.below Bk (Nat.le_refl _)).cell hy
      have cy := hc2 k y hy
      obtain ⟨b3, off3, rfl, hb3, hc3⟩ := (h3.below Bk (Nat.le_refl _)).cell hz
      have cz := hc3 k z hz
      have xyz : bits .xor .u8 (y.toNat : Int) (z.toNat : Int) = ((y ^^^ z).toNat : Int) := by rw [u8_xor_nat _ _ y.toNat_lt z.toNat_lt, UInt8.toNat_xor]
      have xx : bits .xor .u8 (x.toNat : Int) ((y ^^^ z).toNat : Int) = ((x ^^^ (y ^^^ z)).toNat : Int) := by rw [u8_xor_nat _ _ x.toNat_lt (y ^^^ z).toNat_lt, UInt8.toNat_xor x]
      have oset := ok.set k (x ^^^ (y ^^^ z))
      rw [hset] at oset
      generalize (x ^^^ (y ^^^ z)) = v at *
      generalize (y ^^^ z) = u at *
      have OS : Hid (OwnB w1.heap.size (wr.setCell ⟨g, k, none⟩ (.int .u8 (v.toNat : Int))) (some ⟨g, 0, none⟩) len c4 (mix xs ts (k + 1))) := oset
      clear hset oset hc2 hc3 hcur hm hx hy hz
      go_wp2
      go_region
      go_wp2
      go_roundw
      case rel => exact ⟨k + 1, by omega, by go_num, OS.out.below ((Below.refl _ _).drew) (Nat.le_refl _), (bk.setCell (p := ⟨g, k, none⟩) hg _).drew⟩
      case measure => simp [intOf]; omega
    · obtain rfl : k = len := by omega
      have Bk := B1.trans (bk.mono B1.size)
      have ot : OwnB w1.heap.size wr a4 k c4 ts := by
        have e := mix_all xs ts Lt.out
        rw [← Lx.out] at e
        rwa [e] at ok
      clear ok
      have l8 := eightN_lt xs; have l8' := eightN_lt ys; have l8'' := eightN_lt zs
      have l10 := tenN_lt xs; have l10' := tenN_lt ys; have l10'' := tenN_lt zs
      have l32 := longN_lt xs; have l32' := longN_lt ys; have l32'' := longN_lt zs
      have x8 : bits .xor .u8 ((eightN xs : Nat) : Int) ((eightN ys : Nat) : Int) = ((eightN xs ^^^ eightN ys : Nat) : Int) := u8_xor_nat _ _ l8 l8'
      have y8 : bits .xor .u8 ((eightN xs ^^^ eightN ys : Nat) : Int) ((eightN zs : Nat) : Int) = ((eightN ts : Nat) : Int) := by rw [H8.out]; exact u8_xor_nat _ _ (Nat.xor_lt_two_pow (n := 8) l8 l8') l8''
      have x10 : bits .xor .u16 ((tenN xs : Nat) : Int) ((tenN ys : Nat) : Int) = ((tenN xs ^^^ tenN ys : Nat) : Int) := u16_xor_nat _ _ (by omega) (by omega)
      have y10 : bits .xor .u16 ((tenN xs ^^^ tenN ys : Nat) : Int) ((tenN zs : Nat) : Int) = ((tenN ts : Nat) : Int) := by
        rw [H10.out]; exact u16_xor_nat _ _ (Nat.xor_lt_two_pow (n := 16) (by omega) (by omega)) (by omega)
      have x32 : bits .xor .u32 ((longN xs : Nat) : Int) ((longN ys : Nat) : Int) = ((longN xs ^^^ longN ys : Nat) : Int) := u32_xor_nat _ _ l32 l32'
      have y32 : bits .xor .u32 ((longN xs ^^^ longN ys : Nat) : Int) ((longN zs : Nat) : Int) = ((longN ts : Nat) : Int) := by rw [H32.out]; exact u32_xor_nat _ _ (Nat.xor_lt_two_pow (n := 32) l32 l32') l32''
      clear H8 H10 H32 l8 l8' l8'' l10 l10' l10'' l32 l32' l32''
      generalize (eightN xs ^^^ eightN ys) = p8 at *
      generalize (tenN xs ^^^ tenN ys) = p10 at *
      generalize (longN xs ^^^ longN ys) = p32 at *
      go_wp2_with fail
      refine (eight_calls _ _ _ _ mts _ ot.isB.1 (Nat.le_refl _)).mono ?_
      rintro e u1 ⟨rfl, d1⟩
      have D1 := Bk.trans (d1.mono Bk.size)
      go_wp2_with fail
      refine (eight_calls _ _ _ _ mxs _ (h1.below D1 (Nat.le_refl _)) D1.size).mono ?_
      rintro e u2 ⟨rfl, d2⟩
      have D2 := D1.trans (d2.mono D1.size)
      go_wp2_with fail
      refine (eight_calls _ _ _ _ mys _ (h2.below D2 (Nat.le_refl _)) D2.size).mono ?_
      rintro e u3 ⟨rfl, d3⟩
      have D3 := D2.trans (d3.mono D2.size)
      go_wp2_with fail
      refine (eight_calls _ _ _ _ mzs _ (h3.below D3 (Nat.le_refl _)) D3.size).mono ?_
      rintro e u4 ⟨rfl, d4⟩
      have D4 := D3.trans (d4.mono D3.size)
      have f4 : Below wr.heap.size wr u4 := d1.trans ((d2.trans ((d3.trans (d4.mono d3.size)).mono d2.size)).mono d1.size)
      go_wp2_with fail
      refine (ten_calls _ _ _ _ mts _ (ot.isB.1.below f4 (Nat.le_refl _)) f4.size).mono ?_
      rintro e u5 ⟨rfl, d5⟩
      have D5 := D4.trans (d5.mono D4.size)
      have f5 := f4.trans (d5.mono f4.size)
      go_wp2_with fail
      refine (ten_calls _ _ _ _ mxs _ (h1.below D5 (Nat.le_refl _)) D5.size).mono ?_
      rintro e u6 ⟨rfl, d6⟩
      have D6 := D5.trans (d6.mono D5.size)
      have f6 := f5.trans (d6.mono f5.size)
      go_wp2_with fail
      refine (ten_calls _ _ _ _ mys _ (h2.below D6 (Nat.le_refl _)) D6.size).mono ?_
      rintro e u7 ⟨rfl, d7⟩
      have D7 := D6.trans (d7.mono D6.size)
      have f7 := f6.trans (d7.mono f6.size)
      go_wp2_with fail
      refine (ten_calls _ _ _ _ mzs _ (h3.below D7 (Nat.le_refl _)) D7.size).mono ?_
      rintro e u8 ⟨rfl, d8⟩
      have D8 := D7.trans (d8.mono D7.size)
      have f8 := f7.trans (d8.mono f7.size)
      go_wp2_with fail
      refine (long_calls _ _ _ _ mts _ (ot.isB.1.below f8 (Nat.le_refl _)) f8.size).mono ?_
      rintro e u9 ⟨rfl, d9⟩
      have D9 := D8.trans (d9.mono D8.size)
      go_wp2_with fail
      refine (long_calls _ _ _ _ mxs _ (h1.below D9 (Nat.le_refl _)) D9.size).mono ?_
      rintro e u10 ⟨rfl, d10⟩
      have D10 := D9.trans (d10.mono D9.size)
      go_wp2_with fail
      refine (long_calls _ _ _ _ mys _ (h2.below D10 (Nat.le_refl _)) D10.size).mono ?_
      rintro e u11 ⟨rfl, d11⟩
      have D11 := D10.trans (d11.mono D10.size)
      go_wp2_with fail
      refine (long_calls _ _ _ _ mzs _ (h3.below D11 (Nat.le_refl _)) D11.size).mono ?_
      rintro e u12 ⟨rfl, d12⟩
      go_wp2
      go_ret
      exact ⟨rfl, D11.trans (d12.mono D11.size)⟩
end Go.Proofs.Ytkcbbkjdljmeoaa
