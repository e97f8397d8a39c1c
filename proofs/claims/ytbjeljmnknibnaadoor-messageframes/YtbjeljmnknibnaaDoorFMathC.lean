/- Proved here: the checks of the exclusive or of three texts; which syndrome a turned bit makes. Conditions: as each theorem states them. -/
import Derived.Test.YtbjeljmnknibnaaDoorFMathB
import Derived.Test.YtbjeljmnknibnaaDoorFFlip
namespace Go.Proofs.YtbjeljmnknibnaaDoor.F
open Go.RowKit

/-! ### Plain -/
def xor3 (xs ys zs : List UInt8) : List UInt8 := List.zipWith (fun x p => x ^^^ p) xs (List.zipWith (fun y z => y ^^^ z) ys zs)
theorem xor3_length (xs ys zs : List UInt8) (h1 : ys.length = xs.length) (h2 : zs.length = xs.length) : (xor3 xs ys zs).length = xs.length := by simp [xor3]; omega
theorem xor3_get (xs ys zs : List UInt8) (k : Nat) (x y z : UInt8) (hx : xs[k]? = some x) (hy : ys[k]? = some y) (hz : zs[k]? = some z) : (xor3 xs ys zs)[k]? = some (x ^^^ (y ^^^ z)) := by
  simp [xor3, List.getElem?_zipWith, hx, hy, hz]

theorem zipx_append (a b c d : List Bool) (h : a.length = c.length) : zipx (a ++ b) (c ++ d) = zipx a c ++ zipx b d := by
  unfold zipx; exact List.zipWith_append h
theorem bitsUpto_xor (x y j : Nat) : bitsUpto (x ^^^ y) j = zipx (bitsUpto x j) (bitsUpto y j) := by
  apply List.ext_getElem?
  intro i
  simp only [bitsUpto, zipx, List.getElem?_zipWith, List.getElem?_map]
  by_cases h : i < j
  · simp [h]
  · simp [h]
theorem bitsOf_xor : ∀ (xs ys : List UInt8), xs.length = ys.length → bitsOf (List.zipWith (fun x y => x ^^^ y) xs ys) = zipx (bitsOf xs) (bitsOf ys)
  | [], [], _ => rfl
  | x :: xs, y :: ys, h => by
    rw [List.zipWith_cons_cons, bitsOf_cons, bitsOf_cons, bitsOf_cons, bitsOf_xor xs ys (by simpa using h), zipx_append _ _ _ _ (by simp [bitsUpto_length]), UInt8.toNat_xor, bitsUpto_xor]

theorem feed_xor3 (gen deg r : Nat) (h1 : 1 ≤ deg) (hd : deg ≤ 32) (hg : gen < 2 ^ deg) (hr : r < 2 ^ deg) (xs ys zs : List UInt8) (ly : ys.length = xs.length) (lz : zs.length = xs.length) :
    feedN gen deg r (bitsOf (xor3 xs ys zs)) = feedN gen deg r (bitsOf xs) ^^^ feedN gen deg r (bitsOf ys) ^^^ feedN gen deg r (bitsOf zs) := by
  unfold xor3
  rw [bitsOf_xor _ _ (by simp; omega), bitsOf_xor _ _ (by omega)]
  have e : r = r ^^^ (r ^^^ r) := by simp
  conv => lhs; rw [e]
  rw [feed_xor gen deg h1 hd hg _ _ _ _ (by simp [zipx, bitsOf_length]; omega) hr (by rw [Nat.xor_self]; exact Nat.two_pow_pos _), feed_xor gen deg h1 hd hg _ _ _ _ (by simp [bitsOf_length]; omega) hr hr, Nat.xor_assoc]

theorem eight_xor3 (xs ys zs : List UInt8) (ly : ys.length = xs.length) (lz : zs.length = xs.length) : eightN (xor3 xs ys zs) = eightN xs ^^^ eightN ys ^^^ eightN zs := by
  unfold eightN
  rw [feed_xor3 7 8 0 (by decide) (by decide) (by decide) (by decide) xs ys zs ly lz]
  generalize feedN 7 8 0 (bitsOf xs) = a
  generalize feedN 7 8 0 (bitsOf ys) = b
  generalize feedN 7 8 0 (bitsOf zs) = c
  apply Nat.eq_of_testBit_eq; intro j
  simp only [Nat.testBit_xor]
  generalize a.testBit j = p; generalize b.testBit j = q; generalize c.testBit j = s; generalize (85 : Nat).testBit j = t
  revert p q s t; decide
theorem ten_xor3 (xs ys zs : List UInt8) (ly : ys.length = xs.length) (lz : zs.length = xs.length) : tenN (xor3 xs ys zs) = tenN xs ^^^ tenN ys ^^^ tenN zs :=
  feed_xor3 563 10 0 (by decide) (by decide) (by decide) (by decide) xs ys zs ly lz
theorem long_xor3 (xs ys zs : List UInt8) (ly : ys.length = xs.length) (lz : zs.length = xs.length) : longN (xor3 xs ys zs) = longN xs ^^^ longN ys ^^^ longN zs := by
  unfold longN
  rw [feed_xor3 79764919 32 4294967295 (by decide) (by decide) (by decide) (by decide) xs ys zs ly lz]
  generalize feedN 79764919 32 4294967295 (bitsOf xs) = a
  generalize feedN 79764919 32 4294967295 (bitsOf ys) = b
  generalize feedN 79764919 32 4294967295 (bitsOf zs) = c
  apply Nat.eq_of_testBit_eq; intro j
  simp only [Nat.testBit_xor]
  generalize a.testBit j = p; generalize b.testBit j = q; generalize c.testBit j = s; generalize (4294967295 : Nat).testBit j = t
  revert p q s t; decide


theorem xor3_snoc (p p' p'' : List UInt8) (l l' l'' : UInt8) (h1 : p'.length = p.length) (h2 : p''.length = p.length) : xor3 (p ++ [l]) (p' ++ [l']) (p'' ++ [l'']) = xor3 p p' p'' ++ [l ^^^ (l' ^^^ l'')] := by
  unfold xor3
  rw [List.zipWith_append (by omega), List.zipWith_append (by simp; omega)]; rfl
theorem syn_snoc (p : List UInt8) (l : UInt8) : synN (p ++ [l]) = l.toNat ^^^ eightN p := by simp [synN]
theorem syn_xor3 (p p' p'' : List UInt8) (l l' l'' : UInt8) (h1 : p'.length = p.length) (h2 : p''.length = p.length) :
    synN (xor3 (p ++ [l]) (p' ++ [l']) (p'' ++ [l''])) = synN (p ++ [l]) ^^^ synN (p' ++ [l']) ^^^ synN (p'' ++ [l'']) := by
  rw [xor3_snoc _ _ _ _ _ _ h1 h2, syn_snoc, syn_snoc, syn_snoc, syn_snoc, eight_xor3 _ _ _ h1 h2, UInt8.toNat_xor, UInt8.toNat_xor]
  generalize l.toNat = a; generalize l'.toNat = b; generalize l''.toNat = c
  generalize eightN p = d; generalize eightN p' = e; generalize eightN p'' = f
  apply Nat.eq_of_testBit_eq; intro j
  simp only [Nat.testBit_xor]
  generalize a.testBit j = t1; generalize b.testBit j = t2; generalize c.testBit j = t3; generalize d.testBit j = t4; generalize e.testBit j = t5; generalize f.testBit j = t6
  revert t1 t2 t3 t4 t5 t6; decide

theorem flip_five (x0 x1 x2 x3 c : UInt8) (n : Nat) (hn : n < 40) : flipN [x0, x1, x2, x3, c] n = xor3 [x0, x1, x2, x3, c] [0, 0, 0, 0, 85] (dam n) := by
  have hq : n / 8 = 0 ∨ n / 8 = 1 ∨ n / 8 = 2 ∨ n / 8 = 3 ∨ n / 8 = 4 := by omega
  have ex : ∀ u : UInt8, (85 : UInt8) ^^^ (85 ^^^ u) = u := fun u => by rw [← UInt8.xor_assoc]; simp
  rcases hq with hq | hq | hq | hq | hq <;> simp [flipN, xor3, dam, dv, hq, ex]

theorem syn_flip (x0 x1 x2 x3 c : UInt8) (n : Nat) (hn : n < 40) : synN (flipN [x0, x1, x2, x3, c] n) = synN [x0, x1, x2, x3, c] ^^^ synN (dam n) := by
  rw [flip_five _ _ _ _ _ _ hn]
  have := syn_xor3 [x0, x1, x2, x3] [0, 0, 0, 0] [UInt8.ofNat (dv n 0), UInt8.ofNat (dv n 1), UInt8.ofNat (dv n 2), UInt8.ofNat (dv n 3)] c 85 (UInt8.ofNat (dv n 4)) rfl rfl
  have z : synN ([0, 0, 0, 0] ++ [85]) = 0 := by decide +kernel
  rw [z, Nat.xor_zero] at this
  exact this

theorem bitN_dam : ∀ n, n < 40 → bitN (synN (dam n)) = some n := by decide +kernel
theorem dam_inj (i k : Nat) (hi : i < 40) (hk : k < 40) (h : synN (dam i) = synN (dam k)) : i = k := by
  have a := bitN_dam i hi
  rw [h, bitN_dam k hk] at a
  exact (Option.some.inj a).symm
theorem flip_list5 (x0 x1 x2 x3 c : UInt8) (n : Nat) : ∃ y0 y1 y2 y3 y4, flipN [x0, x1, x2, x3, c] n = [y0, y1, y2, y3, y4] := by
  have h := flipN_length [x0, x1, x2, x3, c] n
  match e : flipN [x0, x1, x2, x3, c] n, h with
  | [y0, y1, y2, y3, y4], _ => exact ⟨_, _, _, _, _, rfl⟩
end Go.Proofs.YtbjeljmnknibnaaDoor.F
