/- Proved here: what the checks of bytes are when zeros stand ahead of them, or their check behind them. Conditions: as each theorem states them. -/
import Derived.Test.YtbjeljmnknibnaaDoorFMath
namespace Go.Proofs.YtbjeljmnknibnaaDoor.F

theorem bitsOf_append (a b : List UInt8) : bitsOf (a ++ b) = bitsOf a ++ bitsOf b := by simp [bitsOf]
theorem bitsOf_cons (a : UInt8) (b : List UInt8) : bitsOf (a :: b) = bitsUpto a.toNat 8 ++ bitsOf b := by simp [bitsOf]
theorem bitsUpto_get (x j i : Nat) (h : i < j) : (bitsUpto x j)[i]? = some (x.testBit (7 - i)) := by simp [bitsUpto, h]
theorem bitsOf_get : ∀ (zs : List UInt8) (k i : Nat), i < 8 → (bitsOf zs)[8 * k + i]? = zs[k]?.map fun x => x.toNat.testBit (7 - i)
  | [], k, i, _ => by simp [bitsOf]
  | a :: zs, 0, i, hi => by
    rw [bitsOf_cons, List.getElem?_append_left (by rw [bitsUpto_length]; omega), Nat.mul_zero, Nat.zero_add, bitsUpto_get _ _ _ hi]; rfl
  | a :: zs, k + 1, i, hi => by
    rw [bitsOf_cons, List.getElem?_append_right (by rw [bitsUpto_length]; omega), bitsUpto_length, show 8 * (k + 1) + i - 8 = 8 * k + i from by omega, bitsOf_get zs k i hi]; rfl

theorem bitsOf_zeros (n : Nat) : bitsOf (List.replicate n 0) = zeros (8 * n) := by
  induction n with
  | zero => rfl
  | succ n ih =>
    rw [List.replicate_succ, bitsOf_cons, ih]
    show bitsUpto 0 8 ++ zeros (8 * n) = zeros (8 * (n + 1))
    have : bitsUpto 0 8 = zeros 8 := by decide
    rw [this, zeros, zeros, zeros, List.replicate_append_replicate]; congr 1; omega

theorem eight_lead (n : Nat) (a : List UInt8) : eightN (List.replicate n 0 ++ a) = eightN a := by
  unfold eightN; rw [bitsOf_append, feed_append, bitsOf_zeros, feed_zeros _ _ _ (by decide)]
theorem ten_lead (n : Nat) (a : List UInt8) : tenN (List.replicate n 0 ++ a) = tenN a := by
  unfold tenN; rw [bitsOf_append, feed_append, bitsOf_zeros, feed_zeros _ _ _ (by decide)]
theorem eight_zeros (n : Nat) : eightN (List.replicate n 0) = 85 := by
  unfold eightN; rw [bitsOf_zeros, feed_zeros _ _ _ (by decide)]; rfl
theorem ten_zeros (n : Nat) : tenN (List.replicate n 0) = 0 := by
  unfold tenN; rw [bitsOf_zeros, feed_zeros _ _ _ (by decide)]

theorem word8 (r : Nat) (hr : r < 256) : word 8 (bitsUpto r 8) = r := by
  apply Nat.eq_of_testBit_eq
  intro j
  rw [word_testBit 8 (by decide)]
  by_cases hj : j < 8
  · rw [bitsUpto_get _ _ _ (by omega)]
    simp [hj, show 7 - (7 - j) = j from by omega]
  · have : r.testBit j = false := Nat.testBit_lt_two_pow (Nat.lt_of_lt_of_le hr (by rw [show 256 = 2 ^ 8 from rfl]; exact Nat.pow_le_pow_right (by decide) (by omega)))
    simp [hj, this]

theorem xor_twice (a b : Nat) : a ^^^ b ^^^ b = a := by rw [Nat.xor_assoc, Nat.xor_self, Nat.xor_zero]

theorem eight_self (x : List UInt8) (c : UInt8) (hc : c.toNat = eightN x ^^^ 85) : eightN (x ++ [c]) = 85 := by
  have hr := feedN_lt 7 8 0 (bitsOf x) (by decide) (by decide)
  have e : c.toNat = feedN 7 8 0 (bitsOf x) := by rw [hc]; exact xor_twice _ _
  unfold eightN
  rw [bitsOf_append, feed_append]
  have : bitsOf [c] = bitsUpto c.toNat 8 := by simp [bitsOf]
  rw [this, e]
  generalize feedN 7 8 0 (bitsOf x) = r at *
  rw [feed_word 7 8 (by decide) (by decide) (by decide) _ _ (by simp [bitsUpto_length]) hr, word8 r hr, Nat.xor_self, feed_zeros _ _ _ (by decide)]
  rfl

theorem syn_self (z a : List UInt8) (c : UInt8) (h : eightN z = eightN a) (hc : c.toNat = eightN a) : synN (z ++ [c]) = 0 := by
  simp [synN, h, hc]

theorem byte_bit (c s m : Nat) (hm : m < 8) : (c / 2 ^ s % 2 ^ 8).testBit m = c.testBit (m + s) := by
  rw [Nat.testBit_mod_two_pow, Nat.testBit_div_two_pow]; simp [hm]

theorem word32 (c : Nat) (hc : c < 4294967296) (b0 b1 b2 b3 : UInt8) (h0 : b0.toNat = c / 16777216 % 256) (h1 : b1.toNat = c / 65536 % 256) (h2 : b2.toNat = c / 256 % 256) (h3 : b3.toNat = c % 256) :
    word 32 (bitsOf [b0, b1, b2, b3]) = c := by
  apply Nat.eq_of_testBit_eq
  intro j
  rw [word_testBit 32 (by decide)]
  by_cases hj : j < 32
  · have hk : 32 - 1 - j = 8 * ((31 - j) / 8) + (31 - j) % 8 := by omega
    rw [hk, bitsOf_get _ _ _ (by omega)]
    have hcases : (31 - j) / 8 = 0 ∨ (31 - j) / 8 = 1 ∨ (31 - j) / 8 = 2 ∨ (31 - j) / 8 = 3 := by omega
    rcases hcases with h | h | h | h
    · rw [h]
      simp only [List.getElem?_cons_zero, Option.map_some, Option.getD_some, h0, hj, decide_true, Bool.true_and]
      refine (byte_bit c 24 _ (by omega)).trans (congrArg c.testBit (by omega))
    · rw [h]
      simp only [List.getElem?_cons_zero, List.getElem?_cons_succ, Option.map_some, Option.getD_some, h1, hj, decide_true, Bool.true_and]
      refine (byte_bit c 16 _ (by omega)).trans (congrArg c.testBit (by omega))
    · rw [h]
      simp only [List.getElem?_cons_zero, List.getElem?_cons_succ, Option.map_some, Option.getD_some, h2, hj, decide_true, Bool.true_and]
      refine (byte_bit c 8 _ (by omega)).trans (congrArg c.testBit (by omega))
    · rw [h]
      simp only [List.getElem?_cons_zero, List.getElem?_cons_succ, Option.map_some, Option.getD_some, h3, hj, decide_true, Bool.true_and]
      refine ((congrArg (fun z => Nat.testBit (z % 256) _) (Nat.div_one c).symm).trans (byte_bit c 0 _ (by omega))).trans (congrArg c.testBit (by omega))
  · have : c.testBit j = false := Nat.testBit_lt_two_pow (Nat.lt_of_lt_of_le hc (by rw [show 4294967296 = 2 ^ 32 from rfl]; exact Nat.pow_le_pow_right (by decide) (by omega)))
    simp [hj, this]

theorem long_self (x : List UInt8) (b0 b1 b2 b3 : UInt8) (h0 : b0.toNat = longN x / 16777216 % 256) (h1 : b1.toNat = longN x / 65536 % 256) (h2 : b2.toNat = longN x / 256 % 256) (h3 : b3.toNat = longN x % 256) :
    longN (x ++ [b0, b1, b2, b3]) = 955982468 := by
  have hr := feedN_lt 79764919 32 4294967295 (bitsOf x) (by decide) (by decide)
  have hw := word32 (longN x) (longN_lt x) b0 b1 b2 b3 h0 h1 h2 h3
  have hx : feedN 79764919 32 4294967295 (bitsOf x) ^^^ longN x = 4294967295 := by
    unfold longN; rw [Nat.xor_comm, xor_twice]
  conv => lhs; unfold longN
  rw [bitsOf_append, feed_append]
  generalize feedN 79764919 32 4294967295 (bitsOf x) = r at *
  rw [feed_word 79764919 32 (by decide) (by decide) (by decide) _ _ (by simp [bitsOf_length]) hr, hw, hx, bitsOf_length]
  show 4294967295 ^^^ feedN 79764919 32 4294967295 (zeros 32) = 955982468
  decide +kernel
end Go.Proofs.YtbjeljmnknibnaaDoor.F
