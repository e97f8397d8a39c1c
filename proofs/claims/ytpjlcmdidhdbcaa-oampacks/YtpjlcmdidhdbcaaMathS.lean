/- Proved here: the check of a payload, as numbers: what is ahead of it, what sealing does, and that it tells bursts. Conditions: as each theorem states them. -/
import Derived.Test.YtpjlcmdidhdbcaaMathD
namespace Go.Proofs.Ytpjlcmdidhdbcaa
set_option linter.unusedSimpArgs false
set_option linter.unusedVariables false

/-- Two bits of one byte, six of the next. -/
def at6 (b x : UInt8) : UInt8 := UInt8.ofNat (b.toNat % 4 * 64 + x.toNat / 4)
theorem at6_nat (b x : UInt8) : (at6 b x).toNat = b.toNat % 4 * 64 + x.toNat / 4 := by
  unfold at6
  have := x.toNat_lt
  rw [UInt8.toNat_ofNat']
  omega
def shiftN (b : UInt8) (ps : List UInt8) : List UInt8 := List.zipWith at6 (b :: ps) ps
def aheadN (ps : List UInt8) : List UInt8 := (shiftN 0 ps).take 47
theorem aheadN_length (ps : List UInt8) (h : ps.length = 48) : (aheadN ps).length = 47 := by simp [aheadN, shiftN, h]
theorem aheadN_get {ps : List UInt8} {k : Nat} {b x : UInt8} (hk : k < 47) (hb : (0 :: ps)[k]? = some b) (hx : ps[k]? = some x) : (aheadN ps)[k]? = some (at6 b x) := by
  unfold aheadN shiftN
  rw [List.getElem?_take_of_lt hk, List.getElem?_zipWith, hb, hx]

theorem at6_bits (b x : UInt8) : bitsUpto (at6 b x).toNat 8 = [b.toNat.testBit 1, b.toNat.testBit 0] ++ (bitsUpto x.toNat 8).take 6 := by
  rw [at6_nat]
  have hx := x.toNat_lt
  have hb : ∀ m, m < 64 → ∀ j, j < 8 → (b.toNat % 4 * 64 + m).testBit j = if j < 6 then m.testBit j else (b.toNat % 4).testBit (j - 6) := by
    intro m hm j _
    have e : b.toNat % 4 * 64 + m = 2 ^ 6 * (b.toNat % 4) + m := by omega
    rw [e, Nat.testBit_two_pow_mul_add _ (by simpa using hm)]
  have hd : ∀ j, (x.toNat / 4).testBit j = x.toNat.testBit (j + 2) := by
    intro j
    rw [show (4 : Nat) = 2 ^ 2 from rfl, Nat.testBit_div_two_pow]
  have hm : ∀ j, j < 2 → (b.toNat % 4).testBit j = b.toNat.testBit j := by
    intro j hj
    rw [show (4 : Nat) = 2 ^ 2 from rfl, Nat.testBit_mod_two_pow]; simp [hj]
  have hq : x.toNat / 4 < 64 := by omega
  have l8 : ∀ y : Nat, bitsUpto y 8 = [y.testBit 7, y.testBit 6, y.testBit 5, y.testBit 4, y.testBit 3, y.testBit 2, y.testBit 1, y.testBit 0] := fun y => rfl
  rw [l8, l8, hb _ hq 7 (by decide), hb _ hq 6 (by decide), hb _ hq 5 (by decide), hb _ hq 4 (by decide), hb _ hq 3 (by decide), hb _ hq 2 (by decide), hb _ hq 1 (by decide), hb _ hq 0 (by decide)]
  simp [hd, hm]

theorem shift_bits : ∀ (ps : List UInt8) (b : UInt8), bitsOf (shiftN b ps) = ([b.toNat.testBit 1, b.toNat.testBit 0] ++ bitsOf ps).take (8 * ps.length)
  | [], b => by simp [shiftN, bitsOf]
  | x :: ps, b => by
    have ih := shift_bits ps x
    have e : shiftN b (x :: ps) = at6 b x :: shiftN x ps := rfl
    rw [e, bitsOf_cons, ih, at6_bits, bitsOf_cons]
    have l8 : bitsUpto x.toNat 8 = (bitsUpto x.toNat 8).take 6 ++ [x.toNat.testBit 1, x.toNat.testBit 0] := rfl
    have l6 : ((bitsUpto x.toNat 8).take 6).length = 6 := rfl
    have e2 : [b.toNat.testBit 1, b.toNat.testBit 0] ++ (bitsUpto x.toNat 8 ++ bitsOf ps) = ([b.toNat.testBit 1, b.toNat.testBit 0] ++ (bitsUpto x.toNat 8).take 6) ++ ([x.toNat.testBit 1, x.toNat.testBit 0] ++ bitsOf ps) := by
      conv => lhs; rw [l8]
      simp
    have l2 : ([b.toNat.testBit 1, b.toNat.testBit 0] ++ (bitsUpto x.toNat 8).take 6).length = 8 := rfl
    rw [e2, show 8 * (x :: ps).length = ([b.toNat.testBit 1, b.toNat.testBit 0] ++ (bitsUpto x.toNat 8).take 6).length + 8 * ps.length from by rw [l2, List.length_cons]; omega, List.take_length_add_append]

theorem bitsOf_take (ps : List UInt8) (k : Nat) : bitsOf (ps.take k) = (bitsOf ps).take (8 * k) := by
  induction ps generalizing k with
  | nil => simp [bitsOf]
  | cons x ps ih =>
    cases k with
    | zero => simp [bitsOf]
    | succ k =>
      rw [List.take_succ_cons, bitsOf_cons, bitsOf_cons, ih, show 8 * (k + 1) = (bitsUpto x.toNat 8).length + 8 * k from by rw [bitsUpto_length]; omega, List.take_length_add_append]

/-- The check of a payload: the remainder of its first 374 bits. -/
def checkN (ps : List UInt8) : Nat := feedN 563 10 0 ((bitsOf ps).take 374)
theorem checkN_lt (ps : List UInt8) : checkN ps < 1024 := feedN_lt 563 10 0 _ (by decide) (by decide)
theorem ten_ahead (ps : List UInt8) (h : ps.length = 48) : tenN (aheadN ps) = checkN ps := by
  unfold tenN aheadN checkN
  rw [bitsOf_take, shift_bits, List.take_take, h]
  have e : List.take (min (8 * 47) (8 * 48)) ([(0 : UInt8).toNat.testBit 1, (0 : UInt8).toNat.testBit 0] ++ bitsOf ps) = zeros 2 ++ (bitsOf ps).take 374 := rfl
  rw [e, feed_append, feed_zeros _ _ _ (by decide)]

/-- A payload with its check. -/
def sealN (ps : List UInt8) : List UInt8 := (ps.set 46 (UInt8.ofNat ((ps[46]?.getD 0).toNat / 4 * 4 + checkN ps / 256))).set 47 (UInt8.ofNat (checkN ps % 256))
theorem sealN_length (ps : List UInt8) : (sealN ps).length = ps.length := by simp [sealN]

theorem split48 {ps : List UInt8} (h : ps.length = 48) : ∃ pre a b, ps = pre ++ [a, b] ∧ pre.length = 46 := by
  refine ⟨ps.take 46, ps[46]'(by omega), ps[47]'(by omega), ?_, by simp [h]⟩
  have e1 : ps.drop 46 = [ps[46]'(by omega), ps[47]'(by omega)] := by
    have d1 := List.drop_eq_getElem_cons (show 46 < ps.length by omega)
    have d2 := List.drop_eq_getElem_cons (show 46 + 1 < ps.length by omega)
    rw [d1, d2, List.drop_of_length_le (by omega)]
  rw [← e1, List.take_append_drop]

theorem seal_split (pre : List UInt8) (a b : UInt8) (h : pre.length = 46) : sealN (pre ++ [a, b]) = pre ++ [UInt8.ofNat (a.toNat / 4 * 4 + checkN (pre ++ [a, b]) / 256), UInt8.ofNat (checkN (pre ++ [a, b]) % 256)] := by
  unfold sealN
  have e : (pre ++ [a, b])[46]? = some a := by rw [List.getElem?_append_right (by omega), h]; rfl
  rw [e, List.set_append_right _ _ (by omega), List.set_append_right _ _ (by omega), h]
  rfl

theorem bits_split (pre : List UInt8) (a b : UInt8) (h : pre.length = 46) :
    (bitsOf (pre ++ [a, b])).take 374 = bitsOf pre ++ (bitsUpto a.toNat 8).take 6 ∧ (bitsOf (pre ++ [a, b])).drop 374 = (bitsUpto a.toNat 8).drop 6 ++ bitsUpto b.toNat 8 := by
  have hl : (bitsOf pre).length = 368 := by rw [bitsOf_length, h]
  have e : bitsOf (pre ++ [a, b]) = bitsOf pre ++ (bitsUpto a.toNat 8 ++ bitsUpto b.toNat 8) := by
    rw [bitsOf_append, bitsOf_cons, bitsOf_cons]; simp [bitsOf]
  rw [e]
  constructor
  · rw [show (374 : Nat) = (bitsOf pre).length + 6 from by rw [hl], List.take_length_add_append]
    rfl
  · rw [show (374 : Nat) = (bitsOf pre).length + 6 from by rw [hl], List.drop_length_add_append]
    rfl

/-- The highest six bits of a byte hang on its quarter alone. -/
theorem six_bits (x y : Nat) (h : x / 4 = y / 4) : (bitsUpto x 8).take 6 = (bitsUpto y 8).take 6 := by
  have hd : ∀ z j : Nat, z.testBit (j + 2) = (z / 4).testBit j := by
    intro z j
    rw [show (4 : Nat) = 2 ^ 2 from rfl, Nat.testBit_div_two_pow]
  have l8 : ∀ y : Nat, (bitsUpto y 8).take 6 = [y.testBit (5 + 2), y.testBit (4 + 2), y.testBit (3 + 2), y.testBit (2 + 2), y.testBit (1 + 2), y.testBit (0 + 2)] := fun y => rfl
  have k : ∀ j, x.testBit (j + 2) = y.testBit (j + 2) := fun j => by rw [hd x j, hd y j, h]
  rw [l8, l8, k 5, k 4, k 3, k 2, k 1, k 0]

theorem check_seal (ps : List UInt8) (h : ps.length = 48) : checkN (sealN ps) = checkN ps := by
  obtain ⟨pre, a, b, rfl, hp⟩ := split48 h
  have ha := a.toNat_lt
  have hc := checkN_lt (pre ++ [a, b])
  have key : ∀ n, n < 1024 → checkN (pre ++ [UInt8.ofNat (a.toNat / 4 * 4 + n / 256), UInt8.ofNat (n % 256)]) = checkN (pre ++ [a, b]) := by
    intro n hn
    unfold checkN
    rw [(bits_split pre _ _ hp).1, (bits_split pre a b hp).1]
    congr 2
    apply six_bits
    rw [UInt8.toNat_ofNat']
    omega
  rw [seal_split pre a b hp]
  exact key _ hc

theorem word10 (a b : UInt8) : word 10 ((bitsUpto a.toNat 8).drop 6 ++ bitsUpto b.toNat 8) = a.toNat % 4 * 256 + b.toNat := by
  have hb := b.toNat_lt
  apply Nat.eq_of_testBit_eq
  intro j
  rw [word_testBit 10 (by decide), show a.toNat % 4 * 256 + b.toNat = 2 ^ 8 * (a.toNat % 4) + b.toNat from by omega, Nat.testBit_two_pow_mul_add _ (by simpa using hb)]
  have hm : ∀ j, (a.toNat % 4).testBit j = (decide (j < 2) && a.toNat.testBit j) := by
    intro j
    rw [show (4 : Nat) = 2 ^ 2 from rfl, Nat.testBit_mod_two_pow]
  have l : (bitsUpto a.toNat 8).drop 6 ++ bitsUpto b.toNat 8 = [a.toNat.testBit 1, a.toNat.testBit 0, b.toNat.testBit 7, b.toNat.testBit 6, b.toNat.testBit 5, b.toNat.testBit 4, b.toNat.testBit 3, b.toNat.testBit 2, b.toNat.testBit 1, b.toNat.testBit 0] := rfl
  rw [l, hm]
  by_cases hj : j < 10
  · have : j = 0 ∨ j = 1 ∨ j = 2 ∨ j = 3 ∨ j = 4 ∨ j = 5 ∨ j = 6 ∨ j = 7 ∨ j = 8 ∨ j = 9 := by omega
    rcases this with rfl | rfl | rfl | rfl | rfl | rfl | rfl | rfl | rfl | rfl <;> simp
  · have h1 : ¬ j < 8 := by omega
    have h2 : ¬ j - 8 < 2 := by omega
    simp [hj, h1, h2]

theorem sealed_iff (ps : List UInt8) (h : ps.length = 48) : sealN ps = ps ↔ tenN ps = 0 := by
  obtain ⟨pre, a, b, rfl, hp⟩ := split48 h
  have ha := a.toNat_lt
  have hb := b.toNat_lt
  have hc := checkN_lt (pre ++ [a, b])
  have e1 : tenN (pre ++ [a, b]) = feedN 563 10 (checkN (pre ++ [a, b]) ^^^ (a.toNat % 4 * 256 + b.toNat)) (zeros 10) := by
    have hs := List.take_append_drop 374 (bitsOf (pre ++ [a, b]))
    unfold tenN
    rw [← hs, feed_append, (bits_split pre a b hp).2]
    have := feed_word 563 10 (by decide) (by decide) (by decide) ((bitsUpto a.toNat 8).drop 6 ++ bitsUpto b.toNat 8) (feedN 563 10 0 ((bitsOf (pre ++ [a, b])).take 374)) (by simp [bitsUpto_length]) (feedN_lt _ _ _ _ (by decide) (by decide))
    rw [this, word10]
    simp only [List.length_append, List.length_drop, bitsUpto_length]
    rfl
  have hw : a.toNat % 4 * 256 + b.toNat < 1024 := by omega
  rw [seal_split pre a b hp]
  generalize checkN (pre ++ [a, b]) = n at hc e1
  have e2 : tenN (pre ++ [a, b]) = 0 ↔ n = a.toNat % 4 * 256 + b.toNat := by
    rw [e1]
    constructor
    · intro hz
      have := feed_inj 563 10 (by decide) (by decide) (by decide) (by decide) 10 _ (Nat.xor_lt_two_pow (n := 10) hc hw) hz
      have h2 : (n ^^^ (a.toNat % 4 * 256 + b.toNat)) ^^^ (a.toNat % 4 * 256 + b.toNat) = 0 ^^^ (a.toNat % 4 * 256 + b.toNat) := by rw [this]
      rwa [xor_twice, Nat.zero_xor] at h2
    · intro hz
      rw [hz, Nat.xor_self]
      exact feed_zeros _ _ _ (by decide)
  rw [e2]
  constructor
  · intro hz
    have h1 := List.append_cancel_left hz
    simp only [List.cons.injEq, and_true] at h1
    have h2 := congrArg UInt8.toNat h1.1
    have h3 := congrArg UInt8.toNat h1.2
    rw [UInt8.toNat_ofNat'] at h2 h3
    omega
  · intro hz
    subst hz
    congr 2
    · apply UInt8.toNat_inj.1
      rw [UInt8.toNat_ofNat']; omega
    · congr 1
      apply UInt8.toNat_inj.1
      rw [UInt8.toNat_ofNat']; omega

theorem seal_twice (ps : List UInt8) (h : ps.length = 48) : sealN (sealN ps) = sealN ps := by
  have hc := check_seal ps h
  obtain ⟨pre, a, b, rfl, hp⟩ := split48 h
  have ha := a.toNat_lt
  have hn := checkN_lt (pre ++ [a, b])
  rw [seal_split pre a b hp] at hc ⊢
  rw [seal_split pre _ _ hp, hc]
  generalize checkN (pre ++ [a, b]) = n at hn
  congr 3
  rw [UInt8.toNat_ofNat']
  omega

theorem sealed_burst (ps : List UInt8) (h : ps.length = 48) (p y : Nat) : (sealN (burstTo (sealN ps) p y 10) = burstTo (sealN ps) p y 10) ↔ changedTo 48 p y 10 = false := by
  have hl : (sealN ps).length = 48 := by rw [sealN_length, h]
  have hz : tenN (sealN ps) = 0 := (sealed_iff _ hl).1 (seal_twice ps h)
  have := ten_burst (sealN ps) p y
  rw [hz, hl] at this
  rw [sealed_iff _ (by rw [burst_length, hl]), this]

theorem seal_front (ps : List UInt8) (h : ps.length = 48) : (sealN ps).take 46 = ps.take 46 ∧ ∃ a b, ps[46]? = some a ∧ (sealN ps)[46]? = some b ∧ b.toNat / 4 = a.toNat / 4 := by
  obtain ⟨pre, a, b, rfl, hp⟩ := split48 h
  have ha := a.toNat_lt
  have hn := checkN_lt (pre ++ [a, b])
  rw [seal_split pre a b hp]
  refine ⟨by rw [List.take_append_of_le_length (by omega), List.take_append_of_le_length (by omega)], a, UInt8.ofNat (a.toNat / 4 * 4 + checkN (pre ++ [a, b]) / 256), ?_, ?_, ?_⟩
  · rw [List.getElem?_append_right (by omega), hp]; rfl
  · rw [List.getElem?_append_right (by omega), hp]; rfl
  · rw [UInt8.toNat_ofNat']; omega
end Go.Proofs.Ytpjlcmdidhdbcaa
