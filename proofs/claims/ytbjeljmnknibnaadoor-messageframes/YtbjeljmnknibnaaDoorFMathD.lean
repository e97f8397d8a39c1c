/- Proved here: whatever is turned over within as many bits in a row as a check has changes it. Conditions: as each theorem states them. -/
import Derived.Test.YtbjeljmnknibnaaDoorFMathC
namespace Go.Proofs.YtbjeljmnknibnaaDoor.F
open Go.RowKit

theorem pow_bit (s r : Nat) (hs : s < 8) (hr : r < 8) : (128 / 2 ^ s).testBit (7 - r) = decide (r = s) := by
  have a : s = 0 ∨ s = 1 ∨ s = 2 ∨ s = 3 ∨ s = 4 ∨ s = 5 ∨ s = 6 ∨ s = 7 := by omega
  have b : r = 0 ∨ r = 1 ∨ r = 2 ∨ r = 3 ∨ r = 4 ∨ r = 5 ∨ r = 6 ∨ r = 7 := by omega
  rcases a with rfl | rfl | rfl | rfl | rfl | rfl | rfl | rfl <;> rcases b with rfl | rfl | rfl | rfl | rfl | rfl | rfl | rfl <;> decide

theorem flip_bit (zs : List UInt8) (k j : Nat) (hk : k < 8 * zs.length) : (bitsOf (flipN zs k))[j]? = (bitsOf zs)[j]?.map fun b => b ^^ decide (j = k) := by
  have hj : j = 8 * (j / 8) + j % 8 := by omega
  have hr : j % 8 < 8 := by omega
  have hs : k % 8 < 8 := by omega
  have hkj : decide (j = k) = (decide (j / 8 = k / 8) && decide (j % 8 = k % 8)) := by
    rw [← Bool.decide_and]; congr 1; apply propext; constructor <;> intro h <;> omega
  rw [hkj]
  generalize j / 8 = q at *
  generalize j % 8 = r at *
  rw [hj, bitsOf_get _ _ _ hr, bitsOf_get _ _ _ hr]
  by_cases e : q = k / 8
  · subst e
    have hlt : k / 8 < zs.length := by omega
    unfold flipN
    rw [List.getElem?_set_self (by omega), List.getElem?_eq_getElem hlt]
    simp only [Option.map_some, Option.getD_some, UInt8.toNat_xor, Nat.testBit_xor, decide_true, Bool.true_and]
    rw [ofNat_toNat_lt (Nat.lt_of_le_of_lt (Nat.div_le_self _ _) (by decide)), pow_bit _ _ hs hr]
  · unfold flipN
    rw [List.getElem?_set_ne (fun h => e h.symm)]
    simp [e]
    rfl

/-- Which bit is turned over. -/
def hit (n p y j : Nat) : Bool := Nat.testBit y j && decide (p + j < 8 * n)
def burstTo (xs : List UInt8) (p y : Nat) : Nat → List UInt8
  | 0 => xs
  | i + 1 => if hit xs.length p y i then flipN (burstTo xs p y i) (p + i) else burstTo xs p y i
def changedTo (n p y : Nat) : Nat → Bool
  | 0 => false
  | i + 1 => changedTo n p y i || hit n p y i

theorem burst_length (xs : List UInt8) (p y i : Nat) : (burstTo xs p y i).length = xs.length := by
  induction i with
  | zero => rfl
  | succ i ih =>
    unfold burstTo
    split
    · rw [flipN_length, ih]
    · exact ih

def mask (n p y i : Nat) : List Bool := (List.range (8 * n)).map fun j => decide (p ≤ j) && (decide (j < p + i) && y.testBit (j - p))
theorem mask_length (n p y i : Nat) : (mask n p y i).length = 8 * n := by simp [mask]
theorem mask_get (n p y i j : Nat) (h : j < 8 * n) : (mask n p y i)[j]? = some (decide (p ≤ j) && (decide (j < p + i) && y.testBit (j - p))) := by simp [mask, h]

theorem zipx_get (a b : List Bool) (j : Nat) (x y : Bool) (hx : a[j]? = some x) (hy : b[j]? = some y) : (zipx a b)[j]? = some (x ^^ y) := by
  simp [zipx, List.getElem?_zipWith, hx, hy]
theorem zipx_len (a b : List Bool) (h : a.length = b.length) : (zipx a b).length = a.length := by simp [zipx, h]

theorem burst_bits (xs : List UInt8) (p y : Nat) : ∀ i, bitsOf (burstTo xs p y i) = zipx (bitsOf xs) (mask xs.length p y i) := by
  have hget : ∀ i j, j < 8 * xs.length → ∃ x, (bitsOf xs)[j]? = some x ∧ (zipx (bitsOf xs) (mask xs.length p y i))[j]? = some (x ^^ (decide (p ≤ j) && (decide (j < p + i) && y.testBit (j - p)))) := by
    intro i j hj
    have hl := bitsOf_length xs
    refine ⟨(bitsOf xs)[j]'(by omega), by rw [List.getElem?_eq_getElem], zipx_get _ _ _ _ _ (by rw [List.getElem?_eq_getElem]) (mask_get _ _ _ _ _ hj)⟩
  intro i
  induction i with
  | zero =>
    apply List.ext_getElem?
    intro j
    by_cases hj : j < 8 * xs.length
    · obtain ⟨x, h1, h2⟩ := hget 0 j hj
      rw [h2]
      show (bitsOf xs)[j]? = _
      have e : (decide (p ≤ j) && (decide (j < p + 0) && y.testBit (j - p))) = false := by
        by_cases h : p ≤ j
        · have : ¬ (j < p) := by omega
          simp [this]
        · simp [h]
      rw [h1, e, Bool.xor_false]
    · rw [List.getElem?_eq_none (by rw [bitsOf_length, burst_length]; omega), List.getElem?_eq_none (by rw [zipx_len _ _ (by rw [bitsOf_length, mask_length]), bitsOf_length]; omega)]
  | succ i ih =>
    apply List.ext_getElem?
    intro j
    by_cases hj : j < 8 * xs.length
    · obtain ⟨x, h1, h2⟩ := hget (i + 1) j hj
      obtain ⟨x', h1', h3⟩ := hget i j hj
      obtain rfl : x' = x := by rw [h1'] at h1; exact Option.some.inj h1
      rw [h2]
      unfold burstTo
      have hm : (decide (p ≤ j) && (decide (j < p + (i + 1)) && y.testBit (j - p))) = ((decide (p ≤ j) && (decide (j < p + i) && y.testBit (j - p))) ^^ (decide (j = p + i) && y.testBit i)) := by
        by_cases e : j = p + i
        · subst e
          simp
        · by_cases h : p ≤ j
          · by_cases h' : j < p + i
            · have : j < p + (i + 1) := by omega
              simp [h, h', this, e]
            · have : ¬ (j < p + (i + 1)) := by omega
              simp [h', this, e]
          · simp [h, e]
      by_cases hh : hit xs.length p y i = true
      · rw [if_pos hh]
        unfold hit at hh
        simp only [Bool.and_eq_true, decide_eq_true_eq] at hh
        rw [flip_bit _ _ _ (by rw [burst_length]; omega), ih, h3]
        simp only [Option.map_some]
        rw [hm, hh.1, Bool.and_true, Bool.xor_assoc]
      · rw [if_neg hh, ih, h3, hm]
        unfold hit at hh
        simp only [Bool.and_eq_true, decide_eq_true_eq, not_and] at hh
        have : (decide (j = p + i) && y.testBit i) = false := by
          by_cases e : j = p + i
          · have : ¬ (y.testBit i = true) := fun h => hh h (by omega)
            simp [this]
          · simp [e]
        rw [this, Bool.xor_false]
    · rw [List.getElem?_eq_none (by rw [bitsOf_length, burst_length]; omega), List.getElem?_eq_none (by rw [zipx_len _ _ (by rw [bitsOf_length, mask_length]), bitsOf_length]; omega)]

theorem changed_iff (n p y i : Nat) : changedTo n p y i = true ↔ ∃ j, j < i ∧ hit n p y j = true := by
  induction i with
  | zero => simp [changedTo]
  | succ i ih =>
    unfold changedTo
    rw [Bool.or_eq_true, ih]
    constructor
    · rintro (⟨j, hj, h⟩ | h)
      · exact ⟨j, by omega, h⟩
      · exact ⟨i, by omega, h⟩
    · rintro ⟨j, hj, h⟩
      by_cases e : j = i
      · subst e; exact .inr h
      · exact .inl ⟨j, by omega, h⟩

theorem zeros_of {l : List Bool} (h : ∀ b ∈ l, b = false) : l = zeros l.length := List.eq_replicate_of_mem h

theorem mask_none (n p y i : Nat) (h : changedTo n p y i = false) : ∀ b ∈ mask n p y i, b = false := by
  intro b hb
  simp only [mask, List.mem_map, List.mem_range] at hb
  obtain ⟨j, hj, rfl⟩ := hb
  by_cases hc : p ≤ j ∧ j < p + i ∧ y.testBit (j - p) = true
  · have : changedTo n p y i = true := (changed_iff n p y i).2 ⟨j - p, by omega, by simp [hit, hc.2.2]; omega⟩
    rw [h] at this; cases this
  · by_cases h1 : p ≤ j
    · by_cases h2 : j < p + i
      · have : ¬ (y.testBit (j - p) = true) := fun h => hc ⟨h1, h2, h⟩
        simp [this]
      · simp [h2]
    · simp [h1]
theorem mask_some (n p y i : Nat) (h : changedTo n p y i = true) : ∃ b ∈ mask n p y i, b = true := by
  obtain ⟨j, hj, hh⟩ := (changed_iff n p y i).1 h
  unfold hit at hh
  simp only [Bool.and_eq_true, decide_eq_true_eq] at hh
  refine ⟨_, List.mem_map.2 ⟨p + j, List.mem_range.2 hh.2, rfl⟩, ?_⟩
  rw [show p + j - p = j from by omega]
  simp [hh.1, hj]

theorem feed_mask (gen deg n p y i : Nat) (h1 : 1 ≤ deg) (hd : deg ≤ 32) (hg : gen < 2 ^ deg) (ho : gen.testBit 0 = true) (hi : i ≤ deg) (h : feedN gen deg 0 (mask n p y i) = 0) : ∀ b ∈ mask n p y i, b = false := by
  have e : mask n p y i = (mask n p y i).take p ++ (((mask n p y i).drop p).take i ++ ((mask n p y i).drop p).drop i) := by
    rw [List.take_append_drop, List.take_append_drop]
  have hA : ∀ b ∈ (mask n p y i).take p, b = false := by
    intro b hb
    obtain ⟨j, hj, rfl⟩ := List.getElem_of_mem hb
    simp only [List.length_take, mask_length] at hj
    have := mask_get n p y i j (by omega)
    rw [List.getElem_take]
    rw [List.getElem?_eq_getElem (by rw [mask_length]; omega)] at this
    rw [Option.some.inj this]
    have : ¬ (p ≤ j) := by omega
    simp [this]
  have hC : ∀ b ∈ ((mask n p y i).drop p).drop i, b = false := by
    intro b hb
    rw [List.drop_drop] at hb
    obtain ⟨j, hj, rfl⟩ := List.getElem_of_mem hb
    simp only [List.length_drop, mask_length] at hj
    have := mask_get n p y i (p + i + j) (by omega)
    rw [List.getElem_drop]
    rw [List.getElem?_eq_getElem (by rw [mask_length]; omega)] at this
    rw [Option.some.inj this]
    have : ¬ (p + i + j < p + i) := by omega
    simp [this]
  rw [e, feed_append, feed_append, zeros_of hA, feed_zeros _ _ _ h1, zeros_of hC] at h
  have hm := feed_inj gen deg h1 hd hg ho _ _ (feed_lt hg (Nat.two_pow_pos _)) h
  have hB := feed_short gen deg h1 hd hg ho _ (by rw [List.length_take]; omega) hm
  intro b hb
  rw [e, List.mem_append, List.mem_append] at hb
  rcases hb with hb | hb | hb
  · exact hA b hb
  · exact hB b hb
  · exact hC b hb

theorem feed_burst (gen deg r : Nat) (h1 : 1 ≤ deg) (hd : deg ≤ 32) (hg : gen < 2 ^ deg) (ho : gen.testBit 0 = true) (hr : r < 2 ^ deg) (xs : List UInt8) (p y i : Nat) (hi : i ≤ deg) :
    (feedN gen deg r (bitsOf (burstTo xs p y i)) = feedN gen deg r (bitsOf xs)) ↔ changedTo xs.length p y i = false := by
  have e := feed_xor gen deg h1 hd hg (bitsOf xs) (mask xs.length p y i) r 0 (by rw [bitsOf_length, mask_length]) hr (Nat.two_pow_pos _)
  rw [Nat.xor_zero, ← burst_bits] at e
  rw [e]
  constructor
  · intro h
    have h0 : feedN gen deg 0 (mask xs.length p y i) = 0 := by
      have := xor_twice (feedN gen deg 0 (mask xs.length p y i)) (feedN gen deg r (bitsOf xs))
      rw [Nat.xor_comm (feedN gen deg 0 _), h, Nat.xor_self] at this
      exact this.symm
    cases hc : changedTo xs.length p y i with
    | false => rfl
    | true =>
      obtain ⟨b, hb, hbt⟩ := mask_some _ _ _ _ hc
      have := feed_mask gen deg xs.length p y i h1 hd hg ho hi h0 b hb
      rw [hbt] at this; cases this
  · intro h
    rw [zeros_of (mask_none _ _ _ _ h), feed_zeros _ _ _ h1, Nat.xor_zero]

theorem eight_burst (xs : List UInt8) (p y : Nat) : (eightN (burstTo xs p y 8) = eightN xs) ↔ changedTo xs.length p y 8 = false := by
  rw [← feed_burst 7 8 0 (by decide) (by decide) (by decide) (by decide) (by decide) xs p y 8 (by decide)]
  unfold eightN
  constructor
  · intro h
    have := congrArg (fun z => z ^^^ 85) h
    simpa only [xor_twice] using this
  · intro h; rw [h]
theorem ten_burst (xs : List UInt8) (p y : Nat) : (tenN (burstTo xs p y 10) = tenN xs) ↔ changedTo xs.length p y 10 = false :=
  feed_burst 563 10 0 (by decide) (by decide) (by decide) (by decide) (by decide) xs p y 10 (by decide)
theorem long_burst (xs : List UInt8) (p y : Nat) : (longN (burstTo xs p y 32) = longN xs) ↔ changedTo xs.length p y 32 = false := by
  rw [← feed_burst 79764919 32 4294967295 (by decide) (by decide) (by decide) (by decide) (by decide) xs p y 32 (by decide)]
  unfold longN
  constructor
  · intro h
    have := congrArg (fun z => z ^^^ 4294967295) h
    simp only [Nat.xor_comm 4294967295, xor_twice] at this
    exact this
  · intro h; rw [h]
end Go.Proofs.YtbjeljmnknibnaaDoor.F
