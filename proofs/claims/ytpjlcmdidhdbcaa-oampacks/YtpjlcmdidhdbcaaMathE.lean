/- Proved here: a division of polynomials, round by round, leaves what the register holds. Conditions: as each theorem states them. -/
import Derived.Test.YtpjlcmdidhdbcaaRefBits
namespace Go.Proofs.Ytpjlcmdidhdbcaa
open Go.RowKit

theorem bv_01 (b : Bool) : 0 ≤ bv b ∧ bv b ≤ 1 := by cases b <;> simp [bv]
theorem bv_not (b : Bool) : 1 - bv b = bv (!b) := by cases b <;> simp [bv]
theorem bv_add (a b : Bool) : (bv a + bv b) % 2 = bv (a ^^ b) := by cases a <;> cases b <;> simp [bv]
theorem bv_beq (b : Bool) : (bv b == 0) = !b := by cases b <;> simp [bv]
theorem bvs_get {l : List Bool} {j : Nat} {b : Bool} (h : l[j]? = some b) : (bvs l)[j]? = some (bv b) := by simp [bvs, h]
theorem bvs_set (l : List Bool) (j : Nat) (b : Bool) : (bvs l).set j (bv b) = bvs (l.set j b) := by simp [bvs, List.map_set]

def regAt (deg r i j : Nat) : Bool := decide (j < i + deg) && r.testBit (deg - 1 - (j - i))
/-- What holds when i rounds are over. -/
def Inv (gen deg r0 : Nat) (l : List Bool) (i : Nat) (A : List Bool) : Prop :=
  A.length = l.length + deg ∧ ∀ j, i ≤ j → j < l.length + deg → A[j]? = some ((l[j]?.getD false) ^^ regAt deg (feedN gen deg r0 (l.take i)) i j)

theorem padded_get (l : List Bool) (deg j : Nat) (h : j < l.length + deg) : (l ++ zeros deg)[j]? = some (l[j]?.getD false) := by
  by_cases hj : j < l.length
  · rw [List.getElem?_append_left hj, List.getElem?_eq_getElem hj]; rfl
  · rw [List.getElem?_append_right (by omega), List.getElem?_eq_none (show l.length ≤ j by omega), zeros, List.getElem?_replicate, if_pos (by omega)]; rfl

theorem inv_start (gen deg : Nat) (l : List Bool) : Inv gen deg 0 l 0 (l ++ zeros deg) := by
  refine ⟨by simp [zeros], fun j _ hj => ?_⟩
  rw [padded_get l deg j hj]
  simp [regAt, feedN]

/-- The first i turned over. -/
def turn (A : List Bool) (i : Nat) : List Bool := A.mapIdx fun j b => b ^^ decide (j < i)
theorem turn_length (A : List Bool) (i : Nat) : (turn A i).length = A.length := by simp [turn]
theorem turn_get (A : List Bool) (i j : Nat) : (turn A i)[j]? = A[j]?.map fun b => b ^^ decide (j < i) := by simp [turn]
theorem turn_zero (A : List Bool) : turn A 0 = A := by
  apply List.ext_getElem?; intro j; rw [turn_get]; cases A[j]? <;> simp
theorem turn_set (A : List Bool) (i : Nat) (b : Bool) (h : A[i]? = some b) : (turn A i).set i (!b) = turn A (i + 1) := by
  apply List.ext_getElem?
  intro j
  rw [turn_get]
  by_cases e : i = j
  · subst e
    rw [List.getElem?_set_self (by rw [turn_length]; exact (List.getElem?_eq_some_iff.1 h).1), h]
    simp
  · rw [List.getElem?_set_ne e, turn_get]
    have : decide (j < i) = decide (j < i + 1) := by congr 1; apply propext; constructor <;> intro h <;> omega
    rw [this]
theorem inv_turned (gen deg : Nat) (l : List Bool) : Inv gen deg (2 ^ deg - 1) l 0 (turn (l ++ zeros deg) deg) := by
  refine ⟨by simp [zeros, turn_length], fun j _ hj => ?_⟩
  rw [turn_get, padded_get l deg j hj]
  simp only [Option.map_some, regAt, Nat.zero_add, Nat.sub_zero, List.take_zero]
  congr 2
  show _ = (decide (j < deg) && (2 ^ deg - 1).testBit (deg - 1 - j))
  rw [Nat.testBit_two_pow_sub_one]
  by_cases h : j < deg
  · have : deg - 1 - j < deg := by omega
    simp [h, this]
  · simp [h]

/-- The generator's bits. -/
def gbits (deg gen c : Nat) : List Bool := true :: (List.range c).map fun k => gen.testBit (deg - 1 - k)
theorem gbits_succ (deg gen c : Nat) : gbits deg gen (c + 1) = gbits deg gen c ++ [gen.testBit (deg - 1 - c)] := by simp [gbits, List.range_succ]
theorem gbits_length (deg gen c : Nat) : (gbits deg gen c).length = c + 1 := by simp [gbits]
theorem gbits_get (deg gen m : Nat) (h1 : 1 ≤ m) (h : m ≤ deg) : (gbits deg gen deg)[m]? = some (gen.testBit (deg - m)) := by
  obtain ⟨k, rfl⟩ : ∃ k, m = k + 1 := ⟨m - 1, by omega⟩
  simp only [gbits, List.getElem?_cons_succ, List.getElem?_map]
  rw [List.getElem?_range (by omega)]
  simp only [Option.map_some]
  congr 2; omega

/-- The first k of g laid over A from i on. -/
def tog (A g : List Bool) (i k : Nat) : List Bool := A.mapIdx fun j b => b ^^ (decide (i ≤ j) && (decide (j < i + k) && (g[j - i]?).getD false))
theorem tog_length (A g : List Bool) (i k : Nat) : (tog A g i k).length = A.length := by simp [tog]
theorem tog_get (A g : List Bool) (i k j : Nat) : (tog A g i k)[j]? = A[j]?.map fun b => b ^^ (decide (i ≤ j) && (decide (j < i + k) && (g[j - i]?).getD false)) := by simp [tog]
theorem tog_zero (A g : List Bool) (i : Nat) : tog A g i 0 = A := by
  apply List.ext_getElem?; intro j; rw [tog_get]
  have : (decide (i ≤ j) && (decide (j < i + 0) && (g[j - i]?).getD false)) = false := by
    by_cases h : i ≤ j
    · have : ¬ (j < i) := by omega
      simp [this]
    · simp [h]
  rw [this]; cases A[j]? <;> simp
theorem tog_at (A g : List Bool) (i k : Nat) : (tog A g i k)[i + k]? = A[i + k]? := by
  rw [tog_get]; simp
theorem tog_set (A g : List Bool) (i k : Nat) (x y : Bool) (hx : A[i + k]? = some x) (hy : g[k]? = some y) : (tog A g i k).set (i + k) (x ^^ y) = tog A g i (k + 1) := by
  apply List.ext_getElem?
  intro j
  rw [tog_get]
  by_cases e : i + k = j
  · subst e
    rw [List.getElem?_set_self (by rw [tog_length]; exact (List.getElem?_eq_some_iff.1 hx).1), hx]
    simp [show i + k - i = k from by omega, hy]
  · rw [List.getElem?_set_ne e, tog_get]
    have : decide (j < i + (k + 1)) = decide (j < i + k) := by congr 1; apply propext; constructor <;> intro h <;> omega
    rw [this]

theorem take_feed (gen deg r0 : Nat) (l : List Bool) (i : Nat) (b : Bool) (h : l[i]? = some b) : feedN gen deg r0 (l.take (i + 1)) = stepN gen deg (feedN gen deg r0 (l.take i)) b := by
  rw [List.take_add_one, h]; exact feedN_snoc _ _ _ _ _

theorem inv_bit {gen deg r0 : Nat} {l : List Bool} {i : Nat} {A : List Bool} (h1 : 1 ≤ deg) (h : Inv gen deg r0 l i A) (hi : i < l.length) (b : Bool) (hb : l[i]? = some b) : A[i]? = some (b ^^ top deg (feedN gen deg r0 (l.take i))) := by
  rw [h.2 i (Nat.le_refl _) (by omega), hb]
  have : i < i + deg := by omega
  simp [regAt, top, this]

theorem inv_step {gen deg r0 : Nat} {l : List Bool} {i : Nat} {A : List Bool} (h1 : 1 ≤ deg) (hd : deg ≤ 32) (hg : gen < 2 ^ deg) (hr : r0 < 2 ^ deg) (h : Inv gen deg r0 l i A) (hi : i < l.length) (c : Bool) (hc : A[i]? = some c) :
    Inv gen deg r0 l (i + 1) (if c then tog A (gbits deg gen deg) i (deg + 1) else A) := by
  obtain ⟨b, hb⟩ : ∃ b, l[i]? = some b := ⟨l[i], by rw [List.getElem?_eq_getElem]⟩
  have hcb := inv_bit h1 h hi b hb
  rw [hc] at hcb
  have hcb := Option.some.inj hcb
  have hrl := feedN_lt gen deg r0 (l.take i) hg hr
  have hst := take_feed gen deg r0 l i b hb
  rw [step_eq gen deg _ b h1 hrl, ← hcb] at hst
  refine ⟨by split <;> simp [tog_length, h.1], fun j hj1 hj2 => ?_⟩
  have hA := h.2 j (by omega) hj2
  have goal : (if c = true then tog A (gbits deg gen deg) i (deg + 1) else A)[j]? = some (((l[j]?.getD false) ^^ regAt deg (feedN gen deg r0 (l.take i)) i j) ^^ (c && (decide (j < i + (deg + 1)) && gen.testBit (deg - (j - i))))) := by
    cases c with
    | false => simp [hA]
    | true =>
      simp only [if_true, tog_get, hA, Option.map_some, Bool.true_and]
      congr 2
      have : decide (i ≤ j) = true := by simp; omega
      rw [this, Bool.true_and]
      by_cases hjd : j < i + (deg + 1)
      · rw [gbits_get deg gen (j - i) (by omega) (by omega)]; rfl
      · simp [hjd]
  rw [goal, hst]
  congr 1
  rw [Bool.xor_assoc]
  congr 1
  unfold regAt
  by_cases hjd : j < i + 1 + deg
  · have e1 : deg - 1 - (j - (i + 1)) = deg - (j - i) := by omega
    have hjd' : j < i + (deg + 1) := by omega
    rw [e1, Nat.testBit_xor, shl_testBit _ _ _ hd, ite_testBit]
    have e2 : deg - (j - i) < deg := by omega
    by_cases hm : j < i + deg
    · have e3 : 1 ≤ deg - (j - i) := by omega
      have e4 : deg - (j - i) - 1 = deg - 1 - (j - i) := by omega
      simp [hjd, hjd', hm, e2, e3, e4]
    · have e3 : ¬ (1 ≤ deg - (j - i)) := by omega
      simp [hjd, hjd', hm, e3]
  · have a1 : ¬ (j < i + deg) := by omega
    have a2 : ¬ (j < i + (deg + 1)) := by omega
    simp [hjd, a1, a2]

/-- What is read off at the end. -/
theorem inv_end {gen deg r0 : Nat} {l A : List Bool} (h : Inv gen deg r0 l l.length A) (m : Nat) (hm : m < deg) : A[l.length + m]? = some ((feedN gen deg r0 l).testBit (deg - 1 - m)) := by
  rw [h.2 (l.length + m) (by omega) (by omega), List.take_length, List.getElem?_eq_none (show l.length ≤ l.length + m by omega)]
  simp [regAt, hm]
theorem read_succ (r deg m : Nat) (hm : m < deg) : ((r / 2 ^ (deg - (m + 1)) : Nat) : Int) = 2 * ((r / 2 ^ (deg - m) : Nat) : Int) + bv (r.testBit (deg - 1 - m)) := by
  have e : deg - m = (deg - (m + 1)) + 1 := by omega
  have e2 : deg - 1 - m = deg - (m + 1) := by omega
  rw [e, e2, Nat.pow_succ, ← Nat.div_div_eq_div_mul, Nat.testBit_eq_decide_div_mod_eq, bv]
  generalize r / 2 ^ (deg - (m + 1)) = q
  rcases Nat.mod_two_eq_zero_or_one q with h | h <;> simp [h] <;> omega
theorem read_zero (r deg : Nat) (hr : r < 2 ^ deg) : r / 2 ^ (deg - 0) = 0 := Nat.div_eq_of_lt (by simpa using hr)
theorem read_end (r deg : Nat) : r / 2 ^ (deg - deg) = r := by simp
end Go.Proofs.Ytpjlcmdidhdbcaa
