/- Proved here: the register is linear over exclusive or, and loses nothing. Conditions: as each theorem states them. -/
import Derived.Test.YtbjeljmnknibnaaDoorFSums
namespace Go.Proofs.YtbjeljmnknibnaaDoor.F

/-! ### The register, bit by bit -/
theorem shl_testBit (deg r j : Nat) (hd : deg ≤ 32) : (r * 2 % 4294967296 &&& (2 ^ deg - 1)).testBit j = (decide (j < deg) && (decide (1 ≤ j) && r.testBit (j - 1))) := by
  rw [Nat.testBit_and, Nat.testBit_two_pow_sub_one, show (4294967296 : Nat) = 2 ^ 32 from rfl, Nat.testBit_mod_two_pow, show r * 2 = r <<< 1 from by rw [Nat.shiftLeft_eq], Nat.testBit_shiftLeft]
  by_cases h : j < deg
  · have : j < 32 := by omega
    simp [h, this]
  · simp [h]

/-- The highest bit of a register. -/
def top (deg r : Nat) : Bool := r.testBit (deg - 1)
theorem top_div (deg r : Nat) (h1 : 1 ≤ deg) (hr : r < 2 ^ deg) : ((r / 2 ^ (deg - 1) : Nat) : Int) = bv (top deg r) := by
  have hlt : r / 2 ^ (deg - 1) < 2 := by
    rw [Nat.div_lt_iff_lt_mul (Nat.two_pow_pos _)]
    have := Nat.two_pow_pred_add_two_pow_pred (w := deg) (by omega)
    omega
  unfold top bv
  rw [Nat.testBit_eq_decide_div_mod_eq]
  have : r / 2 ^ (deg - 1) = 0 ∨ r / 2 ^ (deg - 1) = 1 := by
    generalize r / 2 ^ (deg - 1) = q at hlt
    omega
  rcases this with h | h <;> simp [h]

theorem bv_inj (a b : Bool) : bv a = bv b ↔ a = b := by cases a <;> cases b <;> simp [bv]

theorem step_eq (gen deg r : Nat) (b : Bool) (h1 : 1 ≤ deg) (hr : r < 2 ^ deg) : stepN gen deg r b = (r * 2 % 4294967296 &&& (2 ^ deg - 1)) ^^^ (if (b ^^ top deg r) then gen else 0) := by
  unfold stepN
  rw [top_div deg r h1 hr]
  by_cases h : b = top deg r
  · rw [if_pos ((bv_inj _ _).2 h), h]; simp
  · rw [if_neg (fun e => h ((bv_inj _ _).1 e))]
    have : (b ^^ top deg r) = true := by cases b <;> cases ht : top deg r <;> simp_all
    simp [this]

theorem ite_testBit (c : Bool) (g j : Nat) : (if c = true then g else 0).testBit j = (c && g.testBit j) := by cases c <;> simp

theorem step_xor (gen deg r s : Nat) (a b : Bool) (h1 : 1 ≤ deg) (hd : deg ≤ 32) (hr : r < 2 ^ deg) (hs : s < 2 ^ deg) : stepN gen deg (r ^^^ s) (a ^^ b) = stepN gen deg r a ^^^ stepN gen deg s b := by
  rw [step_eq gen deg _ _ h1 (Nat.xor_lt_two_pow hr hs), step_eq gen deg r a h1 hr, step_eq gen deg s b h1 hs]
  apply Nat.eq_of_testBit_eq
  intro j
  simp only [Nat.testBit_xor, shl_testBit _ _ _ hd, ite_testBit]
  simp only [top, Nat.testBit_xor]
  generalize r.testBit (deg - 1) = x
  generalize s.testBit (deg - 1) = y
  generalize r.testBit (j - 1) = u
  generalize s.testBit (j - 1) = v
  generalize decide (j < deg) = p
  generalize decide (1 ≤ j) = q
  generalize gen.testBit j = g
  revert a b x y u v p q g
  decide

theorem feed_lt {gen deg r : Nat} {l : List Bool} (hg : gen < 2 ^ deg) (hr : r < 2 ^ deg) : feedN gen deg r l < 2 ^ deg := feedN_lt gen deg r l hg hr

def zipx (a b : List Bool) : List Bool := List.zipWith (fun x y => x ^^ y) a b

theorem feed_xor (gen deg : Nat) (h1 : 1 ≤ deg) (hd : deg ≤ 32) (hg : gen < 2 ^ deg) : ∀ (a b : List Bool) (r s : Nat), a.length = b.length → r < 2 ^ deg → s < 2 ^ deg →
    feedN gen deg (r ^^^ s) (zipx a b) = feedN gen deg r a ^^^ feedN gen deg s b
  | [], [], r, s, _, _, _ => rfl
  | x :: a, y :: b, r, s, h, hr, hs => by
    show feedN gen deg (stepN gen deg (r ^^^ s) (x ^^ y)) (zipx a b) = feedN gen deg (stepN gen deg r x) a ^^^ feedN gen deg (stepN gen deg s y) b
    rw [step_xor gen deg r s x y h1 hd hr hs]
    exact feed_xor gen deg h1 hd hg a b _ _ (by simpa using h) (stepN_lt _ _ _ _ hg) (stepN_lt _ _ _ _ hg)

theorem feed_append (gen deg r : Nat) (a b : List Bool) : feedN gen deg r (a ++ b) = feedN gen deg (feedN gen deg r a) b := by simp [feedN]

def zeros (n : Nat) : List Bool := List.replicate n false

theorem step_zero (gen deg : Nat) (h1 : 1 ≤ deg) : stepN gen deg 0 false = 0 := by
  rw [step_eq gen deg 0 false h1 (Nat.two_pow_pos _)]; simp [top]
theorem feed_zeros (gen deg n : Nat) (h1 : 1 ≤ deg) : feedN gen deg 0 (zeros n) = 0 := by
  induction n with
  | zero => rfl
  | succ n ih =>
    show feedN gen deg (stepN gen deg 0 false) (zeros n) = 0
    rw [step_zero gen deg h1]; exact ih

theorem step_inj (gen deg r : Nat) (h1 : 1 ≤ deg) (hd : deg ≤ 32) (hr : r < 2 ^ deg) (ho : gen.testBit 0 = true) (h : stepN gen deg r false = 0) : r = 0 := by
  rw [step_eq gen deg r false h1 hr] at h
  have hb : ∀ j, ((r * 2 % 4294967296 &&& (2 ^ deg - 1)) ^^^ (if (false ^^ top deg r) then gen else 0)).testBit j = false := by intro j; rw [h]; simp
  cases ht : top deg r with
  | true =>
    have := hb 0
    rw [ht] at this
    rw [Nat.testBit_xor, shl_testBit _ _ _ hd, ite_testBit, ho] at this
    simp at this
  | false =>
    rw [ht] at hb
    apply Nat.eq_of_testBit_eq
    intro j
    rw [Nat.zero_testBit]
    by_cases hj : j + 1 < deg
    · have := hb (j + 1)
      rw [Nat.testBit_xor, shl_testBit _ _ _ hd, ite_testBit] at this
      simpa [hj] using this
    · by_cases hj2 : j + 1 = deg
      · have : j = deg - 1 := by omega
        rw [this]; exact ht
      · exact Nat.testBit_lt_two_pow (Nat.lt_of_lt_of_le hr (Nat.pow_le_pow_right (by decide) (by omega)))

theorem feed_inj (gen deg : Nat) (h1 : 1 ≤ deg) (hd : deg ≤ 32) (hg : gen < 2 ^ deg) (ho : gen.testBit 0 = true) : ∀ (n r : Nat), r < 2 ^ deg → feedN gen deg r (zeros n) = 0 → r = 0
  | 0, r, _, h => h
  | n + 1, r, hr, h => by
    have h' : feedN gen deg (stepN gen deg r false) (zeros n) = 0 := h
    exact step_inj gen deg r h1 hd hr ho (feed_inj gen deg h1 hd hg ho n _ (stepN_lt _ _ _ _ hg) h')

/-- Bits as a register's highest ones. -/
def word (deg : Nat) : List Bool → Nat
  | [] => 0
  | b :: l => (if b then 2 ^ (deg - 1) else 0) ^^^ (word deg l) >>> 1

theorem word_testBit (deg : Nat) (h1 : 1 ≤ deg) : ∀ (l : List Bool) (j : Nat), (word deg l).testBit j = (decide (j < deg) && (l[deg - 1 - j]?.getD false))
  | [], j => by simp [word]
  | b :: l, j => by
    simp only [word, Nat.testBit_xor, Nat.testBit_shiftRight]
    rw [word_testBit deg h1 l (1 + j)]
    have hb : (if b = true then 2 ^ (deg - 1) else 0).testBit j = (b && decide (j = deg - 1)) := by
      cases b
      · simp
      · simp [Nat.testBit_two_pow]; exact eq_comm
    rw [hb]
    by_cases hj : j < deg
    · by_cases e : j = deg - 1
      · subst e
        have : ¬ (1 + (deg - 1) < deg) := by omega
        simp [this, hj]
      · have h2 : 1 + j < deg := by omega
        have e2 : deg - 1 - j = (deg - 1 - (1 + j)) + 1 := by omega
        rw [e2]
        simp [e, hj, h2]
    · have h2 : ¬ (1 + j < deg) := by omega
      have e : ¬ (j = deg - 1) := by omega
      simp [hj, h2, e]

theorem word_lt (deg : Nat) (h1 : 1 ≤ deg) (l : List Bool) : word deg l < 2 ^ deg := by
  apply Nat.lt_pow_two_of_testBit
  intro j hj
  rw [word_testBit deg h1]; simp; omega

theorem feed_word (gen deg : Nat) (h1 : 1 ≤ deg) (hd : deg ≤ 32) (hg : gen < 2 ^ deg) : ∀ (l : List Bool) (r : Nat), l.length ≤ deg → r < 2 ^ deg →
    feedN gen deg r l = feedN gen deg (r ^^^ word deg l) (zeros l.length)
  | [], r, _, _ => by simp [word, zeros]
  | b :: l, r, hl, hr => by
    simp only [List.length_cons] at hl
    have hw := word_lt deg h1 l
    show feedN gen deg (stepN gen deg r b) l = feedN gen deg (stepN gen deg (r ^^^ word deg (b :: l)) false) (zeros l.length)
    rw [feed_word gen deg h1 hd hg l _ (by omega) (stepN_lt _ _ _ _ hg)]
    congr 1
    have hB : (if b = true then 2 ^ (deg - 1) else 0) < 2 ^ deg := by
      split
      · exact Nat.pow_lt_pow_right (by decide) (by omega)
      · exact Nat.two_pow_pos _
    have hW : word deg l >>> 1 < 2 ^ deg := Nat.lt_of_le_of_lt (Nat.shiftRight_le _ _) hw
    have e1 : r ^^^ word deg (b :: l) = (r ^^^ (if b = true then 2 ^ (deg - 1) else 0)) ^^^ (word deg l >>> 1) := by rw [word, Nat.xor_assoc]
    have e2 := step_xor gen deg (r ^^^ (if b = true then 2 ^ (deg - 1) else 0)) (word deg l >>> 1) false false h1 hd (Nat.xor_lt_two_pow hr hB) hW
    rw [Bool.xor_false] at e2
    rw [e1, e2]
    congr 1
    · rw [step_eq gen deg r b h1 hr, step_eq gen deg _ false h1 (Nat.xor_lt_two_pow hr hB)]
      have ht : top deg (r ^^^ (if b = true then 2 ^ (deg - 1) else 0)) = (b ^^ top deg r) := by
        simp only [top, Nat.testBit_xor]
        cases b <;> simp
      rw [ht, Bool.false_xor]
      congr 1
      apply Nat.eq_of_testBit_eq
      intro j
      rw [shl_testBit _ _ _ hd, shl_testBit _ _ _ hd, Nat.testBit_xor]
      by_cases hj : j < deg
      · have : (if b = true then 2 ^ (deg - 1) else 0).testBit (j - 1) = (b && decide (deg - 1 = j - 1)) := by cases b <;> simp [Nat.testBit_two_pow]
        rw [this]
        by_cases hj1 : 1 ≤ j
        · have : ¬ (deg - 1 = j - 1) := by omega
          simp [this]
        · simp [hj1]
      · simp [hj]
    · rw [step_eq gen deg _ false h1 hW]
      have ht : top deg (word deg l >>> 1) = false := by
        simp only [top, Nat.testBit_shiftRight]
        exact Nat.testBit_lt_two_pow (Nat.lt_of_lt_of_le hw (Nat.pow_le_pow_right (by decide) (by omega)))
      rw [ht]
      simp only [Bool.false_xor, Bool.false_eq_true, if_false, Nat.xor_zero]
      apply Nat.eq_of_testBit_eq
      intro j
      rw [shl_testBit _ _ _ hd, Nat.testBit_shiftRight]
      by_cases hj : j < deg
      · by_cases hj1 : 1 ≤ j
        · have : 1 + (j - 1) = j := by omega
          simp [hj, hj1, this]
        · have : j = 0 := by omega
          subst this
          have : (word deg l).testBit 0 = false := by
            rw [word_testBit deg h1]
            rw [List.getElem?_eq_none (by omega)]; simp
          rw [this]; simp
      · have : (word deg l).testBit j = false := by rw [word_testBit deg h1]; simp [hj]
        simp [hj, this]

/-- Few bits that leave nothing are all zero. -/
theorem feed_short (gen deg : Nat) (h1 : 1 ≤ deg) (hd : deg ≤ 32) (hg : gen < 2 ^ deg) (ho : gen.testBit 0 = true) (l : List Bool) (hl : l.length ≤ deg) (h : feedN gen deg 0 l = 0) : ∀ b ∈ l, b = false := by
  rw [feed_word gen deg h1 hd hg l 0 hl (Nat.two_pow_pos _), Nat.zero_xor] at h
  have hw := feed_inj gen deg h1 hd hg ho _ _ (word_lt deg h1 l) h
  intro b hb
  obtain ⟨i, hi, rfl⟩ := List.getElem_of_mem hb
  have := word_testBit deg h1 l (deg - 1 - i)
  rw [hw, Nat.zero_testBit] at this
  have e : deg - 1 - (deg - 1 - i) = i := by omega
  rw [e, List.getElem?_eq_getElem hi] at this
  have hlt : deg - 1 - i < deg := by omega
  simpa [hlt] using this.symm
end Go.Proofs.YtbjeljmnknibnaaDoor.F
