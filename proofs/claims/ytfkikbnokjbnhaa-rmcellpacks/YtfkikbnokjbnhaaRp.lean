/- Proved here: cells of rates as plain bytes: what is packed is unpacked, what is unpacked is packed to what it was, and what is marked. Conditions: as each theorem states them. -/
import Derived.Test.YtfkikbnokjbnhaaMathS
import Derived.Test.YtfkikbnokjbnhaaPm
namespace Go.Proofs.Ytfkikbnokjbnhaa
set_option linter.unusedSimpArgs false
set_option linter.unusedVariables false
open Go.RowKit

/-- What a cell of rates tells. -/
structure Rm where
  bk : Bool
  nr : Bool
  ci : Bool
  ni : Bool
  ra : Bool
  er : Nat
  cc : Nat
  mc : Nat
  ql : Nat
  sn : Nat
structure Rm.Ok (r : Rm) : Prop where
  er : r.er < 65536
  cc : r.cc < 65536
  mc : r.mc < 65536
  ql : r.ql < 4294967296
  sn : r.sn < 4294967296
def rm0 : Rm := ⟨false, false, false, false, false, 0, 0, 0, 0, 0⟩
theorem rm0_ok : rm0.Ok := ⟨by decide, by decide, by decide, by decide, by decide⟩
def bN (b : Bool) (n : Nat) : Nat := if b = true then n else 0
def flagN (r : Rm) : Nat := bN r.bk 128 + bN r.nr 64 + bN r.ci 32 + bN r.ni 16 + bN r.ra 8
theorem flag_lt (r : Rm) : flagN r < 256 := by
  unfold flagN bN; split <;> split <;> split <;> split <;> split <;> decide
theorem flag_eight (r : Rm) : flagN r % 8 = 0 := by
  unfold flagN bN; split <;> split <;> split <;> split <;> split <;> decide
theorem byteN (c : Nat) : (UInt8.ofNat c).toNat = c % 256 := by simp
def be2 (n : Nat) : List UInt8 := [UInt8.ofNat (n / 256), UInt8.ofNat n]
def be4 (n : Nat) : List UInt8 := [UInt8.ofNat (n / 16777216), UInt8.ofNat (n / 65536), UInt8.ofNat (n / 256), UInt8.ofNat n]
def headN (r : Rm) : List UInt8 := [1, UInt8.ofNat (flagN r)] ++ be2 r.er ++ be2 r.cc ++ be2 r.mc ++ be4 r.ql ++ be4 r.sn
def bodyN (r : Rm) : List UInt8 := headN r ++ List.replicate 30 106
def layN (r : Rm) : List UInt8 := bodyN r ++ [0, 0]
/-- Its payload. -/
def payN (r : Rm) : List UInt8 := sealN (layN r)
theorem head_len (r : Rm) : (headN r).length = 16 := rfl
theorem body_len (r : Rm) : (bodyN r).length = 46 := by simp [bodyN, head_len]
theorem lay_len (r : Rm) : (layN r).length = 48 := by simp [layN, body_len]
theorem pay_len (r : Rm) : (payN r).length = 48 := by rw [payN, sealN_length, lay_len]
def canB (r : Rm) : Bool := riB r.er && (riB r.cc && riB r.mc)

/-- A byte as a number. -/
def gN (p : List UInt8) (i : Nat) : Nat := (p[i]?.getD 0).toNat
theorem gN_lt (p : List UInt8) (i : Nat) : gN p i < 256 := UInt8.toNat_lt _
/-- What is told, whatever is fixed. -/
def liftN (p : List UInt8) : Rm :=
  ⟨gN p 1 / 128 % 2 == 1, gN p 1 / 64 % 2 == 1, gN p 1 / 32 % 2 == 1, gN p 1 / 16 % 2 == 1, gN p 1 / 8 % 2 == 1,
    gN p 2 * 256 + gN p 3, gN p 4 * 256 + gN p 5, gN p 6 * 256 + gN p 7,
    ((gN p 8 * 256 + gN p 9) * 256 + gN p 10) * 256 + gN p 11, ((gN p 12 * 256 + gN p 13) * 256 + gN p 14) * 256 + gN p 15⟩
theorem lift_ok (p : List UInt8) : (liftN p).Ok := by
  have h := gN_lt p
  have := h 2; have := h 3; have := h 4; have := h 5; have := h 6; have := h 7; have := h 8; have := h 9
  have := h 10; have := h 11; have := h 12; have := h 13; have := h 14; have := h 15
  refine ⟨?_, ?_, ?_, ?_, ?_⟩ <;> (simp only [liftN]; omega)

theorem gN_take {p q : List UInt8} {n i : Nat} (h : p.take n = q.take n) (hi : i < n) : gN p i = gN q i := by
  have := congrArg (fun l => l[i]?) h
  simp only [List.getElem?_take_of_lt hi] at this
  unfold gN; rw [this]
theorem pay_take (r : Rm) : (payN r).take 46 = bodyN r := by
  rw [payN, (seal_front _ (lay_len r)).1, layN, List.take_append_of_le_length (by rw [body_len]; exact Nat.le_refl _), List.take_of_length_le (by rw [body_len]; exact Nat.le_refl _)]
theorem pay_last (r : Rm) : gN (payN r) 46 / 4 = 0 := by
  obtain ⟨_, a, b, ha, hb, hab⟩ := seal_front _ (lay_len r)
  have h0 : (layN r)[46]? = some 0 := by rw [layN, List.getElem?_append_right (by rw [body_len]; exact Nat.le_refl _), body_len]; rfl
  rw [h0] at ha
  cases ha
  unfold gN payN
  rw [hb]
  exact hab
theorem gN_pay {r : Rm} {i : Nat} (h : i < 46) : gN (payN r) i = gN (bodyN r) i :=
  gN_take (n := 46) (by rw [pay_take, List.take_of_length_le (by rw [body_len]; exact Nat.le_refl _)]) h
theorem gN_head {r : Rm} {i : Nat} (h : i < 16) : gN (payN r) i = gN (headN r) i := by
  rw [gN_pay (by omega)]
  unfold gN bodyN
  rw [List.getElem?_append_left (by rw [head_len]; exact h)]
theorem gN_mid {r : Rm} {i : Nat} (h : 16 ≤ i) (h2 : i < 46) : gN (payN r) i = 106 := by
  rw [gN_pay h2]
  unfold gN bodyN
  rw [List.getElem?_append_right (by rw [head_len]; exact h), head_len, List.getElem?_replicate, if_pos (by omega)]
  rfl
theorem pay_sealed (r : Rm) : sealN (payN r) = payN r := seal_twice _ (lay_len r)
theorem bit_iff (b : Bool) (n m : Nat) (h : n % 2 = bN b 1) : (n % 2 == 1) = b := by
  cases b
  · rw [show bN false 1 = 0 from rfl] at h; rw [h]; rfl
  · rw [show bN true 1 = 1 from rfl] at h; rw [h]; rfl
theorem flag_bits (r : Rm) : flagN r / 128 % 2 = bN r.bk 1 ∧ flagN r / 64 % 2 = bN r.nr 1 ∧ flagN r / 32 % 2 = bN r.ci 1 ∧ flagN r / 16 % 2 = bN r.ni 1 ∧ flagN r / 8 % 2 = bN r.ra 1 := by
  unfold flagN bN; split <;> split <;> split <;> split <;> split <;> decide
theorem lift_pay {r : Rm} (h : r.Ok) : liftN (payN r) = r := by
  obtain ⟨h1, h2, h3, h4, h5⟩ := h
  have hf := flag_lt r
  have e := fun i (hi : i < 16) => gN_head (r := r) hi
  have e1 := (e 1 (by decide)).trans (show gN (headN r) 1 = flagN r from (byteN _).trans (by omega))
  have e2 := (e 2 (by decide)).trans (show gN (headN r) 2 = r.er / 256 from (byteN _).trans (by omega))
  have e3 := (e 3 (by decide)).trans (show gN (headN r) 3 = r.er % 256 from (byteN _).trans (by omega))
  have e4 := (e 4 (by decide)).trans (show gN (headN r) 4 = r.cc / 256 from (byteN _).trans (by omega))
  have e5 := (e 5 (by decide)).trans (show gN (headN r) 5 = r.cc % 256 from (byteN _).trans (by omega))
  have e6 := (e 6 (by decide)).trans (show gN (headN r) 6 = r.mc / 256 from (byteN _).trans (by omega))
  have e7 := (e 7 (by decide)).trans (show gN (headN r) 7 = r.mc % 256 from (byteN _).trans (by omega))
  have e8 := (e 8 (by decide)).trans (show gN (headN r) 8 = r.ql / 16777216 % 256 from (byteN _).trans (by omega))
  have e9 := (e 9 (by decide)).trans (show gN (headN r) 9 = r.ql / 65536 % 256 from (byteN _).trans (by omega))
  have e10 := (e 10 (by decide)).trans (show gN (headN r) 10 = r.ql / 256 % 256 from (byteN _).trans (by omega))
  have e11 := (e 11 (by decide)).trans (show gN (headN r) 11 = r.ql % 256 from (byteN _).trans (by omega))
  have e12 := (e 12 (by decide)).trans (show gN (headN r) 12 = r.sn / 16777216 % 256 from (byteN _).trans (by omega))
  have e13 := (e 13 (by decide)).trans (show gN (headN r) 13 = r.sn / 65536 % 256 from (byteN _).trans (by omega))
  have e14 := (e 14 (by decide)).trans (show gN (headN r) 14 = r.sn / 256 % 256 from (byteN _).trans (by omega))
  have e15 := (e 15 (by decide)).trans (show gN (headN r) 15 = r.sn % 256 from (byteN _).trans (by omega))
  obtain ⟨f1, f2, f3, f4, f5⟩ := flag_bits r
  unfold liftN
  rw [e1, e2, e3, e4, e5, e6, e7, e8, e9, e10, e11, e12, e13, e14, e15, bit_iff _ _ 0 f1, bit_iff _ _ 0 f2, bit_iff _ _ 0 f3, bit_iff _ _ 0 f4, bit_iff _ _ 0 f5]
  cases r
  simp only at h1 h2 h3 h4 h5
  simp only [Rm.mk.injEq, true_and]
  omega
theorem pay_inj {r s : Rm} (hr : r.Ok) (hs : s.Ok) (h : payN r = payN s) : r = s := by rw [← lift_pay hr, ← lift_pay hs, h]

/-- Sealing hangs on what is ahead of the check alone. -/
theorem seal_congr {ps qs : List UInt8} (hp : ps.length = 48) (hq : qs.length = 48) (ht : ps.take 46 = qs.take 46) (h6 : gN ps 46 / 4 = gN qs 46 / 4) : sealN ps = sealN qs := by
  obtain ⟨pre, a, b, rfl, hl⟩ := split48 hp
  obtain ⟨pre2, c, d, rfl, hl2⟩ := split48 hq
  rw [List.take_append_of_le_length (by omega), List.take_append_of_le_length (by omega), List.take_of_length_le (by omega), List.take_of_length_le (by omega)] at ht
  subst ht
  have g1 : ∀ x y : UInt8, gN (pre ++ [x, y]) 46 = x.toNat := by
    intro x y
    unfold gN
    rw [List.getElem?_append_right (by omega), hl]; rfl
  rw [g1, g1] at h6
  have hc : checkN (pre ++ [a, b]) = checkN (pre ++ [c, d]) := by
    unfold checkN
    rw [(bits_split pre a b hl).1, (bits_split pre c d hl).1, six_bits _ _ h6]
  rw [seal_split pre a b hl, seal_split pre c d hl, hc, h6]

/-- What is fixed is as it must be. -/
def fixB (p : List UInt8) : Bool := (gN p 1 % 8 == 0) && ((gN p 46 / 4 == 0) && ((p.take 46).drop 16).all (· == 106))
theorem fix_iff {p : List UInt8} (hl : p.length = 48) (hs : sealN p = p) (h0 : gN p 0 = 1) : payN (liftN p) = p ↔ fixB p = true := by
  have hg := gN_lt p
  constructor
  · intro h
    obtain ⟨r, hr⟩ : ∃ r, liftN p = r := ⟨_, rfl⟩
    rw [hr] at h
    have e1 : gN p 1 % 8 = 0 := by
      rw [← h, gN_head (by decide), show gN (headN r) 1 = flagN r from (byteN _).trans (by have := flag_lt r; omega)]
      exact flag_eight r
    have e2 : gN p 46 / 4 = 0 := by rw [← h]; exact pay_last r
    have e3 : ((p.take 46).drop 16).all (· == 106) = true := by
      rw [← h, pay_take, bodyN, List.drop_append_of_le_length (by rw [head_len]; exact Nat.le_refl _), List.drop_of_length_le (by rw [head_len]; exact Nat.le_refl _)]
      decide
    simp only [fixB, e1, e2, e3]; rfl
  · intro h
    simp only [fixB, Bool.and_eq_true, beq_iff_eq] at h
    obtain ⟨e1, e2, e3⟩ := h
    have hm : (p.take 46).drop 16 = List.replicate 30 106 := by
      refine List.eq_replicate_iff.2 ⟨by simp [hl], fun x hx => ?_⟩
      have := List.all_eq_true.1 e3 x hx
      simpa using this
    have hh : p.take 16 = headN (liftN p) := by
      have key : ∀ i, i < 16 → ∃ x, p[i]? = some x ∧ gN p i = x.toNat := by
        intro i hi
        refine ⟨p[i]'(by omega), by rw [List.getElem?_eq_getElem], ?_⟩
        unfold gN; rw [List.getElem?_eq_getElem (by omega)]; rfl
      have get : ∀ i n, i < 16 → gN p i = n % 256 → p[i]? = some (UInt8.ofNat n) := by
        intro i n hi hn
        obtain ⟨x, hx, hx2⟩ := key i hi
        rw [hx]
        congr 1
        rw [← UInt8.toNat_inj, ← hx2, hn, byteN]
      have f1 : flagN (liftN p) = gN p 1 := by
        have hb : ∀ (n m : Nat), bN (n % 2 == 1) m = n % 2 * m := by
          intro n m
          rcases Nat.mod_two_eq_zero_or_one n with h | h <;> rw [h] <;> simp [bN]
        simp only [flagN, liftN, hb]
        have := hg 1
        omega
      have h1 := hg 1; have h2 := hg 2; have h3 := hg 3; have h4 := hg 4; have h5 := hg 5; have h6 := hg 6; have h7 := hg 7; have h8 := hg 8
      have h9 := hg 9; have h10 := hg 10; have h11 := hg 11; have h12 := hg 12; have h13 := hg 13; have h14 := hg 14; have h15 := hg 15
      apply List.ext_getElem?
      intro i
      by_cases hi : i < 16
      · rw [List.getElem?_take_of_lt hi]
        have : i = 0 ∨ i = 1 ∨ i = 2 ∨ i = 3 ∨ i = 4 ∨ i = 5 ∨ i = 6 ∨ i = 7 ∨ i = 8 ∨ i = 9 ∨ i = 10 ∨ i = 11 ∨ i = 12 ∨ i = 13 ∨ i = 14 ∨ i = 15 := by omega
        rcases this with rfl | rfl | rfl | rfl | rfl | rfl | rfl | rfl | rfl | rfl | rfl | rfl | rfl | rfl | rfl | rfl
        · exact get 0 1 (by decide) (by omega)
        · exact get 1 _ (by decide) (by omega)
        · exact get 2 _ (by decide) (by simp only [liftN]; omega)
        · exact get 3 _ (by decide) (by simp only [liftN]; omega)
        · exact get 4 _ (by decide) (by simp only [liftN]; omega)
        · exact get 5 _ (by decide) (by simp only [liftN]; omega)
        · exact get 6 _ (by decide) (by simp only [liftN]; omega)
        · exact get 7 _ (by decide) (by simp only [liftN]; omega)
        · exact get 8 _ (by decide) (by simp only [liftN]; omega)
        · exact get 9 _ (by decide) (by simp only [liftN]; omega)
        · exact get 10 _ (by decide) (by simp only [liftN]; omega)
        · exact get 11 _ (by decide) (by simp only [liftN]; omega)
        · exact get 12 _ (by decide) (by simp only [liftN]; omega)
        · exact get 13 _ (by decide) (by simp only [liftN]; omega)
        · exact get 14 _ (by decide) (by simp only [liftN]; omega)
        · exact get 15 _ (by decide) (by simp only [liftN]; omega)
      · rw [List.getElem?_eq_none (by simp; omega), List.getElem?_eq_none (by rw [head_len]; omega)]
    have ht : (layN (liftN p)).take 46 = p.take 46 := by
      rw [layN, List.take_append_of_le_length (by rw [body_len]; exact Nat.le_refl _), List.take_of_length_le (by rw [body_len]; exact Nat.le_refl _), bodyN, ← hh, ← hm]
      have : p.take 16 = (p.take 46).take 16 := by rw [List.take_take]; rfl
      rw [this, List.take_append_drop]
    have h6 : gN (layN (liftN p)) 46 / 4 = gN p 46 / 4 := by
      have : gN (layN (liftN p)) 46 = 0 := by
        unfold gN
        rw [layN, List.getElem?_append_right (by rw [body_len]; exact Nat.le_refl _), body_len]; rfl
      rw [this, e2]
    rw [payN, seal_congr (lay_len _) hl ht h6, hs]

/-- What a payload tells, and the error's number. -/
def unN (p : List UInt8) : Rm × Nat :=
  if sealN p ≠ p then (rm0, 4) else if gN p 0 ≠ 1 then (rm0, 12) else if payN (liftN p) ≠ p then (rm0, 5) else if canB (liftN p) = false then (rm0, 11) else (liftN p, 0)
theorem un_pay {r : Rm} (h : r.Ok) (hc : canB r = true) : unN (payN r) = (r, 0) := by
  unfold unN
  rw [lift_pay h, if_neg (fun h => h (pay_sealed r)), if_neg (fun h => h (by rw [gN_head (by decide)]; rfl)), if_neg (fun h => h rfl), if_neg (by rw [hc]; decide)]
theorem un_sum {p : List UInt8} (h : sealN p ≠ p) : unN p = (rm0, 4) := if_pos h
theorem un_cases (p : List UInt8) : (unN p).1.Ok ∧ ((unN p).2 = 0 ∧ payN (unN p).1 = p ∧ canB (unN p).1 = true ∨ (unN p).2 ≠ 0 ∧ (unN p).1 = rm0) := by
  unfold unN
  split
  · exact ⟨rm0_ok, .inr ⟨by decide, rfl⟩⟩
  · split
    · exact ⟨rm0_ok, .inr ⟨by decide, rfl⟩⟩
    · split
      · exact ⟨rm0_ok, .inr ⟨by decide, rfl⟩⟩
      · split
        · exact ⟨rm0_ok, .inr ⟨by decide, rfl⟩⟩
        · rename_i h3 h4
          exact ⟨lift_ok p, .inl ⟨rfl, Decidable.not_not.1 h3, by simpa using h4⟩⟩
theorem un_lt (p : List UInt8) : (unN p).2 ≤ 12 := by
  unfold unN
  split
  · decide
  · split
    · decide
    · split
      · decide
      · split
        · decide
        · exact Nat.zero_le _

/-- A bit turned over is told. -/
theorem flip_told {ps : List UInt8} (h : ps.length = 48) (k : Nat) (hk : k < 384) : sealN (flipN (sealN ps) k) ≠ flipN (sealN ps) k := by
  have hl : (sealN ps).length = 48 := by rw [sealN_length, h]
  have hb : burstTo (sealN ps) k 1 10 = flipN (sealN ps) k := by
    have h0 : hit 48 k 1 0 = true := by simp [hit]; omega
    have hn : ∀ i, 0 < i → hit 48 k 1 i = false := by
      intro i hi
      have : Nat.testBit 1 i = false := by
        rw [Nat.testBit_eq_decide_div_mod_eq]
        have : 1 / 2 ^ i = 0 := Nat.div_eq_of_lt (Nat.one_lt_two_pow (by omega))
        rw [this]; rfl
      simp [hit, this]
    have step : ∀ i, burstTo (sealN ps) k 1 (i + 1) = flipN (sealN ps) k := by
      intro i
      induction i with
      | zero => rw [burstTo, hl, h0]; rfl
      | succ i ih => rw [burstTo, hl, hn (i + 1) (by omega), ih]; rfl
    exact step 9
  have hc : changedTo 48 k 1 10 = true := by
    rw [changed_iff]
    refine ⟨0, by decide, ?_⟩
    simp [hit]
    try omega
  have := sealed_burst ps h k 1
  rw [hb, hc] at this
  intro e
  have := this.1 e
  cases this

/-- Marked; sent back. -/
def markN (r : Rm) (er : Nat) (ci ni : Bool) : Rm := ⟨r.bk, r.nr, r.ci || ci, r.ni || ni, r.ra, if riB er = true then min r.er er else r.er, r.cc, r.mc, r.ql, r.sn⟩
def turnN (r : Rm) : Rm := ⟨true, false, r.ci, r.ni, r.ra, r.er, r.cc, r.mc, r.ql, r.sn⟩
theorem mark_ok {r : Rm} (h : r.Ok) (er : Nat) (ci ni : Bool) : (markN r er ci ni).Ok := by
  obtain ⟨h1, h2, h3, h4, h5⟩ := h
  refine ⟨?_, h2, h3, h4, h5⟩
  simp only [markN]
  split <;> omega
theorem turn_ok {r : Rm} (h : r.Ok) : (turnN r).Ok := ⟨h.1, h.2, h.3, h.4, h.5⟩
theorem mark_le (r : Rm) (er : Nat) (ci ni : Bool) : (markN r er ci ni).er ≤ r.er := by
  simp only [markN]; split <;> omega
theorem mark_comm (r : Rm) (a b : Nat) (c0 c1 c2 c3 : Bool) : markN (markN r a c0 c1) b c2 c3 = markN (markN r b c2 c3) a c0 c1 := by
  simp only [markN, Rm.mk.injEq, true_and, and_true]
  refine ⟨by cases r.ci <;> cases c0 <;> cases c2 <;> rfl, by cases r.ni <;> cases c1 <;> cases c3 <;> rfl, ?_⟩
  split <;> split <;> omega
theorem mark_again (r : Rm) (a b : Nat) (c0 c1 c2 c3 : Bool) : markN (markN (markN r a c0 c1) b c2 c3) a c0 c1 = markN (markN r a c0 c1) b c2 c3 := by
  simp only [markN, Rm.mk.injEq, true_and, and_true]
  refine ⟨by cases r.ci <;> cases c0 <;> cases c2 <;> rfl, by cases r.ni <;> cases c1 <;> cases c3 <;> rfl, ?_⟩
  split <;> split <;> omega

/-- Are two alike? -/
def eqB (r s : Rm) : Bool := r.bk == s.bk && (r.nr == s.nr && (r.ci == s.ci && (r.ni == s.ni && (r.ra == s.ra && (r.er == s.er && (r.cc == s.cc && (r.mc == s.mc && (r.ql == s.ql && r.sn == s.sn))))))))
theorem eqB_iff {r s : Rm} : eqB r s = true ↔ r = s := by
  cases r; cases s
  simp [eqB]
theorem eqB_self (r : Rm) : eqB r r = true := eqB_iff.2 rfl

/-- The greatest code that can be whose rate isn't above a number. -/
def IsN (x : Nat) (c : Nat) : Prop := (x < 512 ∧ c = 0) ∨ (512 ≤ x ∧ 16384 ≤ c ∧ c < 32768 ∧ scN c ≤ x ∧ (c = 32767 ∨ x < scN (c + 1)))
theorem isN_unique {x c d : Nat} (hc : IsN x c) (hd : IsN x d) : c = d := by
  rcases hc with ⟨h1, rfl⟩ | ⟨h1, c1, c2, c3, c4⟩ <;> rcases hd with ⟨h2, rfl⟩ | ⟨h2, d1, d2, d3, d4⟩
  · rfl
  · omega
  · omega
  · rcases Nat.lt_trichotomy c d with h | h | h
    · rcases c4 with rfl | c4
      · omega
      · have := scN_mono (a := c + 1) (b := d) (by omega) d2 (by omega); omega
    · exact h
    · rcases d4 with rfl | d4
      · omega
      · have := scN_mono (a := d + 1) (b := c) (by omega) c2 (by omega); omega
theorem isN_right {x c : Nat} (h : IsN x c) : riB c = true ∧ c < 32768 := by
  rcases h with ⟨h1, rfl⟩ | ⟨h1, c1, c2, c3, c4⟩
  · exact ⟨rfl, by decide⟩
  · exact ⟨riB_iff.2 (.inr ⟨c1, c2⟩), c2⟩
/-- A code that can be is not above it just if its rate isn't above the number. -/
theorem isN_le {x c : Nat} (h : IsN x c) {d : Nat} (hd : riB d = true) : d ≤ c ↔ scN d ≤ x := by
  rcases riB_iff.1 hd with rfl | ⟨d1, d2⟩
  · rw [show scN 0 = 0 by decide]; omega
  · have hp := scN_pos (c := d) (by omega)
    rcases h with ⟨h1, rfl⟩ | ⟨h1, c1, c2, c3, c4⟩
    · omega
    · constructor
      · intro hle
        have := scN_mono (a := d) (b := c) d1 c2 hle; omega
      · intro hle
        rcases Nat.lt_or_ge c d with hlt | hge
        · exfalso
          rcases c4 with rfl | c4
          · omega
          · have := scN_mono (a := c + 1) (b := d) (by omega) d2 (by omega); omega
        · exact hge
/-- The number of a sender's rate. -/
def nextN (now peak least : Nat) (r : Rm) : Nat :=
  max (min (min (if r.ci = true then scN now - scN now / 16 else if r.ni = true then scN now else scN now + scN peak / 16) (scN r.er)) (scN peak)) (scN least)
theorem next_le (now peak least : Nat) (r : Rm) : nextN now peak least r ≤ 1023 * 2147483648 := by
  have h1 := scN_le peak
  have h2 := scN_le least
  unfold nextN
  omega
theorem rates_low {now peak least n : Nat} {r : Rm} (hl : riB least = true) (h : IsN (nextN now peak least r) n) : least ≤ n :=
  (isN_le h hl).2 (by unfold nextN; omega)
theorem rates_high {now peak least n : Nat} {r : Rm} (hl : riB least = true) (hp : riB peak = true) (he : riB r.er = true) (h : IsN (nextN now peak least r) n) : n ≤ max least (min peak r.er) := by
  have hn := isN_right h
  have hs : scN n ≤ nextN now peak least r := (isN_le h hn.1).1 (Nat.le_refl _)
  have up : ∀ {d}, riB d = true → scN n ≤ scN d → n ≤ d := by
    intro d hd hle
    rcases Nat.lt_or_ge d n with hlt | hge
    · have := (scN_lt_iff hd hn.1).2 hlt; omega
    · exact hge
  unfold nextN at hs
  rcases Nat.le_total (scN n) (scN least) with h1 | h1
  · have := up hl h1; omega
  · have h2 : scN n ≤ scN least ∨ (scN n ≤ scN r.er ∧ scN n ≤ scN peak) := by omega
    rcases h2 with h2 | ⟨h2, h3⟩
    · have := up hl h2; omega
    · have := up he h2; have := up hp h3; omega
theorem rates_stay {now peak least n : Nat} {r : Rm} (hw : riB now = true) (hl : riB least = true) (hc : r.ci = true ∨ r.ni = true) (h : IsN (nextN now peak least r) n) : n ≤ max now least := by
  have hn := isN_right h
  have hs : scN n ≤ nextN now peak least r := (isN_le h hn.1).1 (Nat.le_refl _)
  have up : ∀ {d}, riB d = true → scN n ≤ scN d → n ≤ d := by
    intro d hd hle
    rcases Nat.lt_or_ge d n with hlt | hge
    · have := (scN_lt_iff hd hn.1).2 hlt; omega
    · exact hge
  have hx : (if r.ci = true then scN now - scN now / 16 else if r.ni = true then scN now else scN now + scN peak / 16) ≤ scN now := by
    rcases hc with hc | hc
    · rw [if_pos hc]; omega
    · split
      · omega
      · exact Nat.le_refl _
  unfold nextN at hs
  generalize (if r.ci = true then scN now - scN now / 16 else if r.ni = true then scN now else scN now + scN peak / 16) = y at hs hx
  have h2 : scN n ≤ scN least ∨ scN n ≤ scN now := by omega
  rcases h2 with h2 | h2
  · have := up hl h2; omega
  · have := up hw h2; omega
theorem rates_fall {now peak least n : Nat} {r : Rm} (hw : riB now = true) (hl : riB least = true) (hc : r.ci = true) (h : IsN (nextN now peak least r) n) : n < now ∨ n ≤ least ∨ scN now < 1024 := by
  have hn := isN_right h
  have hs : scN n ≤ nextN now peak least r := (isN_le h hn.1).1 (Nat.le_refl _)
  unfold nextN at hs
  rw [if_pos hc] at hs
  rcases Nat.lt_or_ge (scN now) 1024 with h1 | h1
  · exact .inr (.inr h1)
  · have h2 : scN n ≤ scN least ∨ scN n < scN now := by omega
    rcases h2 with h2 | h2
    · right; left
      rcases Nat.lt_or_ge least n with hlt | hge
      · have := (scN_lt_iff hl hn.1).2 hlt; omega
      · exact hge
    · left
      exact (scN_lt_iff hn.1 hw).1 h2
end Go.Proofs.Ytfkikbnokjbnhaa
