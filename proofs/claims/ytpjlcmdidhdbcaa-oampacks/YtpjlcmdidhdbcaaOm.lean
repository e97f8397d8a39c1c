/- Proved here: maintenance cells as plain bytes: what is packed is unpacked, what is unpacked is packed to what it was, and what is replied. Conditions: as each theorem states them. -/
import Derived.Test.YtpjlcmdidhdbcaaMathS
namespace Go.Proofs.Ytpjlcmdidhdbcaa
set_option linter.unusedSimpArgs false
set_option linter.unusedVariables false
open Go.RowKit

/-- What a maintenance cell tells. -/
structure Om where
  k : Int
  d : UInt8
  a : Bool
  t : Nat
  p : List UInt8
  s : List UInt8
structure Om.Ok (o : Om) : Prop where
  t : o.t < 4294967296
  p : o.p.length = 16
  s : o.s.length = 16
def z16 : List UInt8 := List.replicate 16 0
theorem z16_len : z16.length = 16 := by simp [z16]
def om0 : Om := ⟨0, 0, false, 0, z16, z16⟩
theorem om0_ok : om0.Ok := ⟨by decide, z16_len, z16_len⟩
def isK (k : Int) : Bool := k == 0 || (k == 1 || (k == 4 || k == 8))
theorem isK_iff {k : Int} : isK k = true ↔ k = 0 ∨ k = 1 ∨ k = 4 ∨ k = 8 := by simp [isK]
/-- Are two alike? -/
def eqB (r s : Om) : Bool := r.k == s.k && (r.d == s.d && (r.a == s.a && (r.t == s.t && (decide (r.p = s.p) && decide (r.s = s.s)))))
theorem eqB_iff {r s : Om} : eqB r s = true ↔ r = s := by
  cases r; cases s
  simp [eqB]
theorem eqB_self (r : Om) : eqB r r = true := eqB_iff.2 rfl
theorem eqB_comm (r s : Om) : eqB r s = eqB s r := by
  rw [Bool.eq_iff_iff, eqB_iff, eqB_iff]
  exact ⟨Eq.symm, Eq.symm⟩
/-- What its kind has of it. -/
def hadN (o : Om) : Om :=
  if o.k = 0 ∨ o.k = 1 then ⟨o.k, o.d, false, 0, o.p, z16⟩ else if o.k = 4 then ⟨4, 0, false, 0, z16, z16⟩ else if o.k = 8 then ⟨8, 0, o.a, o.t, o.p, o.s⟩ else om0
theorem had_ok {o : Om} (h : o.Ok) : (hadN o).Ok := by
  unfold hadN
  split
  · exact ⟨(by show 0 < 4294967296; decide), h.p, z16_len⟩
  · split
    · exact ⟨by decide, z16_len, z16_len⟩
    · split
      · exact ⟨h.t, h.p, h.s⟩
      · exact om0_ok
def canB (o : Om) : Bool := eqB o (hadN o)
theorem can_kind {o : Om} (h : canB o = true) : isK o.k = true := by
  have e := eqB_iff.1 h
  rw [isK_iff]
  unfold hadN at e
  split at e
  · omega
  · split at e
    · rename_i h4; exact .inr (.inr (.inl h4))
    · split at e
      · rename_i h8; exact .inr (.inr (.inr h8))
      · exfalso
        rename_i h1 _ _
        exact h1 (.inl (congrArg Om.k e))
theorem can_cases {o : Om} (h : canB o = true) : (∃ k d p, (k = 0 ∨ k = 1) ∧ o = ⟨k, d, false, 0, p, z16⟩) ∨ o = ⟨4, 0, false, 0, z16, z16⟩ ∨ ∃ a t p s, o = ⟨8, 0, a, t, p, s⟩ := by
  have e := eqB_iff.1 h
  have hk := isK_iff.1 (can_kind h)
  unfold hadN at e
  split at e
  · rename_i h1
    exact .inl ⟨_, _, _, h1, e⟩
  · split at e
    · exact .inr (.inl e)
    · split at e
      · exact .inr (.inr ⟨_, _, _, _, e⟩)
      · omega
theorem can_one (k : Int) (d : UInt8) (p : List UInt8) (hk : k = 0 ∨ k = 1) : canB ⟨k, d, false, 0, p, z16⟩ = true := by
  rw [canB, eqB_iff, hadN, if_pos hk]
theorem can_check : canB ⟨4, 0, false, 0, z16, z16⟩ = true := by rw [canB, eqB_iff]; rfl
theorem can_loop (a : Bool) (t : Nat) (p s : List UInt8) : canB ⟨8, 0, a, t, p, s⟩ = true := by rw [canB, eqB_iff]; rfl

theorem byteN (c : Nat) : (UInt8.ofNat c).toNat = c % 256 := by simp
def be4 (n : Nat) : List UInt8 := [UInt8.ofNat (n / 16777216), UInt8.ofNat (n / 65536), UInt8.ofNat (n / 256), UInt8.ofNat n]
def askN (a : Bool) : UInt8 := if a = true then 1 else 0
/-- The bytes of what its kind has. -/
def toldN (o : Om) : List UInt8 := if o.k = 8 then askN o.a :: be4 o.t ++ (o.p ++ o.s) else if o.k = 4 then [] else o.d :: o.p
def headN (o : Om) : List UInt8 := UInt8.ofNat (16 + o.k.toNat) :: toldN o
def bodyN (o : Om) : List UInt8 := headN o ++ List.replicate (45 - (toldN o).length) 106
def layN (o : Om) : List UInt8 := bodyN o ++ [0, 0]
/-- Its payload. -/
def payN (o : Om) : List UInt8 := sealN (layN o)
theorem told_len {o : Om} (h : o.Ok) : (toldN o).length ≤ 37 := by
  unfold toldN
  split
  · simp [be4, h.p, h.s]
  · split
    · simp
    · simp [h.p]
theorem body_len {o : Om} (h : o.Ok) : (bodyN o).length = 46 := by
  have := told_len h
  simp [bodyN, headN]; omega
theorem lay_len {o : Om} (h : o.Ok) : (layN o).length = 48 := by simp [layN, body_len h]
theorem pay_len {o : Om} (h : o.Ok) : (payN o).length = 48 := by rw [payN, sealN_length, lay_len h]

/-- A byte as a number. -/
def gN (p : List UInt8) (i : Nat) : Nat := (p[i]?.getD 0).toNat
theorem gN_lt (p : List UInt8) (i : Nat) : gN p i < 256 := UInt8.toNat_lt _
def kdN (p : List UInt8) : Int := (gN p 0 : Int) - 16
def plN (p : List UInt8) (i : Nat) : List UInt8 := (p.drop i).take 16
theorem pl_len {p : List UInt8} {i : Nat} (h : p.length = 48) (hi : i ≤ 32) : (plN p i).length = 16 := by simp [plN, h]; omega
def nuN (p : List UInt8) : Nat := ((gN p 2 * 256 + gN p 3) * 256 + gN p 4) * 256 + gN p 5
theorem nu_lt (p : List UInt8) : nuN p < 4294967296 := by
  have h := gN_lt p
  have := h 2; have := h 3; have := h 4; have := h 5
  unfold nuN; omega
/-- What is told, whatever is fixed. -/
def liftN (p : List UInt8) : Om :=
  if kdN p = 8 then ⟨8, 0, gN p 1 == 1, nuN p, plN p 6, plN p 22⟩ else if kdN p = 4 then ⟨4, 0, false, 0, z16, z16⟩ else ⟨kdN p, p[1]?.getD 0, false, 0, plN p 2, z16⟩
theorem lift_ok {p : List UInt8} (h : p.length = 48) : (liftN p).Ok := by
  unfold liftN
  split
  · exact ⟨nu_lt p, pl_len h (by decide), pl_len h (by decide)⟩
  · split
    · exact ⟨by decide, z16_len, z16_len⟩
    · exact ⟨(by show 0 < 4294967296; decide), pl_len h (by decide), z16_len⟩
theorem lift_can {p : List UInt8} (h : isK (kdN p) = true) : canB (liftN p) = true := by
  have hk := isK_iff.1 h
  unfold liftN
  split
  · exact can_loop _ _ _ _
  · split
    · exact can_check
    · exact can_one _ _ _ (by omega)
theorem lift_kind (p : List UInt8) : (liftN p).k = kdN p := by
  unfold liftN
  split
  · rename_i h; exact h.symm
  · split
    · rename_i h; exact h.symm
    · rfl

theorem pay_split {o : Om} (h : o.Ok) : ∃ x y : UInt8, payN o = bodyN o ++ [x, y] := by
  have ht : (payN o).take 46 = bodyN o := by
    rw [payN, (seal_front _ (lay_len h)).1, layN, List.take_append_of_le_length (by rw [body_len h]; exact Nat.le_refl _), List.take_of_length_le (by rw [body_len h]; exact Nat.le_refl _)]
  have hd : ((payN o).drop 46).length = 2 := by simp [pay_len h]
  obtain ⟨x, y, hxy⟩ : ∃ x y, (payN o).drop 46 = [x, y] := by
    match (payN o).drop 46, hd with
    | [x, y], _ => exact ⟨x, y, rfl⟩
  exact ⟨x, y, by rw [← ht, ← hxy, List.take_append_drop]⟩
theorem pay_sealed {o : Om} (h : o.Ok) : sealN (payN o) = payN o := seal_twice _ (lay_len h)
theorem lift_pay {o : Om} (h : o.Ok) (hc : canB o = true) : liftN (payN o) = o ∧ kdN (payN o) = o.k := by
  obtain ⟨x, y, e⟩ := pay_split h
  obtain ⟨ht, hp, hs⟩ := h
  rcases can_cases hc with ⟨k, d, p, hk, rfl⟩ | rfl | ⟨a, t, p, s, rfl⟩
  · have hkd : kdN (payN ⟨k, d, false, 0, p, z16⟩) = k := by
      rw [e]
      rcases hk with rfl | rfl <;> rfl
    refine ⟨?_, hkd⟩
    unfold liftN
    rw [hkd, if_neg (by omega), if_neg (by omega), e]
    have e1 : toldN ⟨k, d, false, 0, p, z16⟩ = d :: p := by unfold toldN; rw [if_neg (by simp only; omega), if_neg (by simp only; omega)]
    simp only [bodyN, headN, e1, plN, List.cons_append, List.drop_succ_cons, List.drop_zero, List.append_assoc]
    rw [List.take_append_of_le_length (by simp only at hp; omega), List.take_of_length_le (by simp only at hp; omega)]
    rfl
  · have hkd : kdN (payN ⟨4, 0, false, 0, z16, z16⟩) = 4 := by rw [e]; rfl
    refine ⟨?_, hkd⟩
    unfold liftN
    rw [hkd, if_neg (by decide), if_pos rfl]
  · have hkd : kdN (payN ⟨8, 0, a, t, p, s⟩) = 8 := by rw [e]; rfl
    refine ⟨?_, hkd⟩
    unfold liftN
    rw [hkd, if_pos rfl, e]
    have e1 : toldN ⟨8, 0, a, t, p, s⟩ = askN a :: be4 t ++ (p ++ s) := rfl
    simp only at ht hp hs
    have d1 : ∀ r : List UInt8, (p ++ r).take 16 = p := fun r => by rw [List.take_append_of_le_length (by omega), List.take_of_length_le (by omega)]
    have d2 : ∀ r : List UInt8, (p ++ r).drop 16 = r := fun r => by rw [← hp, List.drop_left]
    have d3 : ∀ r : List UInt8, (s ++ r).take 16 = s := fun r => by rw [List.take_append_of_le_length (by omega), List.take_of_length_le (by omega)]
    simp only [bodyN, headN, e1, plN, be4, List.cons_append, List.nil_append, List.drop_succ_cons, List.drop_zero, List.append_assoc, d1, d2, d3, gN, nuN, List.getElem?_cons_succ, List.getElem?_cons_zero, Option.getD_some, byteN]
    congr 1
    · unfold askN; cases a <;> rfl
    · omega
theorem pay_inj {r s : Om} (hr : r.Ok) (hs : s.Ok) (cr : canB r = true) (cs : canB s = true) (h : payN r = payN s) : r = s := by
  rw [← (lift_pay hr cr).1, ← (lift_pay hs cs).1, h]

/-- What a payload tells, and the error's number. -/
def unN (p : List UInt8) : Om × Nat :=
  if sealN p ≠ p then (om0, 4) else if isK (kdN p) = false then (om0, 12) else if payN (liftN p) ≠ p then (om0, 5) else (liftN p, 0)
theorem un_pay {o : Om} (h : o.Ok) (hc : canB o = true) : unN (payN o) = (o, 0) := by
  obtain ⟨h1, h2⟩ := lift_pay h hc
  unfold unN
  rw [h1, h2, if_neg (fun e => e (pay_sealed h)), if_neg (by rw [can_kind hc]; decide), if_neg (fun e => e rfl)]
theorem un_sum {p : List UInt8} (h : sealN p ≠ p) : unN p = (om0, 4) := if_pos h
theorem un_cases {p : List UInt8} (hl : p.length = 48) : (unN p).1.Ok ∧ ((unN p).2 = 0 ∧ payN (unN p).1 = p ∧ canB (unN p).1 = true ∨ (unN p).2 ≠ 0 ∧ (unN p).1 = om0) := by
  unfold unN
  split
  · exact ⟨om0_ok, .inr ⟨by decide, rfl⟩⟩
  · split
    · exact ⟨om0_ok, .inr ⟨by decide, rfl⟩⟩
    · split
      · exact ⟨om0_ok, .inr ⟨by decide, rfl⟩⟩
      · rename_i h2 h3
        exact ⟨lift_ok hl, .inl ⟨rfl, Decidable.not_not.1 h3, lift_can (by simpa using h2)⟩⟩
theorem un_lt (p : List UInt8) : (unN p).2 ≤ 12 := by
  unfold unN
  split
  · decide
  · split
    · decide
    · split
      · decide
      · exact Nat.zero_le _
/-- Sealed anew with another first byte. -/
theorem un_first {q : List UInt8} (hl : q.length = 48) : (((unN (sealN q)).2 == 12) = !isK ((gN q 0 : Int) - 16)) ∧ ((unN (sealN q)).2 = 0 → (unN (sealN q)).1.k = (gN q 0 : Int) - 16) := by
  have hk : kdN (sealN q) = (gN q 0 : Int) - 16 := by
    have ht := (seal_front q hl).1
    have := congrArg (fun l => l[0]?) ht
    simp only [List.getElem?_take_of_lt (show 0 < 46 by decide)] at this
    unfold kdN gN
    rw [this]
  unfold unN
  rw [if_neg (fun e => e (seal_twice q hl)), hk]
  cases h : isK ((gN q 0 : Int) - 16)
  · exact ⟨by rw [if_pos rfl]; rfl, by rw [if_pos rfl]; intro e; cases e⟩
  · rw [if_neg (by decide)]
    split
    · exact ⟨rfl, by intro e; cases e⟩
    · exact ⟨rfl, fun _ => by rw [lift_kind, hk]⟩

/-- A bit turned over is told. -/
theorem flip_told {ps : List UInt8} (h : ps.length = 48) (k : Nat) (hk : k < 384) : sealN (flipN (sealN ps) k) ≠ flipN (sealN ps) k := by
  have hl : (sealN ps).length = 48 := by rw [sealN_length, h]
  have hb : burstTo (sealN ps) k 1 10 = flipN (sealN ps) k := by
    have h0 : hit 48 k 1 0 = true := by simp [hit]; omega
    have hn : ∀ i, 0 < i → hit 48 k 1 i = false := by
      intro i hi
      have : Nat.testBit 1 i = false := by
        rw [Nat.testBit_eq_decide_div_mod_eq]
        have : 1 / 2 ^ i = 0 := Nat.div_eq_of_lt (Nat.one_lt_two_pow (by omega))
        rw [this]; rfl
      simp [hit, this]
    have step : ∀ i, burstTo (sealN ps) k 1 (i + 1) = flipN (sealN ps) k := by
      intro i
      induction i with
      | zero => rw [burstTo, hl, h0]; rfl
      | succ i ih => rw [burstTo, hl, hn (i + 1) (by omega), ih]; rfl
    exact step 9
  have hc : changedTo 48 k 1 10 = true := by
    rw [changed_iff]
    refine ⟨0, by decide, ?_⟩
    simp [hit]
    try omega
  have := sealed_burst ps h k 1
  rw [hb, hc] at this
  intro e
  have := this.1 e
  cases this

def ones : List UInt8 := List.replicate 16 255
theorem ones_len : ones.length = 16 := by simp [ones]
/-- What is sent back; is it? -/
def repB (o : Om) (h : List UInt8) : Bool := o.k == 8 && (o.a && (decide (o.p = h) || decide (o.p = ones)))
def repN (o : Om) (h : List UInt8) : Om := if repB o h = true then ⟨o.k, o.d, false, o.t, h, o.s⟩ else om0
theorem rep_ok {o : Om} (h : o.Ok) {p : List UInt8} (hp : p.length = 16) : (repN o p).Ok := by
  unfold repN
  split
  · exact ⟨h.t, hp, h.s⟩
  · exact om0_ok
theorem rep_can {o : Om} {p : List UInt8} (h : repB o p = true) : canB (repN o p) = canB o := by
  have hk : o.k = 8 := by
    simp only [repB, Bool.and_eq_true, beq_iff_eq] at h
    exact h.1
  rw [Bool.eq_iff_iff, repN, if_pos h, canB, canB, eqB_iff, eqB_iff]
  obtain ⟨k, d, a, t, q, s⟩ := o
  simp only at hk
  subst hk
  simp [hadN]
end Go.Proofs.Ytpjlcmdidhdbcaa
