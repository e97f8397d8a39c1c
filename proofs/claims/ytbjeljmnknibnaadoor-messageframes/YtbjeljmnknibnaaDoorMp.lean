/- Proved here: messages as plain bytes: what is packed is unpacked, and the other way about; a beginning of it is none, nor is it with more behind it. Conditions: as each theorem states them. -/
import Derived.Test.YtbjeljmnknibnaaDoorPl
namespace Go.Proofs.YtbjeljmnknibnaaDoor
set_option linter.unusedSimpArgs false
set_option linter.unusedVariables false
open Go.RowKit

/-- Is a kind? -/
def knownB (k : Int) : Bool := decide (k = 2 ∨ k = 5 ∨ k = 7 ∨ k = 77 ∨ k = 90)
theorem knownB_iff {k : Int} : knownB k = true ↔ k = 2 ∨ k = 5 ∨ k = 7 ∨ k = 77 ∨ k = 90 := by simp [knownB]
/-- A message. -/
structure Me where
  ref : Int
  back : Bool
  kind : Int
  ies : List El
/-- Can it be? -/
def rightM (m : Me) : Bool := okL m.ies && decide (1 ≤ m.ref ∧ m.ref ≤ 8388607 ∧ (m.kind = 2 ∨ m.kind = 5 ∨ m.kind = 7 ∨ m.kind = 77 ∨ m.kind = 90))
theorem rightM_iff {m : Me} : rightM m = true ↔ okL m.ies = true ∧ 1 ≤ m.ref ∧ m.ref ≤ 8388607 ∧ knownB m.kind = true := by simp [rightM, knownB]
def backN (b : Bool) : Nat := if b then 8388608 else 0
/-- What lies ahead of the elements. -/
def headM (r k n : Nat) : List UInt8 := 9 :: 3 :: (beN 3 r ++ (UInt8.ofNat k :: 128 :: beN 2 n))
theorem headM_length (r k n : Nat) : (headM r k n).length = 9 := by simp [headM, beN_length]
/-- Its bytes. -/
def bytesM (m : Me) : List UInt8 := headM (m.ref.toNat + backN m.back) m.kind.toNat (bytesE m.ies).length ++ bytesE m.ies
theorem bytesM_length (m : Me) : (bytesM m).length = 9 + (bytesE m.ies).length := by simp [bytesM, headM_length]
/-- What is unpacked of bytes. -/
def unM (zs : List UInt8) : Except Int Me :=
  if 1000 < zs.length then .error 6 else
  match zs with
  | a :: b :: c :: d :: e :: f :: g :: h :: i :: t =>
    if a ≠ 9 ∨ b ≠ 3 ∨ g ≠ 128 ∨ numN [c, d, e] % 8388608 = 0 then .error 5
    else if knownB f.toNat = false then .error 12
    else if t.length < numN [h, i] then .error 2
    else if numN [h, i] < t.length then .error 3
    else match unE 16 t with
      | .error E => .error E
      | .ok L => .ok ⟨(numN [c, d, e] % 8388608 : Nat), decide (8388608 ≤ numN [c, d, e]), f.toNat, L⟩
  | _ => .error 2
theorem unM_long {zs : List UInt8} (h : 1000 < zs.length) : unM zs = .error 6 := by unfold unM; rw [if_pos h]
theorem unM_short {zs : List UInt8} (h : zs.length < 9) : unM zs = .error 2 := by
  unfold unM
  rw [if_neg (by omega)]
  split
  · simp at h; omega
  · rfl
theorem nine_of {zs : List UInt8} (h : 9 ≤ zs.length) : ∃ a b c d e f g h i t, zs = a :: b :: c :: d :: e :: f :: g :: h :: i :: t := by
  match zs, h with
  | a :: b :: c :: d :: e :: f :: g :: h :: i :: t, _ => exact ⟨a, b, c, d, e, f, g, h, i, t, rfl⟩
/-- What is told of bytes that are long enough, and not too long. -/
theorem unM_nine {a b c d e f g h i : UInt8} {t : List UInt8} (hl : t.length ≤ 991) : unM (a :: b :: c :: d :: e :: f :: g :: h :: i :: t) =
    if a ≠ 9 ∨ b ≠ 3 ∨ g ≠ 128 ∨ numN [c, d, e] % 8388608 = 0 then .error 5
    else if knownB f.toNat = false then .error 12
    else if t.length < numN [h, i] then .error 2
    else if numN [h, i] < t.length then .error 3
    else match unE 16 t with
      | .error E => .error E
      | .ok L => .ok ⟨(numN [c, d, e] % 8388608 : Nat), decide (8388608 ≤ numN [c, d, e]), f.toNat, L⟩ := by
  unfold unM
  rw [if_neg (by simp; omega)]
theorem known_byte {k : Int} (h : knownB k = true) : ∃ n : Nat, k = n ∧ n ≤ 90 ∧ ((UInt8.ofNat n).toNat : Int) = k := by
  rcases knownB_iff.1 h with rfl | rfl | rfl | rfl | rfl
  · exact ⟨2, rfl, by decide, rfl⟩
  · exact ⟨5, rfl, by decide, rfl⟩
  · exact ⟨7, rfl, by decide, rfl⟩
  · exact ⟨77, rfl, by decide, rfl⟩
  · exact ⟨90, rfl, by decide, rfl⟩
theorem beN3 (r : Nat) : beN 3 r = [UInt8.ofNat (r / 256 ^ 2), UInt8.ofNat (r / 256 ^ 1), UInt8.ofNat (r / 256 ^ 0)] := rfl
theorem beN2 (r : Nat) : beN 2 r = [UInt8.ofNat (r / 256 ^ 1), UInt8.ofNat (r / 256 ^ 0)] := rfl
theorem num3 {r : Nat} (h : r < 16777216) : numN [UInt8.ofNat (r / 256 ^ 2), UInt8.ofNat (r / 256 ^ 1), UInt8.ofNat (r / 256 ^ 0)] = r := by
  rw [← beN3, numN_beN, Nat.mod_eq_of_lt (by simpa using h)]
theorem num2 {r : Nat} (h : r < 65536) : numN [UInt8.ofNat (r / 256 ^ 1), UInt8.ofNat (r / 256 ^ 0)] = r := by
  rw [← beN2, numN_beN, Nat.mod_eq_of_lt (by simpa using h)]
theorem headM_eq (r k n : Nat) (t : List UInt8) : headM r k n ++ t = 9 :: 3 :: UInt8.ofNat (r / 256 ^ 2) :: UInt8.ofNat (r / 256 ^ 1) :: UInt8.ofNat (r / 256 ^ 0) :: UInt8.ofNat k :: 128 :: UInt8.ofNat (n / 256 ^ 1) :: UInt8.ofNat (n / 256 ^ 0) :: t := rfl
/-- A head that is right, with whatever behind it. -/
theorem unM_head {m : Me} (hr : rightM m = true) {n : Nat} (hn : n < 65536) {t : List UInt8} (hl : t.length ≤ 991) : unM (headM (m.ref.toNat + backN m.back) m.kind.toNat n ++ t) =
    if t.length < n then .error 2
    else if n < t.length then .error 3
    else match unE 16 t with
      | .error E => .error E
      | .ok L => .ok ⟨m.ref, m.back, m.kind, L⟩ := by
  obtain ⟨ho, h1, h2, hk⟩ := rightM_iff.1 hr
  obtain ⟨r, hr'⟩ : ∃ r : Nat, m.ref = r := ⟨m.ref.toNat, by omega⟩
  obtain ⟨k, hk1, hk2, hk3⟩ := known_byte hk
  have hb : backN m.back ≤ 8388608 := by unfold backN; split <;> omega
  have e1 : m.ref.toNat = r := by omega
  have e2 : m.kind.toNat = k := by omega
  rw [e1, e2, headM_eq, unM_nine hl, num3 (by omega), num2 hn, hk3]
  have hm : (r + backN m.back) % 8388608 = r := by unfold backN; split <;> omega
  have hg : decide (8388608 ≤ r + backN m.back) = m.back := by
    unfold backN
    cases m.back
    · simp; omega
    · simp
  rw [hm, hg, if_neg (by simp; omega), if_neg (by rw [hk]; decide), ← hr']
/-- What was packed is unpacked. -/
theorem unM_bytes {m : Me} (hr : rightM m = true) (hl : (bytesM m).length ≤ 1000) : unM (bytesM m) = .ok m := by
  rw [bytesM_length] at hl
  have ho := okL_iff.1 (rightM_iff.1 hr).1
  unfold bytesM
  rw [unM_head hr (by omega) (by omega), if_neg (by omega), if_neg (by omega), unE_bytes _ _ ho.2, if_pos ho.1]
/-- A beginning of it is too short. -/
theorem unM_cut {m : Me} (hr : rightM m = true) (hl : (bytesM m).length ≤ 1000) {k : Nat} (hk : k < (bytesM m).length) : unM ((bytesM m).take k) = .error 2 := by
  rw [bytesM_length] at hl hk
  by_cases h9 : k < 9
  · apply unM_short
    rw [List.length_take]; omega
  · have e : (bytesM m).take k = headM (m.ref.toNat + backN m.back) m.kind.toNat (bytesE m.ies).length ++ (bytesE m.ies).take (k - 9) := by
      unfold bytesM
      rw [List.take_append, headM_length, List.take_of_length_le (by rw [headM_length]; omega)]
    rw [e, unM_head hr (by omega) (by rw [List.length_take]; omega), if_pos (by rw [List.length_take]; omega)]
/-- With one byte more behind it there is too much. -/
theorem unM_more {m : Me} (hr : rightM m = true) (hl : (bytesM m).length ≤ 1000) (x : UInt8) : unM (bytesM m ++ [x]) = .error 3 ∨ unM (bytesM m ++ [x]) = .error 6 := by
  by_cases h : 1000 < (bytesM m ++ [x]).length
  · exact .inr (unM_long h)
  · left
    rw [List.length_append, bytesM_length, List.length_singleton] at h
    unfold bytesM
    rw [List.append_assoc, unM_head hr (by omega) (by rw [List.length_append, List.length_singleton]; omega), if_neg (by rw [List.length_append]; omega), if_pos (by rw [List.length_append, List.length_singleton]; omega)]
theorem eq_be3 (a b c : UInt8) : [a, b, c] = beN 3 (numN [a, b, c]) := by
  have ha := a.toNat_lt; have hb := b.toNat_lt; have hc := c.toNat_lt
  have e : numN [a, b, c] = (a.toNat * 256 + b.toNat) * 256 + c.toNat := by simp [numN]
  simp only [beN, List.cons.injEq, and_true, ← UInt8.toNat_inj, byteN]
  rw [e]
  omega
/-- What is unpacked is packed to what it was. -/
theorem bytes_unM {zs : List UInt8} {m : Me} (h : unM zs = .ok m) : bytesM m = zs ∧ rightM m = true ∧ zs.length ≤ 1000 := by
  by_cases hl : 1000 < zs.length
  · rw [unM_long hl] at h; cases h
  by_cases h9 : zs.length < 9
  · rw [unM_short h9] at h; cases h
  obtain ⟨a, b, c, d, e, f, g, hh, i, t, rfl⟩ := nine_of (zs := zs) (by omega)
  have ht : t.length ≤ 991 := by simp at hl; omega
  rw [unM_nine ht] at h
  split at h
  · cases h
  rename_i h5
  split at h
  · cases h
  rename_i h12
  split at h
  · cases h
  rename_i h2
  split at h
  · cases h
  rename_i h3
  cases hu : unE 16 t with
  | error E => rw [hu] at h; cases h
  | ok L =>
    rw [hu] at h
    cases h
    obtain ⟨hb, h16, h200⟩ := bytes_unE 16 t L hu
    have hN := numN_lt [c, d, e]
    simp only [ne_eq, not_or, Decidable.not_not] at h5
    obtain ⟨rfl, rfl, rfl, h0⟩ := h5
    have hk : knownB (f.toNat : Int) = true := by
      cases hk : knownB (f.toNat : Int)
      · exact absurd hk h12
      · rfl
    obtain ⟨N, hNe⟩ : ∃ N, numN [c, d, e] = N := ⟨_, rfl⟩
    have hN' : N < 16777216 := by rw [← hNe]; simpa using hN
    refine ⟨?_, rightM_iff.2 ⟨okL_iff.2 ⟨h16, h200⟩, ?_, ?_, hk⟩, by omega⟩
    · show headM _ _ (bytesE L).length ++ bytesE L = _
      rw [hb]
      show headM (((numN [c, d, e] % 8388608 : Nat) : Int).toNat + backN (decide (8388608 ≤ numN [c, d, e]))) ((f.toNat : Int).toNat) t.length ++ t = _
      have e1 : ((numN [c, d, e] % 8388608 : Nat) : Int).toNat + backN (decide (8388608 ≤ numN [c, d, e])) = numN [c, d, e] := by
        rw [hNe]
        unfold backN
        by_cases hd : 8388608 ≤ N
        · rw [if_pos (by simpa using hd)]; omega
        · rw [if_neg (by simpa using hd)]; omega
      have e2 : t.length = numN [hh, i] := by omega
      rw [e1, e2]
      unfold headM
      rw [← eq_be3, ← eq_be2]
      simp
    · show (1 : Int) ≤ ((numN [c, d, e] % 8388608 : Nat) : Int)
      omega
    · show ((numN [c, d, e] % 8388608 : Nat) : Int) ≤ 8388607
      omega
end Go.Proofs.YtbjeljmnknibnaaDoor
