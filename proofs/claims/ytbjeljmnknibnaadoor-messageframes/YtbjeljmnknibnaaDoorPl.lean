/- Proved here: elements as plain bytes: what is packed is unpacked, and the other way about; numbers as bytes. Conditions: as each theorem states them. -/
import Derived.Test.YtbjeljmnknibnaaDoorBase
namespace Go.Proofs.YtbjeljmnknibnaaDoor
set_option linter.unusedSimpArgs false
set_option linter.unusedVariables false
open Go.RowKit

/-! ### Numbers as bytes -/
theorem byteN (c : Nat) : (UInt8.ofNat c).toNat = c % 256 := by simp
/-- What bytes come to, the highest one first. -/
def numN (l : List UInt8) : Nat := l.foldl (fun x y => x * 256 + y.toNat) 0
theorem numN_snoc (l : List UInt8) (y : UInt8) : numN (l ++ [y]) = numN l * 256 + y.toNat := by simp [numN]
theorem fold_add : ∀ (l : List UInt8) (a : Nat), l.foldl (fun x y => x * 256 + y.toNat) a = a * 256 ^ l.length + numN l
  | [], a => by simp [numN]
  | y :: l, a => by
    rw [List.foldl_cons, fold_add l (a * 256 + y.toNat)]
    show _ = a * 256 ^ (l.length + 1) + (y :: l).foldl (fun x y => x * 256 + y.toNat) 0
    rw [List.foldl_cons, fold_add l (0 * 256 + y.toNat), Nat.pow_succ, Nat.add_mul, Nat.zero_mul, Nat.zero_add, Nat.mul_assoc a 256, Nat.mul_comm 256, Nat.add_assoc]
theorem numN_cons (y : UInt8) (l : List UInt8) : numN (y :: l) = y.toNat * 256 ^ l.length + numN l := by
  show (y :: l).foldl (fun x y => x * 256 + y.toNat) 0 = _
  rw [List.foldl_cons, fold_add, Nat.zero_mul, Nat.zero_add]
theorem numN_lt : ∀ l : List UInt8, numN l < 256 ^ l.length
  | [] => by simp [numN]
  | y :: l => by
    have := numN_lt l
    have hy := y.toNat_lt
    rw [numN_cons, List.length_cons, Nat.pow_succ]
    calc y.toNat * 256 ^ l.length + numN l < y.toNat * 256 ^ l.length + 256 ^ l.length := by omega
      _ = (y.toNat + 1) * 256 ^ l.length := by rw [Nat.succ_mul]
      _ ≤ 256 * 256 ^ l.length := Nat.mul_le_mul_right _ (by omega)
      _ = _ := Nat.mul_comm _ _
/-- A number as so many bytes, the highest one first. -/
def beN : Nat → Nat → List UInt8
  | 0, _ => []
  | n + 1, x => UInt8.ofNat (x / 256 ^ n) :: beN n x
theorem beN_length : ∀ n x, (beN n x).length = n
  | 0, _ => rfl
  | n + 1, x => by simp [beN, beN_length n x]
theorem beN_get : ∀ n x i, i < n → (beN n x)[i]? = some (UInt8.ofNat (x / 256 ^ (n - 1 - i)))
  | 0, _, i, h => by omega
  | n + 1, x, 0, _ => by simp [beN]
  | n + 1, x, i + 1, h => by
    have := beN_get n x i (by omega)
    simp only [beN, List.getElem?_cons_succ, this]
    rw [show n + 1 - 1 - (i + 1) = n - 1 - i by omega]
theorem numN_beN : ∀ n x, numN (beN n x) = x % 256 ^ n
  | 0, x => by simp [beN, numN, Nat.mod_one]
  | n + 1, x => by
    rw [beN, numN_cons, beN_length, numN_beN n x, byteN, Nat.pow_succ, Nat.mod_mul, Nat.add_comm, Nat.mul_comm]
theorem beN_inj {n x y : Nat} (hx : x < 256 ^ n) (hy : y < 256 ^ n) (h : beN n x = beN n y) : x = y := by
  have := congrArg numN h
  rwa [numN_beN, numN_beN, Nat.mod_eq_of_lt hx, Nat.mod_eq_of_lt hy] at this

/-! ### Elements -/
/-- An element. -/
structure El where
  id : UInt8
  body : List UInt8
/-- Its bytes. -/
def layE (x : El) : List UInt8 := (x.id :: 128 :: beN 2 x.body.length) ++ x.body
def bytesE (L : List El) : List UInt8 := L.flatMap layE
theorem bytesE_nil : bytesE [] = [] := rfl
theorem bytesE_cons (x : El) (L : List El) : bytesE (x :: L) = layE x ++ bytesE L := by simp [bytesE]
theorem bytesE_append (A B : List El) : bytesE (A ++ B) = bytesE A ++ bytesE B := by simp [bytesE]
theorem bytesE_snoc (A : List El) (x : El) : bytesE (A ++ [x]) = bytesE A ++ layE x := by simp [bytesE]
theorem layE_length (x : El) : (layE x).length = x.body.length + 4 := by simp [layE, beN_length]; omega
theorem bytesE_length_le : ∀ (L : List El), (∀ x ∈ L, x.body.length ≤ 300) → (bytesE L).length ≤ L.length * 304
  | [], _ => by simp [bytesE_nil]
  | x :: L, h => by
    have := bytesE_length_le L (fun y hy => h y (List.mem_cons_of_mem _ hy))
    have hx := h x List.mem_cons_self
    rw [bytesE_cons, List.length_append, layE_length, List.length_cons]; omega
/-- Is a Body too long? -/
def longB (x : El) : Bool := decide (200 < x.body.length)
/-- Can they be packed? -/
def okL (L : List El) : Bool := decide (L.length ≤ 16) && !L.any longB
theorem okL_iff {L : List El} : okL L = true ↔ L.length ≤ 16 ∧ ∀ x ∈ L, x.body.length ≤ 200 := by
  simp [okL, longB]
theorem okL_append {A B : List El} (ha : okL A = true) (hb : okL B = true) (h : A.length + B.length ≤ 16) : okL (A ++ B) = true := by
  rw [okL_iff] at *
  refine ⟨by simpa using h, fun x hx => ?_⟩
  rcases List.mem_append.1 hx with h | h
  · exact ha.2 x h
  · exact hb.2 x h

/-- What the first element's head tells: an error, or how many bytes its Body has. -/
def headN (r : List UInt8) : Except Int Nat :=
  match r with
  | _ :: m :: h :: l :: t => if m ≠ 128 then .error 5 else if 200 < numN [h, l] then .error 6 else if t.length < numN [h, l] then .error 2 else .ok (numN [h, l])
  | _ => .error 2
/-- What is unpacked of bytes, if k more elements may come. -/
def unE : Nat → List UInt8 → Except Int (List El)
  | _, [] => .ok []
  | 0, _ :: _ => .error 6
  | k + 1, i :: r => match headN (i :: r) with
    | .error e => .error e
    | .ok n => match unE k ((i :: r).drop (4 + n)) with
      | .error e => .error e
      | .ok L => .ok (⟨i, ((i :: r).drop 4).take n⟩ :: L)
theorem unE_nil (k : Nat) : unE k [] = .ok [] := by cases k <;> rfl
theorem unE_zero {r : List UInt8} (h : r ≠ []) : unE 0 r = .error 6 := by cases r <;> trivial
theorem unE_err {k : Nat} {r : List UInt8} (h : r ≠ []) {e : Int} (he : headN r = .error e) : unE (k + 1) r = .error e := by
  cases r with
  | nil => exact absurd rfl h
  | cons i r => simp only [unE, he]
/-- Ahead of what is unpacked stands what was. -/
def aheadE (D : List El) : Except Int (List El) → Except Int (List El)
  | .error e => .error e
  | .ok L => .ok (D ++ L)
theorem aheadE_nil (x : Except Int (List El)) : aheadE [] x = x := by cases x <;> rfl
theorem aheadE_app (D E : List El) (x : Except Int (List El)) : aheadE D (aheadE E x) = aheadE (D ++ E) x := by cases x <;> simp [aheadE]
theorem unE_ok {k : Nat} {i : UInt8} {r : List UInt8} {n : Nat} (he : headN (i :: r) = .ok n) : unE (k + 1) (i :: r) = aheadE [⟨i, ((i :: r).drop 4).take n⟩] (unE k ((i :: r).drop (4 + n))) := by
  simp only [unE, he]
  cases unE k ((i :: r).drop (4 + n)) <;> rfl
theorem headN_ok {r : List UInt8} {n : Nat} (h : headN r = .ok n) : ∃ i a b t, r = i :: 128 :: a :: b :: t ∧ numN [a, b] = n ∧ n ≤ 200 ∧ n ≤ t.length := by
  unfold headN at h
  split at h
  · rename_i i m a b t
    split at h
    · cases h
    · rename_i hm
      split at h
      · cases h
      · split at h
        · cases h
        · simp only [ne_eq, Decidable.not_not] at hm
          cases h
          subst hm
          exact ⟨i, a, b, t, rfl, rfl, by omega, by omega⟩
  · cases h
theorem headN_lay {x : El} (hx : x.body.length ≤ 200) (r : List UInt8) : headN (layE x ++ r) = .ok x.body.length := by
  have e : numN [UInt8.ofNat (x.body.length / 256 ^ 1), UInt8.ofNat (x.body.length / 256 ^ 0)] = x.body.length := by
    have := numN_beN 2 x.body.length
    rw [Nat.mod_eq_of_lt (by omega)] at this
    exact this
  show headN (x.id :: 128 :: UInt8.ofNat (x.body.length / 256 ^ 1) :: UInt8.ofNat (x.body.length / 256 ^ 0) :: (x.body ++ r)) = _
  simp only [headN, e]
  rw [if_neg (by simp), if_neg (by omega), if_neg (by simp)]
/-- What was packed is unpacked, if there are not too many. -/
theorem unE_bytes : ∀ (L : List El) (k : Nat), (∀ x ∈ L, x.body.length ≤ 200) → unE k (bytesE L) = if L.length ≤ k then .ok L else .error 6
  | [], k, _ => by rw [bytesE_nil, unE_nil]; simp
  | x :: L, 0, h => by
    rw [bytesE_cons]
    simp [layE, unE]
  | x :: L, k + 1, h => by
    have hx := h x List.mem_cons_self
    have ih := unE_bytes L k (fun y hy => h y (List.mem_cons_of_mem _ hy))
    have hh := headN_lay hx (bytesE L)
    have el : layE x ++ bytesE L = x.id :: (128 :: UInt8.ofNat (x.body.length / 256 ^ 1) :: UInt8.ofNat (x.body.length / 256 ^ 0) :: (x.body ++ bytesE L)) := by simp [layE, beN]
    rw [bytesE_cons, el]
    rw [el] at hh
    rw [unE_ok hh]
    have d1 : (x.id :: (128 :: UInt8.ofNat (x.body.length / 256 ^ 1) :: UInt8.ofNat (x.body.length / 256 ^ 0) :: (x.body ++ bytesE L))).drop (4 + x.body.length) = bytesE L := by
      rw [Nat.add_comm]; simp
    have d2 : ((x.id :: (128 :: UInt8.ofNat (x.body.length / 256 ^ 1) :: UInt8.ofNat (x.body.length / 256 ^ 0) :: (x.body ++ bytesE L))).drop 4).take x.body.length = x.body := by simp
    rw [d1, d2, ih]
    by_cases hl : L.length ≤ k
    · rw [if_pos hl, if_pos (by simpa using hl)]; rfl
    · rw [if_neg hl, if_neg (by simpa using hl)]; rfl
theorem eq_be2 (a b : UInt8) : [a, b] = beN 2 (numN [a, b]) := by
  have ha := a.toNat_lt; have hb := b.toNat_lt
  have e : numN [a, b] = a.toNat * 256 + b.toNat := by simp [numN]
  simp only [beN, List.cons.injEq, and_true, ← UInt8.toNat_inj, byteN]
  rw [e]
  omega
/-- What is unpacked is packed to what it was. -/
theorem bytes_unE : ∀ (k : Nat) (r : List UInt8) (L : List El), unE k r = .ok L → bytesE L = r ∧ L.length ≤ k ∧ ∀ x ∈ L, x.body.length ≤ 200
  | k, [], L, h => by rw [unE_nil] at h; cases h; exact ⟨rfl, Nat.zero_le _, by simp⟩
  | 0, i :: r, L, h => by cases h
  | k + 1, i :: r, L, h => by
    cases hh : headN (i :: r) with
    | error e => rw [unE_err (by simp) hh] at h; cases h
    | ok n =>
      rw [unE_ok hh] at h
      cases hu : unE k ((i :: r).drop (4 + n)) with
      | error e => rw [hu] at h; cases h
      | ok M =>
        rw [hu] at h
        cases h
        obtain ⟨i', a, b, t, er, hn, h200, hlen⟩ := headN_ok hh
        cases er
        obtain ⟨ih1, ih2, ih3⟩ := bytes_unE k _ M hu
        have hl : (t.take n).length = n := by rw [List.length_take]; omega
        refine ⟨?_, by simpa using ih2, ?_⟩
        · show bytesE (⟨i, t.take n⟩ :: M) = _
          have et : t = t.take n ++ t.drop n := (List.take_append_drop n t).symm
          have ed : (i :: 128 :: a :: b :: t).drop (4 + n) = t.drop n := by rw [Nat.add_comm]; simp
          have eb : beN 2 n = [a, b] := by rw [← hn]; exact (eq_be2 a b).symm
          rw [bytesE_cons, ih1, ed]
          simp only [layE, hl, eb, List.cons_append, List.nil_append, List.append_assoc, List.take_append_drop]
        · intro x hx
          rcases List.mem_cons.1 hx with rfl | hx
          · show (t.take n).length ≤ 200
            omega
          · exact ih3 x hx
theorem unE_err_of {k : Nat} {r : List UInt8} {e : Int} (h : unE k r = .error e) : e = 2 ∨ e = 5 ∨ e = 6 := by
  induction k generalizing r with
  | zero => cases r with
    | nil => cases h
    | cons i r => cases h; simp
  | succ k ih =>
    cases r with
    | nil => rw [unE_nil] at h; cases h
    | cons i r =>
      cases hh : headN (i :: r) with
      | error e' =>
        rw [unE_err (by simp) hh] at h
        cases h
        unfold headN at hh
        split at hh
        · split at hh
          · cases hh; simp
          · split at hh
            · cases hh; simp
            · split at hh
              · cases hh; simp
              · cases hh
        · cases hh; simp
      | ok n =>
        rw [unE_ok hh] at h
        cases hu : unE k ((i :: r).drop (4 + n)) with
        | error e' => rw [hu] at h; cases h; exact ih hu
        | ok M => rw [hu] at h; cases h
end Go.Proofs.YtbjeljmnknibnaaDoor
