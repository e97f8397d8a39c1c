/- Proved here: frames as plain bytes: what is packed is unpacked, and what is turned over is told. Conditions: as each theorem states them. -/
import Derived.Test.YtbjeljmnknibnaaDoorFMathD
namespace Go.Proofs.YtbjeljmnknibnaaDoor.F
set_option linter.unusedSimpArgs false
set_option linter.unusedVariables false
open Go.RowKit

/-- How many parts the frame of n bytes has. -/
def manyN (n : Nat) : Nat := if n < 1 then 0 else n / 48 + (n % 48 + 55) / 48
theorem many_eq {n : Nat} (h : 1 ≤ n) : manyN n = (n + 55) / 48 := by unfold manyN; rw [if_neg (by omega)]; omega
theorem many_zero : manyN 0 = 0 := rfl
/-- A number's bytes, the highest one first. -/
def be4 (c : Nat) : List UInt8 := [UInt8.ofNat (c / 16777216), UInt8.ofNat (c / 65536), UInt8.ofNat (c / 256), UInt8.ofNat c]
theorem byteN (c : Nat) : (UInt8.ofNat c).toNat = c % 256 := by simp
/-- What bytes come to, the highest one first. -/
def numN (l : List UInt8) : Nat := l.foldl (fun x y => x * 256 + y.toNat) 0
theorem numN_snoc (l : List UInt8) (y : UInt8) : numN (l ++ [y]) = numN l * 256 + y.toNat := by simp [numN]
theorem fold_lt : ∀ (l : List UInt8) (a k : Nat), a < 256 ^ k → l.foldl (fun x y => x * 256 + y.toNat) a < 256 ^ (k + l.length)
  | [], a, k, h => h
  | y :: l, a, k, h => by
    have := fold_lt l (a * 256 + y.toNat) (k + 1) (by have := y.toNat_lt; rw [Nat.pow_succ]; omega)
    rw [List.foldl_cons, List.length_cons, show k + (l.length + 1) = k + 1 + l.length from by omega]
    exact this
theorem numN_lt (l : List UInt8) : numN l < 256 ^ l.length := by
  have := fold_lt l 0 0 (by decide)
  rwa [Nat.zero_add] at this
theorem numN_four (a b c d : UInt8) : numN [a, b, c, d] = ((a.toNat * 256 + b.toNat) * 256 + c.toNat) * 256 + d.toNat := by simp [numN]
theorem numN_two (a b : UInt8) : numN [a, b] = a.toNat * 256 + b.toNat := by simp [numN]
theorem numN_be4 (c : Nat) (h : c < 4294967296) : numN (be4 c) = c := by
  unfold be4
  rw [numN_four, byteN, byteN, byteN, byteN]; omega
theorem eq_be4 (a b c d : UInt8) : [a, b, c, d] = be4 (numN [a, b, c, d]) := by
  have ha := a.toNat_lt; have hb := b.toNat_lt; have hc := c.toNat_lt; have hd := d.toNat_lt
  have e := numN_four a b c d
  generalize numN [a, b, c, d] = n at e
  unfold be4
  simp only [List.cons.injEq, and_true, ← UInt8.toNat_inj, byteN]
  omega

/-- How many bytes 0 there are. -/
def padN (n : Nat) : Nat := 48 * manyN n - 8 - n
def bodyN (t : List UInt8) : List UInt8 := t ++ List.replicate (padN t.length) 0
def aheadN (t : List UInt8) (m : UInt8) : List UInt8 := bodyN t ++ [m, 0, UInt8.ofNat (t.length / 256), UInt8.ofNat t.length]
/-- A frame. -/
def frameN (t : List UInt8) (m : UInt8) : List UInt8 := aheadN t m ++ be4 (longN (aheadN t m))
theorem frame_flat (t : List UInt8) (m : UInt8) : frameN t m = bodyN t ++ (m :: 0 :: UInt8.ofNat (t.length / 256) :: UInt8.ofNat t.length :: be4 (longN (aheadN t m))) := by simp [frameN, aheadN]
theorem body_len {t : List UInt8} (h : 1 ≤ t.length) : (bodyN t).length = 48 * manyN t.length - 8 := by
  have := many_eq h
  simp only [bodyN, padN, List.length_append, List.length_replicate]; omega
theorem ahead_len {t : List UInt8} (m : UInt8) (h : 1 ≤ t.length) : (aheadN t m).length = 48 * manyN t.length - 4 := by
  have := many_eq h
  simp only [aheadN, List.length_append, body_len h, List.length_cons, List.length_nil]; omega
theorem frame_len {t : List UInt8} (m : UInt8) (h : 1 ≤ t.length) : (frameN t m).length = 48 * manyN t.length := by
  have := many_eq h
  simp only [frameN, List.length_append, ahead_len m h, be4, List.length_cons, List.length_nil]; omega

/-- What is unpacked of a body, and of the eight bytes behind it. -/
def up8 (body : List UInt8) (m z h l c0 c1 c2 c3 : UInt8) : List UInt8 × UInt8 × Nat :=
  if numN [c0, c1, c2, c3] ≠ longN (body ++ [m, z, h, l]) then ([], 0, 4)
  else if z.toNat ≠ 0 ∨ manyN (h.toNat * 256 + l.toNat) * 48 ≠ body.length + 8 ∨ (body.drop (h.toNat * 256 + l.toNat)).all (· == 0) = false then ([], 0, 5)
  else if 1000 < h.toNat * 256 + l.toNat then ([], 0, 6) else (body.take (h.toNat * 256 + l.toNat), m, 0)
def lastN (b : List UInt8) (k : Nat) : UInt8 := b[b.length - k]?.getD 0
def unpackN (b : List UInt8) : List UInt8 × UInt8 × Nat :=
  if b.length = 0 ∨ b.length % 48 ≠ 0 then ([], 0, 5)
  else up8 (b.take (b.length - 8)) (lastN b 8) (lastN b 7) (lastN b 6) (lastN b 5) (lastN b 4) (lastN b 3) (lastN b 2) (lastN b 1)
theorem split8 {b : List UInt8} (h : 8 ≤ b.length) : ∃ body m z h l c0 c1 c2 c3, b = body ++ [m, z, h, l, c0, c1, c2, c3] ∧ body.length = b.length - 8 := by
  obtain ⟨t, ht⟩ : ∃ t, b.drop (b.length - 8) = t := ⟨_, rfl⟩
  have e : b = b.take (b.length - 8) ++ t := by rw [← ht, List.take_append_drop]
  have hl : t.length = 8 := by rw [← ht]; simp; omega
  match t, hl with
  | [m, z, h, l, c0, c1, c2, c3], _ => exact ⟨_, m, z, h, l, c0, c1, c2, c3, e, by simp⟩
theorem last_at (body : List UInt8) (t : List UInt8) (k : Nat) (hk : k ≤ t.length) : lastN (body ++ t) k = t[t.length - k]?.getD 0 := by
  unfold lastN
  rw [List.length_append, List.getElem?_append_right (by omega)]
  congr 2; omega
theorem unpack8 (body : List UInt8) (m z h l c0 c1 c2 c3 : UInt8) (hm : (body.length + 8) % 48 = 0) : unpackN (body ++ [m, z, h, l, c0, c1, c2, c3]) = up8 body m z h l c0 c1 c2 c3 := by
  have hl : (body ++ [m, z, h, l, c0, c1, c2, c3]).length = body.length + 8 := by simp
  unfold unpackN
  rw [hl, if_neg (by omega)]
  have ht : (body ++ [m, z, h, l, c0, c1, c2, c3]).take (body.length + 8 - 8) = body := by simp
  rw [ht]
  simp only [last_at _ [m, z, h, l, c0, c1, c2, c3] _ (show (8 : Nat) ≤ _ from by simp), last_at _ [m, z, h, l, c0, c1, c2, c3] _ (show (7 : Nat) ≤ _ from by simp), last_at _ [m, z, h, l, c0, c1, c2, c3] _ (show (6 : Nat) ≤ _ from by simp), last_at _ [m, z, h, l, c0, c1, c2, c3] _ (show (5 : Nat) ≤ _ from by simp), last_at _ [m, z, h, l, c0, c1, c2, c3] _ (show (4 : Nat) ≤ _ from by simp), last_at _ [m, z, h, l, c0, c1, c2, c3] _ (show (3 : Nat) ≤ _ from by simp), last_at _ [m, z, h, l, c0, c1, c2, c3] _ (show (2 : Nat) ≤ _ from by simp), last_at _ [m, z, h, l, c0, c1, c2, c3] _ (show (1 : Nat) ≤ _ from by simp)]
  rfl
theorem unpack_nil : unpackN [] = ([], 0, 5) := rfl

theorem be4_list (c : Nat) : be4 c = [UInt8.ofNat (c / 16777216), UInt8.ofNat (c / 65536), UInt8.ofNat (c / 256), UInt8.ofNat c] := rfl
theorem all_zeros (n : Nat) : (List.replicate n (0 : UInt8)).all (· == 0) = true := by simp
theorem unpack_frame {t : List UInt8} (m : UInt8) (h1 : 1 ≤ t.length) (h2 : t.length ≤ 1000) : unpackN (frameN t m) = (t, m, 0) := by
  have hm := many_eq h1
  have hb := body_len h1
  rw [frame_flat, be4_list, unpack8 _ _ _ _ _ _ _ _ _ (by omega)]
  have hn : (UInt8.ofNat (t.length / 256)).toNat * 256 + (UInt8.ofNat t.length).toNat = t.length := by rw [byteN, byteN]; omega
  unfold up8
  rw [hn, ← be4_list, numN_be4 _ (longN_lt _)]
  rw [if_neg (by simp [aheadN]), if_neg, if_neg (by omega)]
  · simp [bodyN]
  · refine not_or.2 ⟨by simp, not_or.2 ⟨by rw [hb]; omega, ?_⟩⟩
    simp [bodyN]

/-- Bytes whose check is right leave one remainder. -/
theorem sealed_long (x : List UInt8) : longN (x ++ be4 (longN x)) = 955982468 := by
  have h := longN_lt x
  exact long_self x _ _ _ _ (by rw [byteN]) (by rw [byteN]) (by rw [byteN]) (by rw [byteN])
theorem unpack_spoilt {b : List UInt8} (h0 : b.length ≠ 0) (hm : b.length % 48 = 0) (h : longN b ≠ 955982468) : unpackN b = ([], 0, 4) := by
  obtain ⟨body, m, z, hh, l, c0, c1, c2, c3, rfl, _⟩ := split8 (b := b) (by omega)
  rw [unpack8 _ _ _ _ _ _ _ _ _ (by simpa using hm)]
  unfold up8
  rw [if_pos]
  intro e
  apply h
  have e2 : body ++ [m, z, hh, l, c0, c1, c2, c3] = (body ++ [m, z, hh, l]) ++ be4 (longN (body ++ [m, z, hh, l])) := by
    rw [← e, ← eq_be4]; simp
  rw [e2]; exact sealed_long _
theorem unpack_burst {t : List UInt8} (m : UInt8) (h1 : 1 ≤ t.length) (p y : Nat) (h : changedTo (frameN t m).length p y 32 = true) : unpackN (burstTo (frameN t m) p y 32) = ([], 0, 4) := by
  have hl := frame_len m h1
  have hm := many_eq h1
  refine unpack_spoilt (by rw [burst_length]; omega) (by rw [burst_length]; omega) ?_
  rw [← sealed_long (aheadN t m)]
  intro e
  have := (long_burst (frameN t m) p y).1 e
  rw [h] at this; cases this

theorem up8_cases (body : List UInt8) (m z h l c0 c1 c2 c3 : UInt8) : (up8 body m z h l c0 c1 c2 c3).2.2 = 4 ∨ (up8 body m z h l c0 c1 c2 c3).2.2 = 5 ∨ ((up8 body m z h l c0 c1 c2 c3).2.2 = 6 ∧ 1000 < body.length) ∨
    ((up8 body m z h l c0 c1 c2 c3).2.2 = 0 ∧ (up8 body m z h l c0 c1 c2 c3).1.length ≤ body.length ∧ manyN (up8 body m z h l c0 c1 c2 c3).1.length * 48 = body.length + 8 ∧ (up8 body m z h l c0 c1 c2 c3).1.length ≤ 1000) := by
  unfold up8
  split
  · left; rfl
  · split
    · right; left; rfl
    · rename_i h1 h2
      obtain ⟨_, h2⟩ := not_or.1 h2
      obtain ⟨h2, _⟩ := not_or.1 h2
      have h2 : manyN (h.toNat * 256 + l.toNat) * 48 = body.length + 8 := by omega
      generalize h.toNat * 256 + l.toNat = n at *
      have hn1 : 1 ≤ n := by
        rcases Nat.eq_zero_or_pos n with rfl | h
        · rw [many_zero] at h2; omega
        · exact h
      have hmn := many_eq hn1
      split
      · right; right; left; exact ⟨rfl, by omega⟩
      · right; right; right
        have hle : n ≤ body.length := by omega
        have e : (body.take n).length = n := by simp; omega
        exact ⟨rfl, by rw [show (body.take n, m, (0 : Nat)).1 = body.take n from rfl, e]; exact hle, by rw [show (body.take n, m, (0 : Nat)).1 = body.take n from rfl, e]; exact h2, by rw [show (body.take n, m, (0 : Nat)).1 = body.take n from rfl, e]; omega⟩
theorem unpack_cases (b : List UInt8) : (unpackN b).2.2 = 4 ∨ (unpackN b).2.2 = 5 ∨ ((unpackN b).2.2 = 6 ∧ 1000 < b.length) ∨ ((unpackN b).2.2 = 0 ∧ (unpackN b).1.length ≤ b.length ∧ manyN (unpackN b).1.length * 48 = b.length ∧ (unpackN b).1.length ≤ 1000) := by
  by_cases h : b.length = 0 ∨ b.length % 48 ≠ 0
  · right; left; unfold unpackN; rw [if_pos h]
  · obtain ⟨body, m, z, hh, l, c0, c1, c2, c3, rfl, _⟩ := split8 (b := b) (by omega)
    have hl : (body ++ [m, z, hh, l, c0, c1, c2, c3]).length = body.length + 8 := by simp
    rw [hl] at h ⊢
    rw [unpack8 _ _ _ _ _ _ _ _ _ (by omega)]
    rcases up8_cases body m z hh l c0 c1 c2 c3 with h | h | ⟨h, h'⟩ | ⟨h, h', h'', h3⟩
    · exact .inl h
    · exact .inr (.inl h)
    · exact .inr (.inr (.inl ⟨h, by omega⟩))
    · exact .inr (.inr (.inr ⟨h, by omega, h'', h3⟩))
theorem unpack_len (b : List UInt8) : (unpackN b).1.length ≤ b.length := by
  by_cases h : b.length = 0 ∨ b.length % 48 ≠ 0
  · unfold unpackN; rw [if_pos h]; exact Nat.zero_le _
  · unfold unpackN; rw [if_neg h]
    unfold up8
    split
    · exact Nat.zero_le _
    · split
      · exact Nat.zero_le _
      · split
        · exact Nat.zero_le _
        · show (List.take _ _).length ≤ _
          simp; omega
/-- Of bytes with a right check it isn't the check that is wrong. -/
theorem unpack_sealed {x : List UInt8} (h4 : 4 ≤ x.length) (hm : (x.length + 4) % 48 = 0) : (unpackN (x ++ be4 (longN x))).2.2 ≠ 4 := by
  obtain ⟨body, m, z, hh, l, c0, c1, c2, c3, e, hl⟩ := split8 (b := x ++ be4 (longN x)) (by simp [be4]; omega)
  have e1 := e
  have hl2 : body.length + 4 = x.length := by rw [hl]; simp [be4]; omega
  rw [show body ++ [m, z, hh, l, c0, c1, c2, c3] = (body ++ [m, z, hh, l]) ++ [c0, c1, c2, c3] from by simp] at e1
  obtain ⟨ex, e2⟩ := List.append_inj e1 (by simp; omega)
  rw [e, unpack8 _ _ _ _ _ _ _ _ _ (by omega)]
  unfold up8
  rw [← ex, ← e2, numN_be4 _ (longN_lt _), if_neg (by simp)]
  split
  · decide
  · split <;> simp
end Go.Proofs.YtbjeljmnknibnaaDoor.F
