/- Proved here: sums.Bit answers the first bit whose syndrome is the one that is asked for. Conditions: as each theorem states them. -/
import Derived.Test.YtbjeljmnknibnaaDoorFSums
namespace Go.Proofs.YtbjeljmnknibnaaDoor.F
open Go.RowKit

/-- Byte i of a right header with bit n turned over. -/
def dv (n i : Nat) : Nat := (if i = 4 then 85 else 0) ^^^ (if n / 8 = i then 128 / 2 ^ (n % 8) else 0)
theorem pow_lt (n : Nat) : 128 / 2 ^ (n % 8) < 256 := Nat.lt_of_le_of_lt (Nat.div_le_self _ _) (by decide)
theorem dv_lt (n i : Nat) : dv n i < 256 := by
  refine Nat.xor_lt_two_pow (n := 8) ?_ ?_
  · split <;> decide
  · split
    · exact pow_lt n
    · decide
theorem dv_xor (n q b : Nat) (hq : n / 8 = q) (hb : b = if q = 4 then 85 else 0) : bits .xor .u8 (b : Int) (128 / 2 ^ (n % 8)) = ((dv n q : Nat) : Int) := by
  have e : (128 : Int) / 2 ^ (n % 8) = ((128 / 2 ^ (n % 8) : Nat) : Int) := by simp
  rw [e, u8_xor_nat b _ (by rw [hb]; split <;> decide) (pow_lt n)]
  simp [dv, hq, hb]
theorem dv_off (n i : Nat) (h : n / 8 ≠ i) : ((dv n i : Nat) : Int) = if i = 4 then 85 else 0 := by
  simp [dv, h]; split <;> rfl

/-- A right header with bit n turned over. -/
def dam (n : Nat) : List UInt8 := [UInt8.ofNat (dv n 0), UInt8.ofNat (dv n 1), UInt8.ofNat (dv n 2), UInt8.ofNat (dv n 3), UInt8.ofNat (dv n 4)]
theorem ofNat_toNat_lt {x : Nat} (h : x < 256) : (UInt8.ofNat x).toNat = x := by simp [UInt8.toNat_ofNat']; omega
theorem getElem?_five {x : UInt8} {a b c d e : UInt8} {j : Nat} (h : [a, b, c, d, e][j]? = some x) : (j = 0 ∧ x = a) ∨ (j = 1 ∧ x = b) ∨ (j = 2 ∧ x = c) ∨ (j = 3 ∧ x = d) ∨ (j = 4 ∧ x = e) := by
  match j, h with
  | 0, h => simp at h; exact .inl ⟨rfl, h.symm⟩
  | 1, h => simp at h; exact .inr (.inl ⟨rfl, h.symm⟩)
  | 2, h => simp at h; exact .inr (.inr (.inl ⟨rfl, h.symm⟩))
  | 3, h => simp at h; exact .inr (.inr (.inr (.inl ⟨rfl, h.symm⟩)))
  | 4, h => simp at h; exact .inr (.inr (.inr (.inr ⟨rfl, h.symm⟩)))
  | _ + 5, h => simp at h
/-- A new block of five bytes. -/
theorem isB_new5 (w : World) (t : TypeId) (d0 d1 d2 d3 d4 : Nat) (h0 : d0 < 256) (h1 : d1 < 256) (h2 : d2 < 256) (h3 : d3 < 256) (h4 : d4 < 256) :
    IsB (w.heap.size + 1) (w.alloc (.cells #[.int .u8 (d0 : Nat), .int .u8 (d1 : Nat), .int .u8 (d2 : Nat), .int .u8 (d3 : Nat), .int .u8 (d4 : Nat)] t)) (some ⟨w.heap.size, 0, none⟩) 5 [UInt8.ofNat d0, UInt8.ofNat d1, UInt8.ofNat d2, UInt8.ofNat d3, UInt8.ofNat d4] := by
  refine ⟨rfl, .inr ⟨_, 0, rfl, by omega, fun j x hx => ?_⟩⟩
  rcases getElem?_five hx with ⟨rfl, rfl⟩ | ⟨rfl, rfl⟩ | ⟨rfl, rfl⟩ | ⟨rfl, rfl⟩ | ⟨rfl, rfl⟩ <;> simp only [ofNat_toNat_lt, h0, h1, h2, h3, h4] <;> simp [go_sem]

def bitN (s : Nat) : Option Nat := (List.range 40).find? fun j => synN (dam j) == s
theorem bitN_none {s : Nat} (h : ∀ j, j < 40 → synN (dam j) ≠ s) : bitN s = none := by
  rw [bitN, List.find?_eq_none]; intro j hj; simp at hj; simpa using h j hj
theorem bitN_some {s k : Nat} (hk : k < 40) (h : ∀ j, j < k → synN (dam j) ≠ s) (e : synN (dam k) = s) : bitN s = some k := by
  rw [bitN, List.find?_range_eq_some]
  refine ⟨by simpa using e, by simpa using hk, fun j hj => by simpa using h j hj⟩

theorem synN_lt (zs : List UInt8) : synN zs < 256 := by
  unfold synN; split
  · decide
  · rename_i x _; exact Nat.xor_lt_two_pow (n := 8) x.toNat_lt (eightN_lt _)

end Go.Proofs.YtbjeljmnknibnaaDoor.F
