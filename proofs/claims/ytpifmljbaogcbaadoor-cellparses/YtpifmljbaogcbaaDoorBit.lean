/- Proved here: sums.Bit answers the first bit whose syndrome is the one that is asked for. Conditions: as each theorem states them. -/
import Derived.Test.YtpifmljbaogcbaaDoorSums
namespace Go.Proofs.YtpifmljbaogcbaaDoor
open Go.RowKit

/-- Byte i of a right header with bit n turned over. -/
def dv (n i : Nat) : Nat := (if i = 4 then 85 else 0) ^^^ (if n / 8 = i then 128 / 2 ^ (n % 8) else 0)
theorem pow_lt (n : Nat) : 128 / 2 ^ (n % 8) < 256 := Nat.lt_of_le_of_lt (Nat.div_le_self _ _) (by decide)
theorem dv_lt (n i : Nat) : dv n i < 256 := by
  refine Nat.xor_lt_two_pow (n := 8) ?_ ?_
  · split <;> decide
  · split
    · exact pow_lt n
    · decide
theorem dv_xor (n q b : Nat) (hq : n / 8 = q) (hb : b = if q = 4 then 85 else 0) : bits .xor .u8 (b : Int) (128 / 2 ^ (n % 8)) = ((dv n q : Nat) : Int) := by
  have e : (128 : Int) / 2 ^ (n % 8) = ((128 / 2 ^ (n % 8) : Nat) : Int) := by simp
  rw [e, u8_xor_nat b _ (by rw [hb]; split <;> decide) (pow_lt n)]
  simp [dv, hq, hb]
theorem dv_off (n i : Nat) (h : n / 8 ≠ i) : ((dv n i : Nat) : Int) = if i = 4 then 85 else 0 := by
  simp [dv, h]; split <;> rfl

set_option maxHeartbeats 1000000 in
theorem damaged_calls (n : Nat) (hn : n < 40) (w : World) :
    Calls Tryd.prog 57 #[.int .i64 n] w fun e W' => e = .returned (.agg #[.int .u8 (dv n 0 : Nat), .int .u8 (dv n 1 : Nat), .int .u8 (dv n 2 : Nat), .int .u8 (dv n 3 : Nat), .int .u8 (dv n 4 : Nat)]) ∧ Below w.heap.size w W' := by
  have hq : n / 8 = 0 ∨ n / 8 = 1 ∨ n / 8 = 2 ∨ n / 8 = 3 ∨ n / 8 = 4 := by omega
  rcases hq with hq | hq | hq | hq | hq
  · have e1 : (n : Int) / 8 = 0 := by omega
    have hx : bits .xor .u8 0 (128 / 2 ^ (n % 8)) = ((dv n 0 : Nat) : Int) := dv_xor n 0 0 hq rfl
    have d1 : ((dv n 1 : Nat) : Int) = 0 := dv_off n 1 (by omega)
    have d2 : ((dv n 2 : Nat) : Int) = 0 := dv_off n 2 (by omega)
    have d3 : ((dv n 3 : Nat) : Int) = 0 := dv_off n 3 (by omega)
    have d4 : ((dv n 4 : Nat) : Int) = 85 := dv_off n 4 (by omega)
    rw [d1, d2, d3, d4]
    clear hq
    go_enter Tryd.func57, Tryd.ntmps57
    go_wp2
    go_region
    go_wp2
    refine bodyPost_ret (v := .agg #[.int .u8 (dv n 0 : Nat), .int .u8 0, .int .u8 0, .int .u8 0, .int .u8 85]) (by simp [results, Tryd.results57, go_sem]) rfl ⟨rfl, ?_⟩
    go_grown
  · have e1 : (n : Int) / 8 = 1 := by omega
    have hx : bits .xor .u8 0 (128 / 2 ^ (n % 8)) = ((dv n 1 : Nat) : Int) := dv_xor n 1 0 hq rfl
    have d0 : ((dv n 0 : Nat) : Int) = 0 := dv_off n 0 (by omega)
    have d2 : ((dv n 2 : Nat) : Int) = 0 := dv_off n 2 (by omega)
    have d3 : ((dv n 3 : Nat) : Int) = 0 := dv_off n 3 (by omega)
    have d4 : ((dv n 4 : Nat) : Int) = 85 := dv_off n 4 (by omega)
    rw [d0, d2, d3, d4]
    clear hq
    go_enter Tryd.func57, Tryd.ntmps57
    go_wp2
    go_region
    go_wp2
    refine bodyPost_ret (v := .agg #[.int .u8 0, .int .u8 (dv n 1 : Nat), .int .u8 0, .int .u8 0, .int .u8 85]) (by simp [results, Tryd.results57, go_sem]) rfl ⟨rfl, ?_⟩
    go_grown
  · have e1 : (n : Int) / 8 = 2 := by omega
    have hx : bits .xor .u8 0 (128 / 2 ^ (n % 8)) = ((dv n 2 : Nat) : Int) := dv_xor n 2 0 hq rfl
    have d0 : ((dv n 0 : Nat) : Int) = 0 := dv_off n 0 (by omega)
    have d1 : ((dv n 1 : Nat) : Int) = 0 := dv_off n 1 (by omega)
    have d3 : ((dv n 3 : Nat) : Int) = 0 := dv_off n 3 (by omega)
    have d4 : ((dv n 4 : Nat) : Int) = 85 := dv_off n 4 (by omega)
    rw [d0, d1, d3, d4]
    clear hq
    go_enter Tryd.func57, Tryd.ntmps57
    go_wp2
    go_region
    go_wp2
    refine bodyPost_ret (v := .agg #[.int .u8 0, .int .u8 0, .int .u8 (dv n 2 : Nat), .int .u8 0, .int .u8 85]) (by simp [results, Tryd.results57, go_sem]) rfl ⟨rfl, ?_⟩
    go_grown
  · have e1 : (n : Int) / 8 = 3 := by omega
    have hx : bits .xor .u8 0 (128 / 2 ^ (n % 8)) = ((dv n 3 : Nat) : Int) := dv_xor n 3 0 hq rfl
    have d0 : ((dv n 0 : Nat) : Int) = 0 := dv_off n 0 (by omega)
    have d1 : ((dv n 1 : Nat) : Int) = 0 := dv_off n 1 (by omega)
    have d2 : ((dv n 2 : Nat) : Int) = 0 := dv_off n 2 (by omega)
    have d4 : ((dv n 4 : Nat) : Int) = 85 := dv_off n 4 (by omega)
    rw [d0, d1, d2, d4]
    clear hq
    go_enter Tryd.func57, Tryd.ntmps57
    go_wp2
    go_region
    go_wp2
    refine bodyPost_ret (v := .agg #[.int .u8 0, .int .u8 0, .int .u8 0, .int .u8 (dv n 3 : Nat), .int .u8 85]) (by simp [results, Tryd.results57, go_sem]) rfl ⟨rfl, ?_⟩
    go_grown
  · have e1 : (n : Int) / 8 = 4 := by omega
    have hx : bits .xor .u8 85 (128 / 2 ^ (n % 8)) = ((dv n 4 : Nat) : Int) := dv_xor n 4 85 hq rfl
    have d0 : ((dv n 0 : Nat) : Int) = 0 := dv_off n 0 (by omega)
    have d1 : ((dv n 1 : Nat) : Int) = 0 := dv_off n 1 (by omega)
    have d2 : ((dv n 2 : Nat) : Int) = 0 := dv_off n 2 (by omega)
    have d3 : ((dv n 3 : Nat) : Int) = 0 := dv_off n 3 (by omega)
    rw [d0, d1, d2, d3]
    clear hq
    go_enter Tryd.func57, Tryd.ntmps57
    go_wp2
    go_region
    go_wp2
    refine bodyPost_ret (v := .agg #[.int .u8 0, .int .u8 0, .int .u8 0, .int .u8 0, .int .u8 (dv n 4 : Nat)]) (by simp [results, Tryd.results57, go_sem]) rfl ⟨rfl, ?_⟩
    go_grown

/-- A right header with bit n turned over. -/
def dam (n : Nat) : List UInt8 := [UInt8.ofNat (dv n 0), UInt8.ofNat (dv n 1), UInt8.ofNat (dv n 2), UInt8.ofNat (dv n 3), UInt8.ofNat (dv n 4)]
theorem ofNat_toNat_lt {x : Nat} (h : x < 256) : (UInt8.ofNat x).toNat = x := by simp [UInt8.toNat_ofNat']; omega
theorem getElem?_five {x : UInt8} {a b c d e : UInt8} {j : Nat} (h : [a, b, c, d, e][j]? = some x) : (j = 0 ∧ x = a) ∨ (j = 1 ∧ x = b) ∨ (j = 2 ∧ x = c) ∨ (j = 3 ∧ x = d) ∨ (j = 4 ∧ x = e) := by
  match j, h with
  | 0, h => simp at h; exact .inl ⟨rfl, h.symm⟩
  | 1, h => simp at h; exact .inr (.inl ⟨rfl, h.symm⟩)
  | 2, h => simp at h; exact .inr (.inr (.inl ⟨rfl, h.symm⟩))
  | 3, h => simp at h; exact .inr (.inr (.inr (.inl ⟨rfl, h.symm⟩)))
  | 4, h => simp at h; exact .inr (.inr (.inr (.inr ⟨rfl, h.symm⟩)))
  | _ + 5, h => simp at h
/-- A new block of five bytes. -/
theorem isB_new5 (w : World) (t : TypeId) (d0 d1 d2 d3 d4 : Nat) (h0 : d0 < 256) (h1 : d1 < 256) (h2 : d2 < 256) (h3 : d3 < 256) (h4 : d4 < 256) :
    IsB (w.heap.size + 1) (w.alloc (.cells #[.int .u8 (d0 : Nat), .int .u8 (d1 : Nat), .int .u8 (d2 : Nat), .int .u8 (d3 : Nat), .int .u8 (d4 : Nat)] t)) (some ⟨w.heap.size, 0, none⟩) 5 [UInt8.ofNat d0, UInt8.ofNat d1, UInt8.ofNat d2, UInt8.ofNat d3, UInt8.ofNat d4] := by
  refine ⟨rfl, .inr ⟨_, 0, rfl, by omega, fun j x hx => ?_⟩⟩
  rcases getElem?_five hx with ⟨rfl, rfl⟩ | ⟨rfl, rfl⟩ | ⟨rfl, rfl⟩ | ⟨rfl, rfl⟩ | ⟨rfl, rfl⟩ <;> simp only [ofNat_toNat_lt, h0, h1, h2, h3, h4] <;> simp [go_sem]

def bitN (s : Nat) : Option Nat := (List.range 40).find? fun j => synN (dam j) == s
theorem bitN_none {s : Nat} (h : ∀ j, j < 40 → synN (dam j) ≠ s) : bitN s = none := by
  rw [bitN, List.find?_eq_none]; intro j hj; simp at hj; simpa using h j hj
theorem bitN_some {s k : Nat} (hk : k < 40) (h : ∀ j, j < k → synN (dam j) ≠ s) (e : synN (dam k) = s) : bitN s = some k := by
  rw [bitN, List.find?_range_eq_some]
  refine ⟨by simpa using e, by simpa using hk, fun j hj => by simpa using h j hj⟩

theorem synN_lt (zs : List UInt8) : synN zs < 256 := by
  unfold synN; split
  · decide
  · rename_i x _; exact Nat.xor_lt_two_pow (n := 8) x.toNat_lt (eightN_lt _)

set_option maxHeartbeats 1000000 in
theorem bit_calls (s : Nat) (w : World) :
    Calls Tryd.prog 55 #[.int .u8 s] w fun e W' => e = .returned (.tuple #[.int .i64 ((bitN s).getD 0 : Nat), .bool (bitN s).isSome]) ∧ Below w.heap.size w W' := by
  go_enter Tryd.func55, Tryd.ntmps55
  go_wp2
  go_loopw [6] (fun i wr => ∃ k : Nat, k ≤ 40 ∧ i = .int .i64 k ∧ (∀ j, j < k → synN (dam j) ≠ s) ∧ Below w.heap.size w wr) (fun i _ => 40 - (intOf i).toNat)
  case atStart => exact ⟨0, by omega, rfl, fun j hj => by omega, Below.refl _ _⟩
  case round =>
    obtain ⟨k, hk, rfl, hno, hB⟩ := hrel
    by_cases hlt : k < 40
    · have HN : Hid (∀ j, j < k → synN (dam j) ≠ s) := hno
      clear hno
      go_wp2_with (go_at_call 57; refine (damaged_calls _ hlt _).mono ?_; rintro e w1 ⟨rfl, hb1⟩)
      refine (syndrome_calls _ _ _ (dam k) (by decide) (by show 5 ≤ maxLen; decide) _ (isB_new5 w1 66 _ _ _ _ _ (dv_lt _ _) (dv_lt _ _) (dv_lt _ _) (dv_lt _ _) (dv_lt _ _)) (by simp)).mono ?_
      rintro e w2 ⟨rfl, hb2⟩
      have hbw2 : Below w.heap.size w w2 := (hB.trans (hb1.mono hB.size)).trans (((Below.refl _ w1).alloc (Nat.le_trans hB.size hb1.size) _).trans (hb2.mono (by have := hB.size; have := hb1.size; simp; omega)))
      by_cases heq : synN (dam k) = s
      · have hbn := bitN_some hlt HN.out heq
        have h1 : (((synN (dam k) : Nat) : Int) == (s : Int)) = true := by simp [heq]
        have HB : Hid (bitN s = some k) := hbn
        clear hbn heq
        go_wp2
        go_ret2
        exact ⟨by rw [HB.out]; rfl, hbw2⟩
      · have h1 : (((synN (dam k) : Nat) : Int) == (s : Int)) = false := beq_eq_false_iff_ne.2 (by omega)
        have HQ : Hid (synN (dam k) ≠ s) := heq
        clear heq
        go_wp2
        go_roundw
        case rel => exact ⟨k + 1, by omega, by go_num, fun j hj => by
          rcases Nat.lt_or_ge j k with h | h
          · exact HN.out j h
          · obtain rfl : j = k := by omega
            exact HQ.out, hbw2⟩
        case measure => simp [intOf]; omega
    · obtain rfl : k = 40 := by omega
      have hbn := bitN_none hno
      clear hno
      go_wp2
      go_ret2
      exact ⟨by rw [hbn]; rfl, hB⟩

end Go.Proofs.YtpifmljbaogcbaaDoor
