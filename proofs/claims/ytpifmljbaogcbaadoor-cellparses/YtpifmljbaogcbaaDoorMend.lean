/- Proved here: mend turns over the bit that a syndrome tells; Seal is four bytes and their check. Conditions: as each theorem states them. -/
import Derived.BigQuiet
import Derived.Deep.RegionHeld
import Derived.Test.YtpifmljbaogcbaaDoorSmall
import Derived.Test.YtpifmljbaogcbaaDoorMathC
namespace Go.Proofs.YtpifmljbaogcbaaDoor
open Go.RowKit

theorem bitN_lt {s k : Nat} (h : bitN s = some k) : k < 40 := by
  rw [bitN, List.find?_range_eq_some] at h
  simpa using h.2.1

theorem mend_xor (x : UInt8) (k : Nat) : bits .xor .u8 (x.toNat : Int) (128 / 2 ^ (k % 8)) = ((x ^^^ UInt8.ofNat (128 / 2 ^ (k % 8))).toNat : Int) := by
  have hpl : 128 / 2 ^ (k % 8) < 256 := Nat.lt_of_le_of_lt (Nat.div_le_self _ _) (by decide)
  have e : (128 : Int) / 2 ^ (k % 8) = ((128 / 2 ^ (k % 8) : Nat) : Int) := by simp
  rw [e, u8_xor_nat _ _ x.toNat_lt hpl, UInt8.toNat_xor, ofNat_toNat_lt hpl]

/-- Five bytes as a value. -/
def agg5 (x0 x1 x2 x3 x4 : UInt8) : Value := .agg #[.int .u8 (x0.toNat : Int), .int .u8 (x1.toNat : Int), .int .u8 (x2.toNat : Int), .int .u8 (x3.toNat : Int), .int .u8 (x4.toNat : Int)]
/-- Four bytes as a value. -/
def agg4 (x0 x1 x2 x3 : UInt8) : Value := .agg #[.int .u8 (x0.toNat : Int), .int .u8 (x1.toNat : Int), .int .u8 (x2.toNat : Int), .int .u8 (x3.toNat : Int)]

set_option maxHeartbeats 400000 in
theorem mend_none (x0 x1 x2 x3 x4 : UInt8) (s : Nat) (h : bitN s = none) (w : World) : Calls Tryd.prog 48 #[.agg #[.int .u8 (x0.toNat : Int), .int .u8 (x1.toNat : Int), .int .u8 (x2.toNat : Int), .int .u8 (x3.toNat : Int), .int .u8 (x4.toNat : Int)], .int .u8 s] w fun e w' =>
    e = .returned (.tuple #[.agg #[.int .u8 (x0.toNat : Int), .int .u8 (x1.toNat : Int), .int .u8 (x2.toNat : Int), .int .u8 (x3.toNat : Int), .int .u8 (x4.toNat : Int)], .bool false]) ∧ Below w.heap.size w w' := by
  have HB : Hid (bitN s = none) := h
  clear h
  have A1 := bk_new w #[.int .u8 (x0.toNat : Int), .int .u8 (x1.toNat : Int), .int .u8 (x2.toNat : Int), .int .u8 (x3.toNat : Int), .int .u8 (x4.toNat : Int)] 66
  have A2 := A1.alloc (.cells #[.int .u8 0, .int .u8 0, .int .u8 0, .int .u8 0, .int .u8 0] 66)
  have R2 := bk_new (w.alloc (.cells #[.int .u8 (x0.toNat : Int), .int .u8 (x1.toNat : Int), .int .u8 (x2.toNat : Int), .int .u8 (x3.toNat : Int), .int .u8 (x4.toNat : Int)] 66)) #[.int .u8 0, .int .u8 0, .int .u8 0, .int .u8 0, .int .u8 0] 66
  rw [World.size_alloc] at R2
  go_enter Tryd.func48, Tryd.ntmps48
  go_wp2_with fail
  refine (bit_calls s _).mono ?_
  rintro e w1 ⟨rfl, b1⟩
  rw [HB.out]
  have A3 := A2.below b1 A2.lt
  have R3 := R2.below b1 R2.lt
  have B1 : Below w.heap.size w w1 := (((Below.refl _ w).alloc (Nat.le_refl _) _).alloc (by simp) _).trans (b1.mono (by simp; omega))
  have c0 := A3.cell 0 _ rfl; have c1 := A3.cell 1 _ rfl; have c2 := A3.cell 2 _ rfl; have c3 := A3.cell 3 _ rfl; have c4 := A3.cell 4 _ rfl
  have d0 := R3.cell 0 _ rfl; have d1 := R3.cell 1 _ rfl; have d2 := R3.cell 2 _ rfl; have d3 := R3.cell 3 _ rfl; have d4 := R3.cell 4 _ rfl
  have f0 := R3.frozen 0; have f1 := R3.frozen 1; have f2 := R3.frozen 2; have f3 := R3.frozen 3; have f4 := R3.frozen 4
  clear A1 A2 R2 A3 R3 b1
  go_wp2
  refine bodyPost_ret (v := .tuple #[.agg #[.int .u8 (x0.toNat : Int), .int .u8 (x1.toNat : Int), .int .u8 (x2.toNat : Int), .int .u8 (x3.toNat : Int), .int .u8 (x4.toNat : Int)], .bool false]) (by simp [results, Tryd.results48, go_sem, *]) rfl ⟨rfl, ?_⟩
  go_grown

set_option maxHeartbeats 1000000 in
theorem mend_some (x0 x1 x2 x3 x4 : UInt8) (s k : Nat) (h : bitN s = some k) (w : World) : Calls Tryd.prog 48 #[.agg #[.int .u8 (x0.toNat : Int), .int .u8 (x1.toNat : Int), .int .u8 (x2.toNat : Int), .int .u8 (x3.toNat : Int), .int .u8 (x4.toNat : Int)], .int .u8 s] w fun e w' =>
    ∃ y0 y1 y2 y3 y4, flipN [x0, x1, x2, x3, x4] k = [y0, y1, y2, y3, y4] ∧ e = .returned (.tuple #[.agg #[.int .u8 (y0.toNat : Int), .int .u8 (y1.toNat : Int), .int .u8 (y2.toNat : Int), .int .u8 (y3.toNat : Int), .int .u8 (y4.toNat : Int)], .bool true]) ∧ Below w.heap.size w w' := by
  have HB : Hid (bitN s = some k) := h
  have hk := bitN_lt h
  clear h
  have A1 := bk_new w #[.int .u8 (x0.toNat : Int), .int .u8 (x1.toNat : Int), .int .u8 (x2.toNat : Int), .int .u8 (x3.toNat : Int), .int .u8 (x4.toNat : Int)] 66
  have A2 := A1.alloc (.cells #[.int .u8 0, .int .u8 0, .int .u8 0, .int .u8 0, .int .u8 0] 66)
  have R2 := bk_new (w.alloc (.cells #[.int .u8 (x0.toNat : Int), .int .u8 (x1.toNat : Int), .int .u8 (x2.toNat : Int), .int .u8 (x3.toNat : Int), .int .u8 (x4.toNat : Int)] 66)) #[.int .u8 0, .int .u8 0, .int .u8 0, .int .u8 0, .int .u8 0] 66
  rw [World.size_alloc] at R2
  have hq : k / 8 = 0 ∨ k / 8 = 1 ∨ k / 8 = 2 ∨ k / 8 = 3 ∨ k / 8 = 4 := by omega
  go_enter Tryd.func48, Tryd.ntmps48
  go_wp2_with fail
  refine (bit_calls s _).mono ?_
  rintro e w1 ⟨rfl, b1⟩
  rw [HB.out]
  have A3 := A2.below b1 A2.lt
  have R3 := R2.below b1 R2.lt
  have B1 : Below w.heap.size w w1 := (((Below.refl _ w).alloc (Nat.le_refl _) _).alloc (by simp) _).trans (b1.mono (by simp; omega))
  have c0 := A3.cell 0 _ rfl; have c1 := A3.cell 1 _ rfl; have c2 := A3.cell 2 _ rfl; have c3 := A3.cell 3 _ rfl; have c4 := A3.cell 4 _ rfl
  have g0 := A3.frozen 0; have g1 := A3.frozen 1; have g2 := A3.frozen 2; have g3 := A3.frozen 3; have g4 := A3.frozen 4
  have d0 := R3.cell 0 _ rfl; have d1 := R3.cell 1 _ rfl; have d2 := R3.cell 2 _ rfl; have d3 := R3.cell 3 _ rfl; have d4 := R3.cell 4 _ rfl
  have f0 := R3.frozen 0; have f1 := R3.frozen 1; have f2 := R3.frozen 2; have f3 := R3.frozen 3; have f4 := R3.frozen 4
  clear A1 A2 R2 A3 R3 b1
  rcases hq with hq | hq | hq | hq | hq
  · obtain ⟨y, hy⟩ : ∃ y, x0 ^^^ UInt8.ofNat (128 / 2 ^ (k % 8)) = y := ⟨_, rfl⟩
    have hx := mend_xor x0 k
    rw [hy] at hx
    have FL : Hid (flipN [x0, x1, x2, x3, x4] k = [y, x1, x2, x3, x4]) := by show flipN _ _ = _; simp [flipN, hq, hy]
    have e1 : (k : Int) / 8 = 0 := by omega
    clear hq hy
    go_wp2
    go_region
    go_wp2
    refine bodyPost_ret (v := .tuple #[.agg #[.int .u8 (y.toNat : Int), .int .u8 (x1.toNat : Int), .int .u8 (x2.toNat : Int), .int .u8 (x3.toNat : Int), .int .u8 (x4.toNat : Int)], .bool true]) (by simp [results, Tryd.results48, go_sem, *]) rfl ⟨y, x1, x2, x3, x4, FL.out, rfl, ?_⟩
    go_grown
  · obtain ⟨y, hy⟩ : ∃ y, x1 ^^^ UInt8.ofNat (128 / 2 ^ (k % 8)) = y := ⟨_, rfl⟩
    have hx := mend_xor x1 k
    rw [hy] at hx
    have FL : Hid (flipN [x0, x1, x2, x3, x4] k = [x0, y, x2, x3, x4]) := by show flipN _ _ = _; simp [flipN, hq, hy]
    have e1 : (k : Int) / 8 = 1 := by omega
    clear hq hy
    go_wp2
    go_region
    go_wp2
    refine bodyPost_ret (v := .tuple #[.agg #[.int .u8 (x0.toNat : Int), .int .u8 (y.toNat : Int), .int .u8 (x2.toNat : Int), .int .u8 (x3.toNat : Int), .int .u8 (x4.toNat : Int)], .bool true]) (by simp [results, Tryd.results48, go_sem, *]) rfl ⟨x0, y, x2, x3, x4, FL.out, rfl, ?_⟩
    go_grown
  · obtain ⟨y, hy⟩ : ∃ y, x2 ^^^ UInt8.ofNat (128 / 2 ^ (k % 8)) = y := ⟨_, rfl⟩
    have hx := mend_xor x2 k
    rw [hy] at hx
    have FL : Hid (flipN [x0, x1, x2, x3, x4] k = [x0, x1, y, x3, x4]) := by show flipN _ _ = _; simp [flipN, hq, hy]
    have e1 : (k : Int) / 8 = 2 := by omega
    clear hq hy
    go_wp2
    go_region
    go_wp2
    refine bodyPost_ret (v := .tuple #[.agg #[.int .u8 (x0.toNat : Int), .int .u8 (x1.toNat : Int), .int .u8 (y.toNat : Int), .int .u8 (x3.toNat : Int), .int .u8 (x4.toNat : Int)], .bool true]) (by simp [results, Tryd.results48, go_sem, *]) rfl ⟨x0, x1, y, x3, x4, FL.out, rfl, ?_⟩
    go_grown
  · obtain ⟨y, hy⟩ : ∃ y, x3 ^^^ UInt8.ofNat (128 / 2 ^ (k % 8)) = y := ⟨_, rfl⟩
    have hx := mend_xor x3 k
    rw [hy] at hx
    have FL : Hid (flipN [x0, x1, x2, x3, x4] k = [x0, x1, x2, y, x4]) := by show flipN _ _ = _; simp [flipN, hq, hy]
    have e1 : (k : Int) / 8 = 3 := by omega
    clear hq hy
    go_wp2
    go_region
    go_wp2
    refine bodyPost_ret (v := .tuple #[.agg #[.int .u8 (x0.toNat : Int), .int .u8 (x1.toNat : Int), .int .u8 (x2.toNat : Int), .int .u8 (y.toNat : Int), .int .u8 (x4.toNat : Int)], .bool true]) (by simp [results, Tryd.results48, go_sem, *]) rfl ⟨x0, x1, x2, y, x4, FL.out, rfl, ?_⟩
    go_grown
  · obtain ⟨y, hy⟩ : ∃ y, x4 ^^^ UInt8.ofNat (128 / 2 ^ (k % 8)) = y := ⟨_, rfl⟩
    have hx := mend_xor x4 k
    rw [hy] at hx
    have FL : Hid (flipN [x0, x1, x2, x3, x4] k = [x0, x1, x2, x3, y]) := by show flipN _ _ = _; simp [flipN, hq, hy]
    have e1 : (k : Int) / 8 = 4 := by omega
    clear hq hy
    go_wp2
    go_region
    go_wp2
    refine bodyPost_ret (v := .tuple #[.agg #[.int .u8 (x0.toNat : Int), .int .u8 (x1.toNat : Int), .int .u8 (x2.toNat : Int), .int .u8 (x3.toNat : Int), .int .u8 (y.toNat : Int)], .bool true]) (by simp [results, Tryd.results48, go_sem, *]) rfl ⟨x0, x1, x2, x3, y, FL.out, rfl, ?_⟩
    go_grown
end Go.Proofs.YtpifmljbaogcbaaDoor
