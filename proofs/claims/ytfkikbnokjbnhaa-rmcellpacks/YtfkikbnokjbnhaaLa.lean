/- Proved here: what the byte of the flags is, and what is laid. Conditions: as each theorem states them. -/
import Derived.BigRegion
import Derived.Deep.RegionLaw
import Derived.Deep.AppendSrc
import Derived.Test.YtfkikbnokjbnhaaPt
import Derived.Test.YtfkikbnokjbnhaaCSeal
namespace Go.Proofs.Ytfkikbnokjbnhaa
set_option linter.unusedSimpArgs false
set_option linter.unusedVariables false
open Go.RowKit

theorem ret_u8 {a b : Int} (h : a = b) : Ending.returned (.int .u8 a) = .returned (.int .u8 b) := by rw [h]
/-- A flag by its place; what the flags ahead of it come to. -/
def fgN (r : Rm) : Nat → Bool
  | 0 => r.bk
  | 1 => r.nr
  | 2 => r.ci
  | 3 => r.ni
  | _ => r.ra
def flN (r : Rm) : Nat → Nat
  | 0 => 0
  | k + 1 => flN r k + bN (fgN r k) (128 / 2 ^ k)
theorem fl_five (r : Rm) : flN r 5 = flagN r := by simp [flN, fgN, flagN]
theorem fl_nat (r : Rm) (k : Nat) (hk : k < 5) : (flN r k ||| 128 / 2 ^ k) = flN r k + 128 / 2 ^ k ∧ flN r k + 1 ≤ 256 := by
  have key : ∀ a b c d : Bool, (((bN a 128 ||| 64) = bN a 128 + 64) ∧ ((0 + bN a 128 + bN b 64 ||| 32) = 0 + bN a 128 + bN b 64 + 32) ∧ ((0 + bN a 128 + bN b 64 + bN c 32 ||| 16) = 0 + bN a 128 + bN b 64 + bN c 32 + 16) ∧ ((0 + bN a 128 + bN b 64 + bN c 32 + bN d 16 ||| 8) = 0 + bN a 128 + bN b 64 + bN c 32 + bN d 16 + 8)) ∧ 0 + bN a 128 + bN b 64 + bN c 32 + bN d 16 + 1 ≤ 256 := by decide
  obtain ⟨⟨h1, h2, h3, h4⟩, h5⟩ := key r.bk r.nr r.ci r.ni
  have : k = 0 ∨ k = 1 ∨ k = 2 ∨ k = 3 ∨ k = 4 := by omega
  rcases this with rfl | rfl | rfl | rfl | rfl <;> simp only [flN, fgN, Nat.zero_add, Nat.reducePow, Nat.reduceDiv] at *
  · exact ⟨rfl, by decide⟩
  · exact ⟨h1, by omega⟩
  · exact ⟨h2, by omega⟩
  · exact ⟨h3, by omega⟩
  · exact ⟨h4, h5⟩
theorem fl_or (r : Rm) (k : Nat) (hk : k < 5) : bits .or .u8 (flN r k : Int) (128 / 2 ^ k) = ((flN r k + 128 / 2 ^ k : Nat) : Int) := by
  obtain ⟨h1, h2⟩ := fl_nat r k hk
  have e : (128 : Int) / 2 ^ k = ((128 / 2 ^ k : Nat) : Int) := by simp
  rw [e, u8_or_nat _ _ h2 (Nat.lt_of_le_of_lt (Nat.div_le_self _ _) (by decide)), h1]
theorem idxF_k (b k : Nat) (hk : k < 5) (w : World) : (Instr.index 80 (.agg #[.pointer (some ⟨b, 0, none⟩), .pointer (some ⟨b, 1, none⟩), .pointer (some ⟨b, 2, none⟩), .pointer (some ⟨b, 3, none⟩), .pointer (some ⟨b, 4, none⟩)]) (.int .i64 k)).run Try.prog w = .ok (.pointer (some ⟨b, k, none⟩)) w := by
  obtain ⟨i0, i1, i2, i3, i4⟩ := idxF b
  have : k = 0 ∨ k = 1 ∨ k = 2 ∨ k = 3 ∨ k = 4 := by omega
  rcases this with rfl | rfl | rfl | rfl | rfl
  · exact i0 w
  · exact i1 w
  · exact i2 w
  · exact i3 w
  · exact i4 w
theorem BK.flag {w : World} {b : Nat} {r : Rm} {t : TypeId} (h : BK w b (rmV r) t) (k : Nat) (hk : k < 5) : w.cell? ⟨b, k, none⟩ = some (.bool (fgN r k)) := by
  obtain ⟨c0, c1, c2, c3, c4, _⟩ := h.rm
  have : k = 0 ∨ k = 1 ∨ k = 2 ∨ k = 3 ∨ k = 4 := by omega
  rcases this with rfl | rfl | rfl | rfl | rfl
  · exact c0
  · exact c1
  · exact c2
  · exact c3
  · exact c4

set_option maxHeartbeats 2000000 in
theorem flagByte_calls (r : Rm) (w : World) : Calls Try.prog 36 #[.agg (rmV r)] w fun e w' => e = .returned (.int .u8 (flagN r : Nat)) ∧ Below w.heap.size w w' := by
  have A0 : Below w.heap.size w (w.alloc (.cells (rmV r) 31)) := (Below.refl _ w).alloc (Nat.le_refl _) _
  have K0 := bk_new w (rmV r) 31
  have L0 := K0.lt
  go_enter Try.func36, Try.ntmps36
  go_wp2_with fail
  refine (flags_calls _ _).mono ?_
  rintro e w1 ⟨rfl, b1⟩
  have B1 : Below w.heap.size w w1 := A0.trans (b1.mono (by simp))
  have K1 := K0.below b1 L0
  clear b1 A0 K0 L0
  go_wp2
  go_loopw [3, 7] (fun v i wr => ∃ k : Nat, k ≤ 5 ∧ i = .int .i64 k ∧ v = .int .u8 (flN r k : Nat) ∧ wr = w1) (fun _ i _ => 5 - (intOf i).toNat)
  case atStart => exact ⟨0, by omega, rfl, rfl, rfl⟩
  case round =>
    obtain ⟨k, hk, rfl, rfl, rfl⟩ := hrel
    by_cases hlt : k < 5
    · have hc := K1.flag k hlt
      have hi := idxF_k w.heap.size k hlt
      have hor := fl_or r k hlt
      have HE : Hid (flN r (k + 1) = flN r k + bN (fgN r k) (128 / 2 ^ k)) := rfl
      cases hf : fgN r k
      · rw [hf] at hc HE
        clear hf hor
        go_wp2
        go_roundw
        case rel => exact ⟨k + 1, by omega, by go_num, by rw [HE.out]; rfl, trivial⟩
        case measure => simp [intOf]; omega
      · rw [hf] at hc HE
        clear hf
        generalize flN r k = x at *
        obtain ⟨y, hy⟩ : ∃ y, x + 128 / 2 ^ k = y := ⟨_, rfl⟩
        rw [hy] at hor
        have HY : Hid (flN r (k + 1) = y) := by rw [Hid, HE.out, ← hy]; rfl
        clear HE hy
        go_wp2
        go_roundw
        case rel => exact ⟨k + 1, by omega, by go_num, by rw [HY.out], trivial⟩
        case measure => simp [intOf]; omega
    · obtain rfl : k = 5 := by omega
      rw [fl_five]
      go_wp2
      go_ret
      exact ⟨ret_u8 rfl, B1⟩

/-! ### What is laid -/
def rtN (r : Rm) : Nat → Nat
  | 0 => r.er
  | 1 => r.cc
  | _ => r.mc
def nuN (r : Rm) : Nat → Nat
  | 0 => r.ql
  | _ => r.sn
theorem rt_lt {r : Rm} (h : r.Ok) (k : Nat) : rtN r k < 65536 := by
  match k with
  | 0 => exact h.er
  | 1 => exact h.cc
  | k + 2 => exact h.mc
theorem nu_lt {r : Rm} (h : r.Ok) (k : Nat) : nuN r k < 4294967296 := by
  match k with
  | 0 => exact h.ql
  | k + 1 => exact h.sn
theorem idxR_k (b k : Nat) (hk : k < 3) (w : World) : (Instr.index 68 (.agg #[.pointer (some ⟨b, 5, none⟩), .pointer (some ⟨b, 6, none⟩), .pointer (some ⟨b, 7, none⟩)]) (.int .i64 k)).run Try.prog w = .ok (.pointer (some ⟨b, 5 + k, none⟩)) w := by
  obtain ⟨i0, i1, i2⟩ := idxR b
  have : k = 0 ∨ k = 1 ∨ k = 2 := by omega
  rcases this with rfl | rfl | rfl
  · exact i0 w
  · exact i1 w
  · exact i2 w
theorem idxN_k (b k : Nat) (hk : k < 2) (w : World) : (Instr.index 73 (.agg #[.pointer (some ⟨b, 8, none⟩), .pointer (some ⟨b, 9, none⟩)]) (.int .i64 k)).run Try.prog w = .ok (.pointer (some ⟨b, 8 + k, none⟩)) w := by
  obtain ⟨i0, i1⟩ := idxN b
  have : k = 0 ∨ k = 1 := by omega
  rcases this with rfl | rfl
  · exact i0 w
  · exact i1 w
theorem BK.rate {w : World} {b : Nat} {r : Rm} {t : TypeId} (h : BK w b (rmV r) t) (k : Nat) (hk : k < 3) : w.cell? ⟨b, 5 + k, none⟩ = some (.int .u16 (rtN r k : Nat)) := by
  obtain ⟨_, _, _, _, _, c5, c6, c7, _, _⟩ := h.rm
  have : k = 0 ∨ k = 1 ∨ k = 2 := by omega
  rcases this with rfl | rfl | rfl
  · exact c5
  · exact c6
  · exact c7
theorem BK.num {w : World} {b : Nat} {r : Rm} {t : TypeId} (h : BK w b (rmV r) t) (k : Nat) (hk : k < 2) : w.cell? ⟨b, 8 + k, none⟩ = some (.int .u32 (nuN r k : Nat)) := by
  obtain ⟨_, _, _, _, _, _, _, _, c8, c9⟩ := h.rm
  have : k = 0 ∨ k = 1 := by omega
  rcases this with rfl | rfl
  · exact c8
  · exact c9
theorem hi_byte (n : Nat) (h : n < 65536) : (n : Int) / 256 = ((UInt8.ofNat (n / 256)).toNat : Int) := by rw [byteN]; omega
theorem lo_byte (n : Nat) : (n : Int) % 256 = ((UInt8.ofNat n).toNat : Int) := by rw [byteN]; omega
theorem by2 (n : Nat) : (n : Int) / 256 % 256 = ((UInt8.ofNat (n / 256)).toNat : Int) := by rw [byteN]; omega
theorem by3 (n : Nat) : (n : Int) / 65536 % 256 = ((UInt8.ofNat (n / 65536)).toNat : Int) := by rw [byteN]; omega
theorem by4 (n : Nat) (h : n < 4294967296) : (n : Int) / 16777216 = ((UInt8.ofNat (n / 16777216)).toNat : Int) := by rw [byteN]; omega
theorem head_rate (r : Rm) (k : Nat) (hk : k < 3) : (headN r).take (2 + 2 * (k + 1)) = (headN r).take (2 + 2 * k) ++ be2 (rtN r k) := by
  have : k = 0 ∨ k = 1 ∨ k = 2 := by omega
  rcases this with rfl | rfl | rfl <;> rfl
theorem head_num (r : Rm) (k : Nat) (hk : k < 2) : (headN r).take (8 + 4 * (k + 1)) = (headN r).take (8 + 4 * k) ++ be4 (nuN r k) := by
  have : k = 0 ∨ k = 1 := by omega
  rcases this with rfl | rfl <;> rfl

def slen : Value → Nat
  | .slice _ n _ => n
  | _ => 0
theorem size_alloc_drew (w : World) (o : Obj) : (w.alloc o).drew.heap.size = w.heap.size + 1 := by show (w.alloc o).heap.size = _; simp

set_option maxHeartbeats 4000000 in
theorem lay_calls (r : Rm) (h : r.Ok) (w : World) : Calls Try.prog 25 #[.agg (rmV r)] w fun e w' => e = .returned (.agg (payV (payN r))) ∧ Below w.heap.size w w' := by
  have K0 := (bk_new w (rmV r) 31).alloc (.cells (payV (zer 48)) 26)
  have R0 := bk_new (w.alloc (.cells (rmV r) 31)) (payV (zer 48)) 26
  rw [World.size_alloc] at R0
  have A0 : Below w.heap.size w ((w.alloc (.cells (rmV r) 31)).alloc (.cells (payV (zer 48)) 26)) := ((Below.refl _ w).alloc (Nat.le_refl _) _).alloc (by simp) _
  obtain ⟨w1, hmk, o1, b1, z1⟩ := run_mkc ((w.alloc (.cells (rmV r) 31)).alloc (.cells (payV (zer 48)) 26)) (w.heap.size + 1 + 1) 0 48 0 48 rfl rfl (by decide) (by decide) (by simp)
  simp only [World.size_alloc] at hmk o1 z1
  have K1 := K0.below b1 (by omega)
  have R1 := R0.below b1 (by omega)
  have B1 : Below w.heap.size w w1 := A0.trans (b1.mono (by omega))
  have HB : Hid (UInt8.ofNat (flagN r) = UInt8.ofNat (flagN r)) := rfl
  have hfl : ((flagN r : Nat) : Int) = ((UInt8.ofNat (flagN r)).toNat : Int) := by rw [byteN]; have := flag_lt r; omega
  have s1 : w.heap.size + 1 + 1 < w1.heap.size := by omega
  have HF := flagByte_calls r w1
  rw [hfl] at HF
  have L1 := K1.lt
  clear K0 R0 A0 b1 hfl
  go_enter Try.func25, Try.ntmps25
  go_wp2_with (first | (with_reducible show wpList _ _ _ (Oper.mk _ (Op.alloc 26) _ _ _ _ :: _) _ _; refine wpList_al rfl rfl zero24 ?_; (try simp only [Act.put, List.setIfInBounds_toArray, List.set_cons_zero, List.set_cons_succ, World.size_alloc])) | (with_reducible show wpList _ _ _ (Oper.mk _ (Op.load 31 _) _ _ _ _ :: _) _ _; refine wpList_ld rfl rfl rfl (run_ldA _ _ _ _ (by assumption)) ?_; (try simp only [Act.put, List.setIfInBounds_toArray, List.set_cons_zero, List.set_cons_succ, World.size_alloc])))
  refine HF.mono ?_
  rintro e w2 ⟨rfl, b2⟩
  have K2 := K1.below b2 L1
  have R2 := R1.below b2 R1.lt
  have B2 : Below w.heap.size w w2 := B1.trans (b2.mono B1.size)
  have o2 := o1.below b2 (Nat.le_refl _)
  have z2 := b2.size
  clear b2 B1 K1 R1 o1 hmk HF
  have H1 : Hid ((headN r).take 2 = [1, UInt8.ofNat (flagN r)]) := rfl
  generalize UInt8.ofNat (flagN r) = f8 at *
  obtain ⟨w3, hW3⟩ : ∃ w3, w2.alloc (.cells #[.int .u8 1, .int .u8 (f8.toNat : Int)] 5) = w3 := ⟨_, rfl⟩
  have J3 : IsB (w2.heap.size + 1) w3 (some ⟨w2.heap.size, 0, none⟩) 2 [1, f8] := by rw [← hW3]; exact isB_new w2 [1, f8] 5 (0, 0)
  have s3 : Below w2.heap.size w2 w3 := by rw [← hW3]; exact (Below.refl _ w2).alloc (Nat.le_refl _) _
  have z3 : w3.heap.size = w2.heap.size + 1 := by rw [← hW3]; simp
  obtain ⟨a4, c4, w4, hap4, o4, b4⟩ := run_app w3 (w.heap.size + 1 + 1) 32 _ _ _ _ (o2.below s3 (Nat.le_refl _)) (some ⟨w2.heap.size, 0, none⟩) 2 2 _ J3 (by intro h; cases h) (by omega) (by omega)
  simp only [Nat.zero_add, List.replicate_zero, List.nil_append] at hap4 o4
  rw [← H1.out] at o4
  have K4 := (K2.below s3 K2.lt).below b4 (by omega)
  have R4 := (R2.below s3 R2.lt).below b4 (by omega)
  have B4 : Below w.heap.size w w4 := B2.trans ((s3.mono B2.size).trans (b4.mono (by omega)))
  clear J3 s3 o2 K2 R2 B2 z1 z2 z3 b4 H1 s1 L1
  go_wp2_with (first | (with_reducible show wpList _ _ _ (Oper.mk _ (Op.load 31 _) _ _ _ _ :: _) _ _; refine wpList_ld rfl rfl rfl (run_ldA _ _ _ _ (by assumption)) ?_; (try simp only [Act.put, List.setIfInBounds_toArray, List.set_cons_zero, List.set_cons_succ, World.size_alloc])) | (at_builtin; refine wpList_app hap4 _ _ rfl rfl rfl rfl rfl ?_))
  refine (rates_calls _ _).mono ?_
  rintro e w5 ⟨rfl, b5⟩
  have K5 := K4.below b5 K4.lt
  have R5 := R4.below b5 R4.lt
  have B5 : Below w.heap.size w w5 := B4.trans (b5.mono B4.size)
  have o5 := o4.below b5 (Nat.le_refl _)
  have L5 := R5.lt
  clear b5 K4 R4 B4 o4 hap4 hW3
  go_wp2
  go_loopw [3, 16] (fun v i wr => ∃ (k : Nat) (a : Option Addr) (c : Nat), k ≤ 3 ∧ i = .int .i64 k ∧ v = .slice a (2 + 2 * k) c ∧ OwnB (w.heap.size + 1 + 1) wr a (2 + 2 * k) c ((headN r).take (2 + 2 * k)) ∧ Below (w.heap.size + 1 + 1) w5 wr) (fun _ i _ => 3 - (intOf i).toNat)
  case atStart => exact ⟨0, _, _, by omega, rfl, rfl, o5, Below.refl _ _⟩
  case round =>
    obtain ⟨k, a, c, hk, rfl, rfl, ok, bk⟩ := hrel
    clear o5
    by_cases hlt : k < 3
    · have Kk := K5.below bk (by omega)
      have hc := Kk.rate k hlt
      have hi := idxR_k w.heap.size k hlt
      have hx := rt_lt h k
      have hh := head_rate r k hlt
      generalize rtN r k = x at *
      have e1 := hi_byte x hx
      have e0 := lo_byte x
      rw [be2] at hh
      generalize UInt8.ofNat (x / 256) = v1 at *
      generalize UInt8.ofNat x = v0 at *
      have sz : w.heap.size + 1 + 1 ≤ wr.heap.size := by have := bk.size; omega
      obtain ⟨w6, hW6⟩ : ∃ w6, (wr.alloc (.cells #[.int .u8 (v1.toNat : Int), .int .u8 (v0.toNat : Int)] 5)).drew = w6 := ⟨_, rfl⟩
      have J6 : IsB (wr.heap.size + 1) w6 (some ⟨wr.heap.size, 0, none⟩) 2 [v1, v0] := by rw [← hW6]; exact isB_new wr [v1, v0] 5 (0, 0)
      have s6 : Below wr.heap.size wr w6 := by rw [← hW6]; exact ((Below.refl _ wr).alloc (Nat.le_refl _) _).drew
      have z6 : w6.heap.size = wr.heap.size + 1 := by rw [← hW6]; exact size_alloc_drew _ _
      have hv1 : IntKind.u8.wrap (v1.toNat : Int) = (v1.toNat : Int) := by rw [IntKind.wrap_u8]; have := v1.toNat_lt; omega
      have hv0 : IntKind.u8.wrap (x : Int) = (v0.toNat : Int) := by rw [IntKind.wrap_u8]; exact e0
      obtain ⟨a7, c7, w7, hap7, o7, b7⟩ := run_app w6 (w.heap.size + 1 + 1) 32 _ _ _ _ (ok.below s6 (Nat.le_refl _)) (some ⟨wr.heap.size, 0, none⟩) 2 2 _ J6 (by intro h; cases h) (by omega) (by omega)
      have HO : Hid (OwnB (w.heap.size + 1 + 1) w7 a7 (2 + 2 * (k + 1)) c7 ((headN r).take (2 + 2 * (k + 1)))) := by rw [Hid, hh]; exact o7
      have B7 : Hid (Below (w.heap.size + 1 + 1) w5 w7) := bk.trans ((s6.mono sz).trans b7)
      have hc6 : w6.cell? ⟨w.heap.size, 5 + k, none⟩ = some (.int .u16 (x : Int)) := (s6.cell (p := ⟨w.heap.size, 5 + k, none⟩) (by show w.heap.size < _; omega)).trans hc
      have hc7 : w7.cell? ⟨w.heap.size, 5 + k, none⟩ = some (.int .u16 (x : Int)) := (b7.cell (p := ⟨w.heap.size, 5 + k, none⟩) (by show w.heap.size < _; omega)).trans hc6
      clear J6 s6 z6 o7 b7 hh ok bk Kk
      go_wp2
      refine wp_region_held_drew (S := (fun w' => w'.cell? ⟨w.heap.size, 5 + k, none⟩ = some (.int .u16 (x : Int)))) (by kernel_rfl) hc (fun hHeld => ?_)
      refine wpAnyH_take (i := 0) (oi := ({ dst := some 19, op := Op.move (Operand.tmp 3), type := 32, pos := _, after := #[], guard := none } : Oper)) (v := ?_) rfl (by kernel_rfl) (by kernel_rfl) (by kernel_rfl) (fun _ _ _ h => h) (Or.inl ⟨by rfl, ?_⟩) hHeld ?_
      rotate_left
      · (intro w hS; go_simp; try with_reducible rfl)
      try simp only [Act.put, List.setIfInBounds_toArray, List.set_cons_zero, List.set_cons_succ]
      refine wpAnyH_take (i := 1) (oi := ({ dst := some 20, op := Op.move (Operand.tmp 5), type := 67, pos := _, after := #[], guard := none } : Oper)) (v := ?_) rfl (by kernel_rfl) (by kernel_rfl) (by kernel_rfl) (fun _ _ _ h => h) (Or.inl ⟨by rfl, ?_⟩) hHeld ?_
      rotate_left
      · (intro w hS; go_simp; try with_reducible rfl)
      try simp only [Act.put, List.setIfInBounds_toArray, List.set_cons_zero, List.set_cons_succ]
      refine wpAnyH_take (i := 2) (oi := ({ dst := some 21, op := Op.nilCheck (Operand.tmp 20), type := 0, pos := _, after := #[{ on := 1, ground := Ground.data }], guard := none } : Oper)) (v := ?_) rfl (by kernel_rfl) (by kernel_rfl) (by kernel_rfl) (fun _ _ _ h => h) (Or.inl ⟨by rfl, ?_⟩) hHeld ?_
      rotate_left
      · (intro w hS; go_simp; try with_reducible rfl)
      try simp only [Act.put, List.setIfInBounds_toArray, List.set_cons_zero, List.set_cons_succ]
      refine wpAnyH_take (i := 3) (oi := ({ dst := some 22, op := Op.load 22 (Operand.tmp 21), type := 22, pos := _, after := #[{ on := 2, ground := Ground.data }], guard := none } : Oper)) (v := ?_) rfl (by kernel_rfl) (by kernel_rfl) (by kernel_rfl) (fun _ _ _ h => h) (Or.inl ⟨by rfl, ?_⟩) hHeld ?_
      rotate_left
      · (intro w hS; go_simp; try with_reducible rfl)
      try simp only [Act.put, List.setIfInBounds_toArray, List.set_cons_zero, List.set_cons_succ]
      refine wpAnyH_take (i := 4) (oi := ({ dst := some 23, op := Op.binOp BinOp.shr 22 (Operand.tmp 22) (Operand.const (Value.int IntKind.u64 8)) 66, type := 22, pos := _, after := #[{ on := 3, ground := Ground.data }], guard := none } : Oper)) (v := ?_) rfl (by kernel_rfl) (by kernel_rfl) (by kernel_rfl) (fun _ _ _ h => h) (Or.inl ⟨by rfl, ?_⟩) hHeld ?_
      rotate_left
      · (intro w hS; go_simp; try with_reducible rfl)
      try simp only [Act.put, List.setIfInBounds_toArray, List.set_cons_zero, List.set_cons_succ]
      refine wpAnyH_take (i := 5) (oi := ({ dst := some 24, op := Op.convert 22 5 (Operand.tmp 23), type := 5, pos := _, after := #[{ on := 4, ground := Ground.data }], guard := none } : Oper)) (v := ?_) rfl (by kernel_rfl) (by kernel_rfl) (by kernel_rfl) (fun _ _ _ h => h) (Or.inl ⟨by rfl, ?_⟩) hHeld ?_
      rotate_left
      · (intro w hS; go_simp; try with_reducible rfl)
      try simp only [Act.put, List.setIfInBounds_toArray, List.set_cons_zero, List.set_cons_succ]
      refine wpAnyH_take (i := 6) (oi := ({ dst := some 25, op := Op.move (Operand.tmp 5), type := 67, pos := _, after := #[], guard := none } : Oper)) (v := ?_) rfl (by kernel_rfl) (by kernel_rfl) (by kernel_rfl) (fun _ _ _ h => h) (Or.inl ⟨by rfl, ?_⟩) hHeld ?_
      rotate_left
      · (intro w hS; go_simp; try with_reducible rfl)
      try simp only [Act.put, List.setIfInBounds_toArray, List.set_cons_zero, List.set_cons_succ]
      refine wpAnyH_take (i := 7) (oi := ({ dst := some 26, op := Op.nilCheck (Operand.tmp 25), type := 0, pos := _, after := #[{ on := 6, ground := Ground.data }], guard := none } : Oper)) (v := ?_) rfl (by kernel_rfl) (by kernel_rfl) (by kernel_rfl) (fun _ _ _ h => h) (Or.inl ⟨by rfl, ?_⟩) hHeld ?_
      rotate_left
      · (intro w hS; go_simp; try with_reducible rfl)
      try simp only [Act.put, List.setIfInBounds_toArray, List.set_cons_zero, List.set_cons_succ]
      refine wpAnyH_take (i := 8) (oi := ({ dst := some 27, op := Op.load 22 (Operand.tmp 26), type := 22, pos := _, after := #[{ on := 7, ground := Ground.data }], guard := none } : Oper)) (v := ?_) rfl (by kernel_rfl) (by kernel_rfl) (by kernel_rfl) (fun _ _ _ h => h) (Or.inl ⟨by rfl, ?_⟩) hHeld ?_
      rotate_left
      · (intro w hS; go_simp; try with_reducible rfl)
      try simp only [Act.put, List.setIfInBounds_toArray, List.set_cons_zero, List.set_cons_succ]
      refine wpAnyH_take (i := 9) (oi := ({ dst := some 28, op := Op.convert 22 5 (Operand.tmp 27), type := 5, pos := _, after := #[{ on := 8, ground := Ground.data }], guard := none } : Oper)) (v := ?_) rfl (by kernel_rfl) (by kernel_rfl) (by kernel_rfl) (fun _ _ _ h => h) (Or.inl ⟨by rfl, ?_⟩) hHeld ?_
      rotate_left
      · (intro w hS; go_simp; try with_reducible rfl)
      try simp only [Act.put, List.setIfInBounds_toArray, List.set_cons_zero, List.set_cons_succ]
      refine wpAnyH_ready (rs := [10]) (by kernel_rfl) (by simp) ?_
      refine AllReadyH.cons (o := ({ dst := some 29, op := Op.buildSlice 32 2 #[(0, Operand.tmp 24), (1, Operand.tmp 28)], type := 32, pos := _, after := #[{ on := 5, ground := Ground.data }, { on := 9, ground := Ground.data }], guard := none } : Oper)) rfl (fun K hK => ?_) AllReadyH.nil
      go_simp
      skip
      refine hK.out _ _ hc6 (fun hHeld => ?_)
      clear hK K
      try simp only [Act.put, List.setIfInBounds_toArray, List.set_cons_zero, List.set_cons_succ]
      refine wpAnyH_ready (rs := [11]) (by kernel_rfl) (by simp) ?_
      refine AllReadyH.cons (o := ({ dst := some 30, op := Op.call { callee := Callee.builtin Builtin.append, args := #[Operand.tmp 19, Operand.tmp 29], argTypes := #[32, 32] }, type := 32, pos := _, after := #[{ on := 0, ground := Ground.data }, { on := 10, ground := Ground.data }], guard := none } : Oper)) rfl (fun K hK => ?_) AllReadyH.nil
      refine step_app hap7 _ _ rfl rfl rfl rfl rfl ?_
      skip
      refine hK.out _ _ hc7 (fun hHeld => ?_)
      clear hK K
      try simp only [Act.put, List.setIfInBounds_toArray, List.set_cons_zero, List.set_cons_succ]
      refine wpAnyH_take (i := 12) (oi := ({ dst := some 3, op := Op.assign (Operand.tmp 30), type := 32, pos := _, after := #[{ on := 11, ground := Ground.data }, { on := 11, ground := Ground.chain }, { on := 0, ground := Ground.phase }, { on := 1, ground := Ground.phase }, { on := 2, ground := Ground.phase }, { on := 3, ground := Ground.phase }, { on := 4, ground := Ground.phase }, { on := 5, ground := Ground.phase }, { on := 6, ground := Ground.phase }, { on := 7, ground := Ground.phase }, { on := 8, ground := Ground.phase }, { on := 9, ground := Ground.phase }, { on := 10, ground := Ground.phase }, { on := 11, ground := Ground.phase }], guard := none } : Oper)) (v := ?_) rfl (by kernel_rfl) (by kernel_rfl) (by kernel_rfl) (fun _ _ _ h => h) (Or.inl ⟨by rfl, ?_⟩) hHeld ?_
      rotate_left
      · (intro w hS; go_simp; try with_reducible rfl)
      try simp only [Act.put, List.setIfInBounds_toArray, List.set_cons_zero, List.set_cons_succ]
      refine wpAnyH_done (by kernel_rfl) ?_ _
      go_wp2
      go_roundw
      case rel => exact ⟨k + 1, a7, c7, by omega, by go_num, by rw [show 2 + 2 * k + 2 = 2 + 2 * (k + 1) from by omega], HO.out, B7.out⟩
      case measure => simp [intOf]; omega
    · obtain rfl : k = 3 := by omega
      have Kk := K5.below bk (by omega)
      have Rk := R5.below bk (by omega)
      have Bk : Below w.heap.size w wr := B5.trans (bk.mono (by omega))
      have Lk := Rk.lt
      clear K5 R5 B5 bk L5
      obtain ⟨wa, hwa⟩ : ∃ wa, wa = wr := ⟨_, rfl⟩
      subst hwa
      go_wp2_with fail
      refine (numbers_calls _ _).mono ?_
      rintro e w6 ⟨rfl, b6⟩
      have K6 := Kk.below b6 Kk.lt
      have R6 := Rk.below b6 Rk.lt
      have B6 : Below w.heap.size w w6 := Bk.trans (b6.mono Bk.size)
      have o6 := ok.below b6 (Nat.le_refl _)
      have L6 := R6.lt
      clear b6 Kk Rk Bk ok Lk
      go_wp2
      go_loopw [3, 33] (fun v i wr => ∃ (k : Nat) (a : Option Addr) (c : Nat), k ≤ 2 ∧ i = .int .i64 k ∧ v = .slice a (8 + 4 * k) c ∧ OwnB (w.heap.size + 1 + 1) wr a (8 + 4 * k) c ((headN r).take (8 + 4 * k)) ∧ Below (w.heap.size + 1 + 1) w6 wr) (fun _ i _ => 2 - (intOf i).toNat)
      case atStart => exact ⟨0, _, _, by omega, rfl, rfl, o6, Below.refl _ _⟩
      case round =>
        obtain ⟨k, a, c, hk, rfl, rfl, ok, bk⟩ := hrel
        clear o6
        by_cases hlt : k < 2
        · have Kk := K6.below bk (by omega)
          have hc := Kk.num k hlt
          have hi := idxN_k w.heap.size k hlt
          have hx := nu_lt h k
          have hh := head_num r k hlt
          generalize nuN r k = x at *
          have e3 := by4 x hx
          have e2 := by3 x
          have e1 := by2 x
          have e0 := lo_byte x
          rw [be4] at hh
          generalize UInt8.ofNat (x / 16777216) = v3 at *
          generalize UInt8.ofNat (x / 65536) = v2 at *
          generalize UInt8.ofNat (x / 256) = v1 at *
          generalize UInt8.ofNat x = v0 at *
          have sz : w.heap.size + 1 + 1 ≤ wr.heap.size := by have := bk.size; omega
          obtain ⟨w7, hW7⟩ : ∃ w7, (wr.alloc (.cells #[.int .u8 (v3.toNat : Int), .int .u8 (v2.toNat : Int), .int .u8 (v1.toNat : Int), .int .u8 (v0.toNat : Int)] 5)).drew = w7 := ⟨_, rfl⟩
          have J7 : IsB (wr.heap.size + 1) w7 (some ⟨wr.heap.size, 0, none⟩) 4 [v3, v2, v1, v0] := by rw [← hW7]; exact isB_new wr [v3, v2, v1, v0] 5 (0, 0)
          have s7 : Below wr.heap.size wr w7 := by rw [← hW7]; exact ((Below.refl _ wr).alloc (Nat.le_refl _) _).drew
          have z7 : w7.heap.size = wr.heap.size + 1 := by rw [← hW7]; exact size_alloc_drew _ _
          have hv3 : IntKind.u8.wrap (v3.toNat : Int) = (v3.toNat : Int) := by rw [IntKind.wrap_u8]; have := v3.toNat_lt; omega
          have hv2 : IntKind.u8.wrap ((x : Int) / 65536) = (v2.toNat : Int) := by rw [IntKind.wrap_u8]; exact e2
          have hv1 : IntKind.u8.wrap ((x : Int) / 256) = (v1.toNat : Int) := by rw [IntKind.wrap_u8]; exact e1
          have hv0 : IntKind.u8.wrap (x : Int) = (v0.toNat : Int) := by rw [IntKind.wrap_u8]; exact e0
          obtain ⟨a8, c8, w8, hap8, o8, b8⟩ := run_app w7 (w.heap.size + 1 + 1) 32 _ _ _ _ (ok.below s7 (Nat.le_refl _)) (some ⟨wr.heap.size, 0, none⟩) 4 4 _ J7 (by intro h; cases h) (by omega) (by omega)
          have HO : Hid (OwnB (w.heap.size + 1 + 1) w8 a8 (8 + 4 * (k + 1)) c8 ((headN r).take (8 + 4 * (k + 1)))) := by rw [Hid, hh]; exact o8
          have B8 : Hid (Below (w.heap.size + 1 + 1) w6 w8) := bk.trans ((s7.mono sz).trans b8)
          have hc7 : w7.cell? ⟨w.heap.size, 8 + k, none⟩ = some (.int .u32 (x : Int)) := (s7.cell (p := ⟨w.heap.size, 8 + k, none⟩) (by show w.heap.size < _; omega)).trans hc
          have hc8 : w8.cell? ⟨w.heap.size, 8 + k, none⟩ = some (.int .u32 (x : Int)) := (b8.cell (p := ⟨w.heap.size, 8 + k, none⟩) (by show w.heap.size < _; omega)).trans hc7
          clear J7 s7 z7 o8 b8 hh ok bk Kk e2 e1 e0
          go_wp2
          refine wp_region_held_drew (S := (fun w' => w'.cell? ⟨w.heap.size, 8 + k, none⟩ = some (.int .u32 (x : Int)))) (by kernel_rfl) hc (fun hHeld => ?_)
          refine wpAnyH_take (i := 0) (oi := ({ dst := some 36, op := Op.move (Operand.tmp 3), type := 32, pos := _, after := #[], guard := none } : Oper)) (v := ?_) rfl (by kernel_rfl) (by kernel_rfl) (by kernel_rfl) (fun _ _ _ h => h) (Or.inl ⟨by rfl, ?_⟩) hHeld ?_
          rotate_left
          · (intro w hS; go_simp; try with_reducible rfl)
          try simp only [Act.put, List.setIfInBounds_toArray, List.set_cons_zero, List.set_cons_succ]
          refine wpAnyH_take (i := 1) (oi := ({ dst := some 37, op := Op.move (Operand.tmp 7), type := 72, pos := _, after := #[], guard := none } : Oper)) (v := ?_) rfl (by kernel_rfl) (by kernel_rfl) (by kernel_rfl) (fun _ _ _ h => h) (Or.inl ⟨by rfl, ?_⟩) hHeld ?_
          rotate_left
          · (intro w hS; go_simp; try with_reducible rfl)
          try simp only [Act.put, List.setIfInBounds_toArray, List.set_cons_zero, List.set_cons_succ]
          refine wpAnyH_take (i := 2) (oi := ({ dst := some 38, op := Op.nilCheck (Operand.tmp 37), type := 0, pos := _, after := #[{ on := 1, ground := Ground.data }], guard := none } : Oper)) (v := ?_) rfl (by kernel_rfl) (by kernel_rfl) (by kernel_rfl) (fun _ _ _ h => h) (Or.inl ⟨by rfl, ?_⟩) hHeld ?_
          rotate_left
          · (intro w hS; go_simp; try with_reducible rfl)
          try simp only [Act.put, List.setIfInBounds_toArray, List.set_cons_zero, List.set_cons_succ]
          refine wpAnyH_take (i := 3) (oi := ({ dst := some 39, op := Op.load 23 (Operand.tmp 38), type := 23, pos := _, after := #[{ on := 2, ground := Ground.data }], guard := none } : Oper)) (v := ?_) rfl (by kernel_rfl) (by kernel_rfl) (by kernel_rfl) (fun _ _ _ h => h) (Or.inl ⟨by rfl, ?_⟩) hHeld ?_
          rotate_left
          · (intro w hS; go_simp; try with_reducible rfl)
          try simp only [Act.put, List.setIfInBounds_toArray, List.set_cons_zero, List.set_cons_succ]
          refine wpAnyH_take (i := 4) (oi := ({ dst := some 40, op := Op.binOp BinOp.shr 23 (Operand.tmp 39) (Operand.const (Value.int IntKind.u64 24)) 66, type := 23, pos := _, after := #[{ on := 3, ground := Ground.data }], guard := none } : Oper)) (v := ?_) rfl (by kernel_rfl) (by kernel_rfl) (by kernel_rfl) (fun _ _ _ h => h) (Or.inl ⟨by rfl, ?_⟩) hHeld ?_
          rotate_left
          · (intro w hS; go_simp; try with_reducible rfl)
          try simp only [Act.put, List.setIfInBounds_toArray, List.set_cons_zero, List.set_cons_succ]
          refine wpAnyH_take (i := 5) (oi := ({ dst := some 41, op := Op.convert 23 5 (Operand.tmp 40), type := 5, pos := _, after := #[{ on := 4, ground := Ground.data }], guard := none } : Oper)) (v := ?_) rfl (by kernel_rfl) (by kernel_rfl) (by kernel_rfl) (fun _ _ _ h => h) (Or.inl ⟨by rfl, ?_⟩) hHeld ?_
          rotate_left
          · (intro w hS; go_simp; try with_reducible rfl)
          try simp only [Act.put, List.setIfInBounds_toArray, List.set_cons_zero, List.set_cons_succ]
          refine wpAnyH_take (i := 6) (oi := ({ dst := some 42, op := Op.move (Operand.tmp 7), type := 72, pos := _, after := #[], guard := none } : Oper)) (v := ?_) rfl (by kernel_rfl) (by kernel_rfl) (by kernel_rfl) (fun _ _ _ h => h) (Or.inl ⟨by rfl, ?_⟩) hHeld ?_
          rotate_left
          · (intro w hS; go_simp; try with_reducible rfl)
          try simp only [Act.put, List.setIfInBounds_toArray, List.set_cons_zero, List.set_cons_succ]
          refine wpAnyH_take (i := 7) (oi := ({ dst := some 43, op := Op.nilCheck (Operand.tmp 42), type := 0, pos := _, after := #[{ on := 6, ground := Ground.data }], guard := none } : Oper)) (v := ?_) rfl (by kernel_rfl) (by kernel_rfl) (by kernel_rfl) (fun _ _ _ h => h) (Or.inl ⟨by rfl, ?_⟩) hHeld ?_
          rotate_left
          · (intro w hS; go_simp; try with_reducible rfl)
          try simp only [Act.put, List.setIfInBounds_toArray, List.set_cons_zero, List.set_cons_succ]
          refine wpAnyH_take (i := 8) (oi := ({ dst := some 44, op := Op.load 23 (Operand.tmp 43), type := 23, pos := _, after := #[{ on := 7, ground := Ground.data }], guard := none } : Oper)) (v := ?_) rfl (by kernel_rfl) (by kernel_rfl) (by kernel_rfl) (fun _ _ _ h => h) (Or.inl ⟨by rfl, ?_⟩) hHeld ?_
          rotate_left
          · (intro w hS; go_simp; try with_reducible rfl)
          try simp only [Act.put, List.setIfInBounds_toArray, List.set_cons_zero, List.set_cons_succ]
          refine wpAnyH_take (i := 9) (oi := ({ dst := some 45, op := Op.binOp BinOp.shr 23 (Operand.tmp 44) (Operand.const (Value.int IntKind.u64 16)) 66, type := 23, pos := _, after := #[{ on := 8, ground := Ground.data }], guard := none } : Oper)) (v := ?_) rfl (by kernel_rfl) (by kernel_rfl) (by kernel_rfl) (fun _ _ _ h => h) (Or.inl ⟨by rfl, ?_⟩) hHeld ?_
          rotate_left
          · (intro w hS; go_simp; try with_reducible rfl)
          try simp only [Act.put, List.setIfInBounds_toArray, List.set_cons_zero, List.set_cons_succ]
          refine wpAnyH_take (i := 10) (oi := ({ dst := some 46, op := Op.convert 23 5 (Operand.tmp 45), type := 5, pos := _, after := #[{ on := 9, ground := Ground.data }], guard := none } : Oper)) (v := ?_) rfl (by kernel_rfl) (by kernel_rfl) (by kernel_rfl) (fun _ _ _ h => h) (Or.inl ⟨by rfl, ?_⟩) hHeld ?_
          rotate_left
          · (intro w hS; go_simp; try with_reducible rfl)
          try simp only [Act.put, List.setIfInBounds_toArray, List.set_cons_zero, List.set_cons_succ]
          refine wpAnyH_take (i := 11) (oi := ({ dst := some 47, op := Op.move (Operand.tmp 7), type := 72, pos := _, after := #[], guard := none } : Oper)) (v := ?_) rfl (by kernel_rfl) (by kernel_rfl) (by kernel_rfl) (fun _ _ _ h => h) (Or.inl ⟨by rfl, ?_⟩) hHeld ?_
          rotate_left
          · (intro w hS; go_simp; try with_reducible rfl)
          try simp only [Act.put, List.setIfInBounds_toArray, List.set_cons_zero, List.set_cons_succ]
          refine wpAnyH_take (i := 12) (oi := ({ dst := some 48, op := Op.nilCheck (Operand.tmp 47), type := 0, pos := _, after := #[{ on := 11, ground := Ground.data }], guard := none } : Oper)) (v := ?_) rfl (by kernel_rfl) (by kernel_rfl) (by kernel_rfl) (fun _ _ _ h => h) (Or.inl ⟨by rfl, ?_⟩) hHeld ?_
          rotate_left
          · (intro w hS; go_simp; try with_reducible rfl)
          try simp only [Act.put, List.setIfInBounds_toArray, List.set_cons_zero, List.set_cons_succ]
          refine wpAnyH_take (i := 13) (oi := ({ dst := some 49, op := Op.load 23 (Operand.tmp 48), type := 23, pos := _, after := #[{ on := 12, ground := Ground.data }], guard := none } : Oper)) (v := ?_) rfl (by kernel_rfl) (by kernel_rfl) (by kernel_rfl) (fun _ _ _ h => h) (Or.inl ⟨by rfl, ?_⟩) hHeld ?_
          rotate_left
          · (intro w hS; go_simp; try with_reducible rfl)
          try simp only [Act.put, List.setIfInBounds_toArray, List.set_cons_zero, List.set_cons_succ]
          refine wpAnyH_take (i := 14) (oi := ({ dst := some 50, op := Op.binOp BinOp.shr 23 (Operand.tmp 49) (Operand.const (Value.int IntKind.u64 8)) 66, type := 23, pos := _, after := #[{ on := 13, ground := Ground.data }], guard := none } : Oper)) (v := ?_) rfl (by kernel_rfl) (by kernel_rfl) (by kernel_rfl) (fun _ _ _ h => h) (Or.inl ⟨by rfl, ?_⟩) hHeld ?_
          rotate_left
          · (intro w hS; go_simp; try with_reducible rfl)
          try simp only [Act.put, List.setIfInBounds_toArray, List.set_cons_zero, List.set_cons_succ]
          refine wpAnyH_take (i := 15) (oi := ({ dst := some 51, op := Op.convert 23 5 (Operand.tmp 50), type := 5, pos := _, after := #[{ on := 14, ground := Ground.data }], guard := none } : Oper)) (v := ?_) rfl (by kernel_rfl) (by kernel_rfl) (by kernel_rfl) (fun _ _ _ h => h) (Or.inl ⟨by rfl, ?_⟩) hHeld ?_
          rotate_left
          · (intro w hS; go_simp; try with_reducible rfl)
          try simp only [Act.put, List.setIfInBounds_toArray, List.set_cons_zero, List.set_cons_succ]
          refine wpAnyH_take (i := 16) (oi := ({ dst := some 52, op := Op.move (Operand.tmp 7), type := 72, pos := _, after := #[], guard := none } : Oper)) (v := ?_) rfl (by kernel_rfl) (by kernel_rfl) (by kernel_rfl) (fun _ _ _ h => h) (Or.inl ⟨by rfl, ?_⟩) hHeld ?_
          rotate_left
          · (intro w hS; go_simp; try with_reducible rfl)
          try simp only [Act.put, List.setIfInBounds_toArray, List.set_cons_zero, List.set_cons_succ]
          refine wpAnyH_take (i := 17) (oi := ({ dst := some 53, op := Op.nilCheck (Operand.tmp 52), type := 0, pos := _, after := #[{ on := 16, ground := Ground.data }], guard := none } : Oper)) (v := ?_) rfl (by kernel_rfl) (by kernel_rfl) (by kernel_rfl) (fun _ _ _ h => h) (Or.inl ⟨by rfl, ?_⟩) hHeld ?_
          rotate_left
          · (intro w hS; go_simp; try with_reducible rfl)
          try simp only [Act.put, List.setIfInBounds_toArray, List.set_cons_zero, List.set_cons_succ]
          refine wpAnyH_take (i := 18) (oi := ({ dst := some 54, op := Op.load 23 (Operand.tmp 53), type := 23, pos := _, after := #[{ on := 17, ground := Ground.data }], guard := none } : Oper)) (v := ?_) rfl (by kernel_rfl) (by kernel_rfl) (by kernel_rfl) (fun _ _ _ h => h) (Or.inl ⟨by rfl, ?_⟩) hHeld ?_
          rotate_left
          · (intro w hS; go_simp; try with_reducible rfl)
          try simp only [Act.put, List.setIfInBounds_toArray, List.set_cons_zero, List.set_cons_succ]
          refine wpAnyH_take (i := 19) (oi := ({ dst := some 55, op := Op.convert 23 5 (Operand.tmp 54), type := 5, pos := _, after := #[{ on := 18, ground := Ground.data }], guard := none } : Oper)) (v := ?_) rfl (by kernel_rfl) (by kernel_rfl) (by kernel_rfl) (fun _ _ _ h => h) (Or.inl ⟨by rfl, ?_⟩) hHeld ?_
          rotate_left
          · (intro w hS; go_simp; try with_reducible rfl)
          try simp only [Act.put, List.setIfInBounds_toArray, List.set_cons_zero, List.set_cons_succ]
          refine wpAnyH_ready (rs := [20]) (by kernel_rfl) (by simp) ?_
          refine AllReadyH.cons (o := ({ dst := some 56, op := Op.buildSlice 32 4 #[(0, Operand.tmp 41), (1, Operand.tmp 46), (2, Operand.tmp 51), (3, Operand.tmp 55)], type := 32, pos := _, after := #[{ on := 5, ground := Ground.data }, { on := 10, ground := Ground.data }, { on := 15, ground := Ground.data }, { on := 19, ground := Ground.data }], guard := none } : Oper)) rfl (fun K hK => ?_) AllReadyH.nil
          go_simp
          skip
          refine hK.out _ _ hc7 (fun hHeld => ?_)
          clear hK K
          try simp only [Act.put, List.setIfInBounds_toArray, List.set_cons_zero, List.set_cons_succ]
          refine wpAnyH_ready (rs := [21]) (by kernel_rfl) (by simp) ?_
          refine AllReadyH.cons (o := ({ dst := some 57, op := Op.call { callee := Callee.builtin Builtin.append, args := #[Operand.tmp 36, Operand.tmp 56], argTypes := #[32, 32] }, type := 32, pos := _, after := #[{ on := 0, ground := Ground.data }, { on := 20, ground := Ground.data }], guard := none } : Oper)) rfl (fun K hK => ?_) AllReadyH.nil
          refine step_app hap8 _ _ rfl rfl rfl rfl rfl ?_
          skip
          refine hK.out _ _ hc8 (fun hHeld => ?_)
          clear hK K
          try simp only [Act.put, List.setIfInBounds_toArray, List.set_cons_zero, List.set_cons_succ]
          refine wpAnyH_take (i := 22) (oi := ({ dst := some 3, op := Op.assign (Operand.tmp 57), type := 32, pos := _, after := #[{ on := 21, ground := Ground.data }, { on := 21, ground := Ground.chain }, { on := 0, ground := Ground.phase }, { on := 1, ground := Ground.phase }, { on := 2, ground := Ground.phase }, { on := 3, ground := Ground.phase }, { on := 4, ground := Ground.phase }, { on := 5, ground := Ground.phase }, { on := 6, ground := Ground.phase }, { on := 7, ground := Ground.phase }, { on := 8, ground := Ground.phase }, { on := 9, ground := Ground.phase }, { on := 10, ground := Ground.phase }, { on := 11, ground := Ground.phase }, { on := 12, ground := Ground.phase }, { on := 13, ground := Ground.phase }, { on := 14, ground := Ground.phase }, { on := 15, ground := Ground.phase }, { on := 16, ground := Ground.phase }, { on := 17, ground := Ground.phase }, { on := 18, ground := Ground.phase }, { on := 19, ground := Ground.phase }, { on := 20, ground := Ground.phase }, { on := 21, ground := Ground.phase }], guard := none } : Oper)) (v := ?_) rfl (by kernel_rfl) (by kernel_rfl) (by kernel_rfl) (fun _ _ _ h => h) (Or.inl ⟨by rfl, ?_⟩) hHeld ?_
          rotate_left
          · (intro w hS; go_simp; try with_reducible rfl)
          try simp only [Act.put, List.setIfInBounds_toArray, List.set_cons_zero, List.set_cons_succ]
          refine wpAnyH_done (by kernel_rfl) ?_ _
          go_wp2
          go_roundw
          case rel => exact ⟨k + 1, a8, c8, by omega, by go_num, by rw [show 8 + 4 * k + 4 = 8 + 4 * (k + 1) from by omega], HO.out, B8.out⟩
          case measure => simp [intOf]; omega
        · obtain rfl : k = 2 := by omega
          have Rk := R6.below bk (by omega)
          have Bk : Below w.heap.size w wr := B6.trans (bk.mono (by omega))
          have Lk : w.heap.size + 1 + 1 ≤ wr.heap.size := Nat.le_trans L6 bk.size
          clear K6 R6 B6 bk L6
          obtain ⟨wb, hwb⟩ : ∃ wb, wb = wr := ⟨_, rfl⟩
          subst hwb
          have o7 : OwnB (w.heap.size + 1 + 1) wb a (16 + 0) c (headN r ++ List.replicate 0 106) := by
            rw [List.take_of_length_le (by rw [head_len]; omega)] at ok
            simpa using ok
          have sb : w.heap.size + 1 + 1 ≤ wb.heap.size := Lk
          go_wp2
          go_loopw [3] (fun v wr => ∃ (k : Nat) (a : Option Addr) (c : Nat), k ≤ 30 ∧ v = .slice a (16 + k) c ∧ OwnB (w.heap.size + 1 + 1) wr a (16 + k) c (headN r ++ List.replicate k 106) ∧ Below (w.heap.size + 1 + 1) wb wr) (fun v _ => 46 - slen v)
          case atStart => exact ⟨0, _, _, by omega, rfl, o7, Below.refl _ _⟩
          case round =>
            obtain ⟨k, a, c, hk, rfl, ok, bk⟩ := hrel
            clear o7
            by_cases hlt : k < 30
            · obtain ⟨w7, hW7⟩ : ∃ w7, wr.alloc (.cells #[.int .u8 106] 5) = w7 := ⟨_, rfl⟩
              have J7 : IsB (wr.heap.size + 1) w7 (some ⟨wr.heap.size, 0, none⟩) 1 [106] := by rw [← hW7]; exact isB_new wr [106] 5 (0, 0)
              have s7 : Below wr.heap.size wr w7 := by rw [← hW7]; exact (Below.refl _ wr).alloc (Nat.le_refl _) _
              have z7 : w7.heap.size = wr.heap.size + 1 := by rw [← hW7]; simp
              have sz : w.heap.size + 1 + 1 ≤ wr.heap.size := by have := bk.size; omega
              obtain ⟨a8, c8, w8, hap8, o8, b8⟩ := run_app w7 (w.heap.size + 1 + 1) 32 _ _ _ _ (ok.below s7 (Nat.le_refl _)) (some ⟨wr.heap.size, 0, none⟩) 1 1 _ J7 (by intro h; cases h) (by omega) (by omega)
              rw [List.append_assoc, ← List.replicate_succ'] at o8
              have HO : Hid (OwnB (w.heap.size + 1 + 1) w8 a8 (16 + (k + 1)) c8 (headN r ++ List.replicate (k + 1) 106)) := o8
              have B8 : Hid (Below (w.heap.size + 1 + 1) wb w8) := bk.trans ((s7.mono sz).trans b8)
              clear J7 s7 z7 o8 b8 ok bk
              go_wp2_with (at_builtin; refine wpList_app hap8 _ _ rfl rfl rfl rfl rfl ?_)
              go_roundw
              case rel => exact ⟨_, _, _, _, _, _, _, ⟨k + 1, a8, c8, by omega, rfl, HO.out, B8.out⟩, rfl⟩
              case measure => simp [slen]; omega
            · obtain rfl : k = 30 := by omega
              have R7 := Rk.below bk (by omega)
              have B7 : Below w.heap.size w wr := Bk.trans (bk.mono (by omega))
              have L7 : w.heap.size + 1 + 1 ≤ wr.heap.size := Nat.le_trans Lk bk.size
              clear Rk Bk bk Lk sb
              obtain ⟨wc, hwc⟩ : ∃ wc, wc = wr := ⟨_, rfl⟩
              subst hwc
              have P8 := bk_new wc (payV (zer 48)) 26
              have s8 : Below wc.heap.size wc (wc.alloc (.cells (payV (zer 48)) 26)) := (Below.refl _ wc).alloc (Nat.le_refl _) _
              obtain ⟨w9, hcp9, P9, b9, but9, z9⟩ := run_cp (wc.alloc (.cells (payV (zer 48)) 26)) 3 wc.heap.size 0 48 48 _ _ P8 a 46 c _ (ok.isB.1.below s8 (Nat.le_refl _)) (by decide) (by decide) (by decide)
              have e9 : laidIn (payV (zer 48)) 0 ((headN r ++ List.replicate 30 106).take 48) = payV (layN r) := by
                rw [List.take_of_length_le (by simp [head_len]), layN, bodyN]
                rfl
              rw [e9] at P9
              have R9 := (R7.below s8 R7.lt).below (b9 _ (Nat.le_refl _)) R7.lt
              have B9 : Below w.heap.size w w9 := B7.trans ((s8.mono B7.size).trans (b9 _ B7.size))
              have HL : Hid ((layN r).length = 48) := lay_len r
              have HM : Hid ((payN r).length = 48) := pay_len r
              have H48 : Hid ((zer 48).length = 48) := by simp [Hid, zer]
              clear ok R7 P8 s8 b9 but9 e9 B7
              go_wp2_with (first | (with_reducible show wpList _ _ _ (Oper.mk _ (Op.alloc 26) _ _ _ _ :: _) _ _; refine wpList_al rfl rfl zero24 ?_; (try simp only [Act.put, List.setIfInBounds_toArray, List.set_cons_zero, List.set_cons_succ, World.size_alloc])) | (with_reducible show wpList _ _ _ (Oper.mk _ (Op.load 26 _) _ _ _ _ :: _) _ _; refine wpList_ld rfl rfl rfl (run_ld24 _ _ _ _ (by assumption) (by first | exact HL.out | exact HM.out)) ?_; (try simp only [Act.put, List.setIfInBounds_toArray, List.set_cons_zero, List.set_cons_succ, World.size_alloc])) | (at_builtin; refine wpList_cp hcp9 _ _ rfl rfl rfl rfl rfl ?_))
              refine (cseal_calls _ HL.out _).mono ?_
              rintro e wd ⟨rfl, bd⟩
              have Rd := R9.below bd R9.lt
              have Bd : Below w.heap.size w wd := B9.trans (bd.mono B9.size)
              rw [show sealN (layN r) = payN r from rfl]
              clear R9 B9 bd P9 hcp9 z9
              go_wp2_with ((with_reducible show wpList _ _ _ (Oper.mk _ (Op.store 26 _ _) _ _ _ _ :: _) _ _; refine wpList_st rfl rfl rfl rfl (by assumption) (by rw [size24, payV_size]; simp only [Option.some.injEq]; first | (have := HL.out; omega) | (have := HM.out; omega)) (by rw [payV_size, payV_size]; simp only [zer, List.length_replicate]; first | (have := HL.out; omega) | (have := HM.out; omega)) (payV_one _) ?_); intro we Ke be bute ze)
              refine bodyPost_ret (v := .agg (payV (payN r))) (results_cell_row Try.results25 _ _ _ _ _ _ _ rfl Ke Try.underlying26 rfl (by rw [size24, payV_size, HM.out])) rfl ⟨rfl, ?_⟩
              exact Bd.trans (be _ (Nat.le_succ _))
end Go.Proofs.Ytfkikbnokjbnhaa
