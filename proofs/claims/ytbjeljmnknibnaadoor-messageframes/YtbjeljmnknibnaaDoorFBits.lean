/- Proved here: the iterator of package sums that tells the bits of bytes, each byte's highest one first. Conditions: as each theorem states them. -/
import Derived.RangeFuncNested
import Derived.RangeFuncBound
import Derived.RangeFuncCalls
import Derived.RangeFuncLeaves
import Derived.RangeFuncBox
import Derived.Shelf.Abstract
import Derived.Shelf.RegionOpen
import Derived.WalkKit
import Derived.OwnWalkIn
import Derived.TacticsInMore
import Derived.LoopNIn
import Derived.LoopIn
import Derived.Test.YtbjeljmnknibnaaDoorProg
namespace Go.Proofs.YtbjeljmnknibnaaDoor.F
open Go.RowKit Go.Shelf
attribute [local go_sem] Oper.semAt_some

/-- The first j bits of a byte, the highest first. -/
def bitsUpto (x : Nat) (j : Nat) : List Bool := (List.range j).map fun i => x.testBit (7 - i)
theorem bitsUpto_succ (x j : Nat) : bitsUpto x (j + 1) = bitsUpto x j ++ [x.testBit (7 - j)] := by simp [bitsUpto, List.range_succ]
/-- The bits of bytes. -/
def bitsOf (zs : List UInt8) : List Bool := zs.flatMap fun b => bitsUpto b.toNat 8
/-- A bit as a number. -/
def bv (b : Bool) : Int := if b then 1 else 0

theorem bitsUpto_length (x j : Nat) : (bitsUpto x j).length = j := by simp [bitsUpto]
theorem bitsOf_length (zs : List UInt8) : (bitsOf zs).length = 8 * zs.length := by
  induction zs with
  | nil => rfl
  | cons a l ih => simp only [bitsOf, List.flatMap_cons, List.length_append, List.length_cons, bitsUpto_length] at *; omega
theorem bitsOf_take_succ (zs : List UInt8) (k : Nat) (x : UInt8) (h : zs[k]? = some x) : bitsOf (zs.take (k + 1)) = bitsOf (zs.take k) ++ bitsUpto x.toNat 8 := by
  rw [List.take_add_one, h]; simp [bitsOf]

/-- What is left of a byte when j bits have gone. -/
def leftOf (x j : Nat) : Nat := x * 2 ^ j % 256
theorem leftOf_zero (x : Nat) (h : x < 256) : leftOf x 0 = x := by simp [leftOf]; omega
theorem leftOf_lt (x j : Nat) : leftOf x j < 256 := Nat.mod_lt _ (by decide)
theorem leftOf_succ (x j : Nat) : leftOf x (j + 1) = leftOf x j * 2 % 256 := by
  simp only [leftOf, Nat.pow_succ]; rw [Nat.mod_mul_mod]; rw [Nat.mul_assoc]
theorem leftOf_bit (x j : Nat) (hx : x < 256) (hj : j < 8) : ((leftOf x j / 128 : Nat) : Int) = bv (x.testBit (7 - j)) := by
  have e : leftOf x j / 128 = x / 2 ^ (7 - j) % 2 := by
    simp only [leftOf]
    have : j = 0 ∨ j = 1 ∨ j = 2 ∨ j = 3 ∨ j = 4 ∨ j = 5 ∨ j = 6 ∨ j = 7 := by omega
    rcases this with rfl | rfl | rfl | rfl | rfl | rfl | rfl | rfl <;> simp <;> omega
  rw [e, Nat.testBit_eq_decide_div_mod_eq, bv]
  rcases Nat.mod_two_eq_zero_or_one (x / 2 ^ (7 - j)) with h | h <;> simp [h]

/-- A slice value holds the bytes zs; its cells lie below n. -/
def IsB (n : Nat) (W : World) (a : Option Addr) (len : Nat) (zs : List UInt8) : Prop :=
  len = zs.length ∧ (zs = [] ∨ ∃ b off, a = some ⟨b, off, none⟩ ∧ b < n ∧ ∀ j x, zs[j]? = some x → W.cell? ⟨b, off + j, none⟩ = some (.int .u8 (x.toNat : Int)))

theorem IsB.below {n m : Nat} {A B : World} (h : Below m A B) (hm : n ≤ m) {a : Option Addr} {len : Nat} {zs : List UInt8} : IsB n A a len zs → IsB n B a len zs
  | ⟨e, .inl z⟩ => ⟨e, .inl z⟩
  | ⟨e, .inr ⟨b, off, ea, hb, hc⟩⟩ => ⟨e, .inr ⟨b, off, ea, hb, fun j x hx => (h.cell (p := ⟨b, off + j, none⟩) (by show b < m; omega)).trans (hc j x hx)⟩⟩

set_option maxRecDepth 100000 in
set_option maxHeartbeats 2000000 in
theorem bits1_in (F : Fence) (n : Nat) (h7 : F.fn 72) (hro : F.round = none) (hn : 1 ≤ n) (l Bs n₀ b off cap : Nat) (zs : List UInt8) (hreach : zs.length ≤ maxLen) (hb : b < n₀) (J Jx : List Bool → World → Prop)
    (hY : ∀ pre x W, J pre W → pre.length < 8 * zs.length → YieldAt F (n - 1) Tryd.prog l #[.int .u32 (bv x)] W fun e W' =>
      (e = .returned (.bool true) ∧ J (pre ++ [x]) W' ∧ Below n₀ W W') ∨ (e = .returned (.bool false) ∧ Jx (pre ++ [x]) W'))
    (W : World) (hBs : W.cell? ⟨Bs, 0, none⟩ = some (.slice (some ⟨b, off, none⟩) zs.length cap)) (hc : ∀ j x, zs[j]? = some x → W.cell? ⟨b, off + j, none⟩ = some (.int .u8 (x.toNat : Int))) (h0 : J [] W) :
    CallsIn F n Tryd.prog 72 #[.func (.yield l) #[] #[], .pointer (some ⟨Bs, 0, none⟩)] W fun e W' => (∃ v, e = .returned v) ∧
      ((∃ ys, ys = bitsOf zs ∧ J ys W') ∨ (∃ pre, True ∧ Jx pre W')) := by
  unfold maxLen at hreach
  refine callsIn_of_wp Tryd.func72 rfl h7 ?_ hro
  simp only [Tryd.ntmps72, List.size_toArray, List.length_cons, List.length_nil, Nat.reduceAdd, Nat.reduceSub, Array.replicate_succ, Array.replicate_zero, List.push_toArray, List.append_toArray, List.nil_append, List.cons_append]
  gi_wp2
  gi_loopw [7] (fun i wr => ∃ k : Nat, k ≤ zs.length ∧ i = .int .i64 k ∧ J (bitsOf (zs.take k)) wr ∧ Below n₀ W wr)
    (fun i _ => zs.length - (intOf i).toNat)
  case atStart => exact ⟨0, Nat.zero_le _, rfl, h0, Below.refl _ _⟩
  case round =>
    obtain ⟨k, hk, rfl, hJs, hnx⟩ := hrel
    by_cases hlt : k < zs.length
    · obtain ⟨x, hx⟩ : ∃ x, zs[k]? = some x := ⟨zs[k], by rw [List.getElem?_eq_getElem]⟩
      have hcx : wr.cell? ⟨b, off + k, none⟩ = some (.int .u8 (x.toNat : Int)) := (hnx.cell (p := ⟨b, off + k, none⟩) hb).trans (hc k x hx)
      have hsucc := bitsOf_take_succ zs k x hx
      have hpl := bitsOf_length (zs.take k)
      rw [List.length_take] at hpl
      obtain ⟨m, hm⟩ : ∃ m, x.toNat = m := ⟨_, rfl⟩
      have hm256 : m < 256 := by rw [← hm]; exact x.toNat_lt
      rw [hm] at hcx hsucc
      have HS : Hid (bitsOf (zs.take (k + 1)) = bitsOf (zs.take k) ++ bitsUpto m 8) := hsucc
      clear hsucc hm hx
      gi_wp2
      gi_loopw [4, 11] (fun xv jv wr2 => ∃ j : Nat, j ≤ 8 ∧ jv = .int .i64 j ∧ xv = .int .u8 (leftOf m j : Nat) ∧ J (bitsOf (zs.take k) ++ bitsUpto m j) wr2 ∧ Below n₀ W wr2)
        (fun _ jv _ => 8 - (intOf jv).toNat)
      case atStart => exact ⟨0, by omega, rfl, by rw [leftOf_zero m hm256], by simpa [bitsUpto] using hJs, hnx⟩
      case round =>
        obtain ⟨j, hj, rfl, rfl, hJ2, hnx2⟩ := hrel
        have hl256 := leftOf_lt m j
        by_cases hj8 : j < 8
        · have hbit := leftOf_bit m j hm256 hj8
          have hls := leftOf_succ m j
          have hus := bitsUpto_succ m j
          generalize leftOf m j = y at *
          obtain ⟨fn, tmps, assign, body, hy, hR⟩ := hY _ (m.testBit (7 - j)) wr hJ2 (by rw [List.length_append, bitsUpto_length]; omega)
          have hyb : (y : Int) / 128 = bv (m.testBit (7 - j)) := by omega
          clear hbit
          have HL : Hid (leftOf m (j + 1) = y * 2 % 256) := hls
          have HU : Hid (bitsUpto m (j + 1) = bitsUpto m j ++ [m.testBit (7 - j)]) := hus
          clear hls hus
          gi_wp2
          refine hR.mono ?_
          rintro e W3 (⟨rfl, hJ3, hk3⟩ | ⟨rfl, hJx3⟩)
          · gi_wp2
            go_roundw
            case rel => exact ⟨j + 1, by omega, by go_num, by rw [HL.out]; go_num, by rw [HU.out, ← List.append_assoc]; exact hJ3, hnx2.trans hk3⟩
            case measure => simp [intOf]; omega
          · gi_wp2
            refine bodyPost_ret (results_none rfl _ _ _) rfl ?_
            exact ⟨⟨_, rfl⟩, .inr ⟨_, trivial, hJx3⟩⟩
        · obtain rfl : j = 8 := by omega
          gi_wp2
          go_roundw
          case rel => exact ⟨k + 1, by omega, by go_num, by rw [HS.out]; exact hJ2, hnx2⟩
          case measure => simp [intOf]; omega
    · obtain rfl : k = zs.length := by omega
      gi_wp2
      go_end0
      exact ⟨⟨_, rfl⟩, .inl ⟨_, by rw [List.take_length], hJs⟩⟩

set_option maxRecDepth 100000 in
set_option maxHeartbeats 1000000 in
theorem bits1_nil_in (F : Fence) (n : Nat) (h7 : F.fn 72) (hro : F.round = none) (l Bs : Nat) (a : Option Addr) (cap : Nat) (J : List Bool → World → Prop) (W : World) (hBs : W.cell? ⟨Bs, 0, none⟩ = some (.slice a 0 cap)) (h0 : J [] W) :
    CallsIn F n Tryd.prog 72 #[.func (.yield l) #[] #[], .pointer (some ⟨Bs, 0, none⟩)] W fun e W' => (∃ v, e = .returned v) ∧ J [] W' := by
  refine callsIn_of_wp Tryd.func72 rfl h7 ?_ hro
  simp only [Tryd.ntmps72, List.size_toArray, List.length_cons, List.length_nil, Nat.reduceAdd, Nat.reduceSub, Array.replicate_succ, Array.replicate_zero, List.push_toArray, List.append_toArray, List.nil_append, List.cons_append]
  gi_wp2
  gi_loopw [7] (fun i wr => i = .int .i64 0 ∧ J [] wr) (fun _ _ => 0)
  case atStart => exact ⟨rfl, h0⟩
  case round =>
    obtain ⟨rfl, hJs⟩ := hrel
    gi_wp2
    go_end0
    exact ⟨⟨_, rfl⟩, hJs⟩

theorem bits_stops (F : Fence) (n : Nat) (h7 : F.fn 72) (hro : F.round = none) (hn : 1 ≤ n) (Bs n₀ : Nat) (a : Option Addr) (len cap : Nat) (zs : List UInt8) (hreach : zs.length ≤ maxLen) (w : World) (hBs : Bs < w.heap.size) (hn₀ : n₀ ≤ w.heap.size)
    (hc : w.cell? ⟨Bs, 0, none⟩ = some (.slice a len cap)) (hI : IsB n₀ w a len zs) :
    SeqStopsK F n Tryd.prog 72 #[.pointer (some ⟨Bs, 0, none⟩)] (fun x : Bool => #[Value.int .u32 (bv x)]) (Below n₀) (fun ys => ys = bitsOf zs) (fun _ => True) (8 * zs.length) w := fun l J Jx W hW _ _ hY h0 => by
  have hc' := (hW.cell (p := ⟨Bs, 0, none⟩) hBs).trans hc
  obtain ⟨rfl, rfl | ⟨b, off, rfl, hb, hcs⟩⟩ := hI.below hW hn₀
  · exact (bits1_nil_in F n h7 hro l Bs a cap J W hc' h0).mono fun e W' ⟨he, hj⟩ => ⟨he, .inl ⟨_, rfl, hj⟩⟩
  · exact bits1_in F n h7 hro hn l Bs n₀ b off cap zs hreach hb J Jx hY W hc' hcs h0

set_option maxHeartbeats 1000000 in
theorem bits_in (F : Fence) (n : Nat) (h5 : F.fn 71) (hro : F.round = none) (a : Option Addr) (len cap : Nat) (w : World) :
    CallsIn F n Tryd.prog 71 #[.slice a len cap] w fun e w' => e = .returned (.func (.func 72) #[] #[.pointer (some ⟨w.heap.size, 0, none⟩)]) ∧ w' = w.alloc (.cells #[.slice a len cap] 25) := by
  refine callsIn_of_wp Tryd.func71 rfl h5 ?_ hro
  simp only [Tryd.ntmps71, List.size_toArray, List.length_cons, List.length_nil, Nat.reduceAdd, Nat.reduceSub, Array.replicate_succ, Array.replicate_zero, List.push_toArray, List.append_toArray, List.nil_append, List.cons_append]
  gi_wp2
  go_ret
  exact ⟨rfl, rfl⟩

end Go.Proofs.YtbjeljmnknibnaaDoor.F
