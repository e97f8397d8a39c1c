/- Proved here: the walk of HecSeals. Conditions: as each theorem states them. -/
import Derived.Test.YtcehhldeocpanaaAwake
import Derived.Test.YtcehhldeocpanaaArrs
import Derived.Test.YtcehhldeocpanaaLists
namespace Go.Proofs.Ytcehhldeocpanaa
open Go.RowKit

theorem IsA.five {n : Nat} {W : World} {a : Option Addr} {len : Nat} {L : List (List UInt8)} (h : IsA 5 n W a len L) {i : Nat} (hi : i < len) :
    ∃ b off x0 x1 x2 x3 x4, a = some ⟨b, off, none⟩ ∧ b < n ∧ L[i]? = some [x0, x1, x2, x3, x4] ∧ W.cell? ⟨b, off + i * 5, none⟩ = some (.int .u8 (x0.toNat : Int)) ∧ W.cell? ⟨b, off + i * 5 + 1, none⟩ = some (.int .u8 (x1.toNat : Int)) ∧
      W.cell? ⟨b, off + i * 5 + 2, none⟩ = some (.int .u8 (x2.toNat : Int)) ∧ W.cell? ⟨b, off + i * 5 + 3, none⟩ = some (.int .u8 (x3.toNat : Int)) ∧ W.cell? ⟨b, off + i * 5 + 4, none⟩ = some (.int .u8 (x4.toNat : Int)) := by
  have e := h.1
  obtain ⟨x, hx⟩ : ∃ x, L[i]? = some x := ⟨L[i]'(by omega), by rw [List.getElem?_eq_getElem]⟩
  obtain ⟨b, off, ha, hb, hl, hc⟩ := h.cell hx
  obtain ⟨x0, x1, x2, x3, x4, rfl⟩ := list5 hl
  exact ⟨b, off, x0, x1, x2, x3, x4, ha, hb, hx, hc 0 x0 rfl, hc 1 x1 rfl, hc 2 x2 rfl, hc 3 x3 rfl, hc 4 x4 rfl⟩

theorem res_sum (c : Bool) (xs : List UInt8) : (res c xs).rep + (res c xs).drop ≤ 1 := by
  unfold res
  split
  · exact Nat.zero_le 1
  · split
    · exact Nat.le_refl 1
    · split <;> exact Nat.le_refl 1

set_option maxHeartbeats 2000000 in
theorem seals_walk (a : Option Addr) (len cap : Nat) (L : List (List UInt8)) (x0 x1 x2 x3 : UInt8) (w : World) (hL : IsA 5 w.heap.size w a len L) (hcap : len ≤ cap) :
    Calls Try.prog 4 #[.slice a len cap, .agg #[.int .u8 (x0.toNat : Int), .int .u8 (x1.toNat : Int), .int .u8 (x2.toNat : Int), .int .u8 (x3.toNat : Int)]] w fun e w' => e = .returned (.bool true) ∧ Below w.heap.size w w' := by
  have A0 := bk_new w (vals [x0, x1, x2, x3]).toArray 32
  have B0 : Below w.heap.size w (w.alloc (.cells (vals [x0, x1, x2, x3]).toArray 32)) := (Below.refl _ w).alloc (Nat.le_refl _) _
  have s0 : (w.alloc (.cells (vals [x0, x1, x2, x3]).toArray 32)).heap.size = w.heap.size + 1 := by simp
  by_cases hl1 : 100 < len
  · have q1 : decide (100 < (len : Int)) = true := by simp; omega
    clear hL A0
    go_enter Try.func4, Try.ntmps4
    go_wp2_with fail
    refine (awake_calls _).mono ?_
    rintro e w1 ⟨rfl, b1⟩
    have B1 : Below w.heap.size w w1 := B0.trans (b1.mono (by show w.heap.size ≤ (World.alloc _ _).heap.size; simp))
    clear B0 b1 s0
    go_wp2_with fail
    refine (awake_calls _).mono ?_
    rintro e w2 ⟨rfl, b2⟩
    go_wp2
    go_ret
    exact ⟨rfl, B1.trans (b2.mono B1.size)⟩
  have q1 : decide (100 < (len : Int)) = false := by simp; omega
  have hl : len ≤ 100 := by omega
  clear hl1
  go_enter Try.func4, Try.ntmps4
  go_wp2_with fail
  refine (awake_calls _).mono ?_
  rintro e w1 ⟨rfl, b1⟩
  have B1 : Below w.heap.size w w1 := B0.trans (b1.mono (by show w.heap.size ≤ (World.alloc _ _).heap.size; simp))
  have A1 := A0.below b1 A0.lt
  have z1 := A1.lt
  clear A0 B0 b1 s0
  go_wp2
  obtain ⟨W, hW⟩ : ∃ W, w1.alloc (.cells #[.int .i64 0, .int .i64 0, .bool false] 28) = W := ⟨_, rfl⟩
  have R0 := new_rc w1
  have AW := A1.alloc (.cells #[.int .i64 0, .int .i64 0, .bool false] 28)
  have BW : Below w.heap.size w (w1.alloc (.cells #[.int .i64 0, .int .i64 0, .bool false] 28)) := B1.alloc B1.size _
  rw [hW] at R0 AW BW ⊢
  clear hW B1 A1
  go_loopw [22] (fun i wr => ∃ (k p d : Nat) (c : Bool), k ≤ len ∧ i = .int .i64 k ∧ p + d ≤ k ∧ RC wr w1.heap.size p d c ∧ Below w1.heap.size W wr) (fun i _ => len - (intOf i).toNat)
  case atStart => exact ⟨0, 0, 0, false, Nat.zero_le _, rfl, Nat.le_refl _, R0, Below.refl _ _⟩
  case round =>
    obtain ⟨k, p, d, c, hk, rfl, hpd, R1, b1⟩ := hrel
    have B1 : Below w.heap.size w _ := BW.trans (b1.mono (by omega))
    by_cases hlt : k < len
    · obtain ⟨b, off, t0, t1, t2, t3, t4, rfl, hb, hx, c0, c1, c2, c3, c4⟩ := (hL.below B1 (Nat.le_refl _)).five hlt
      clear hx
      go_wp2_with fail
      refine (take_calls w1.heap.size p d c t0 t1 t2 t3 t4 _ R1 (by omega) (by omega)).mono ?_
      rintro e w2 ⟨y0, y1, y2, y3, ho, rfl, R2, b2⟩
      have hs := res_sum c [t0, t1, t2, t3, t4]
      have hr := R1.lt
      clear ho c0 c1 c2 c3 c4 R1
      generalize res c [t0, t1, t2, t3, t4] = q at *
      go_wp2
      go_roundw
      case rel => exact ⟨k + 1, _, _, _, by omega, by go_num, by omega, R2, b1.trans (b2.below (by omega) (Nat.le_refl _))⟩
      case measure => simp [intOf]; omega
    · obtain rfl : k = len := by omega
      have A1 := AW.below b1 z1
      have SC : Hid (synN [x0, x1, x2, x3, chk x0 x1 x2 x3] = 0) := syn_chk x0 x1 x2 x3
      have hr := R1.lt
      have eq0 := eql_self (x0.toNat : Int) (x1.toNat : Int) (x2.toNat : Int) (x3.toNat : Int)
      obtain ⟨⟨c0, c1, c2, c3⟩, _⟩ := BK.four A1
      clear hL R0 AW BW b1
      go_wp2_with fail
      refine (seal_calls x0 x1 x2 x3 _).mono ?_
      rintro e w2 ⟨rfl, b2⟩
      generalize chk x0 x1 x2 x3 = ck at *
      have A2 := A1.below b2 A1.lt
      have R2 := R1.below b2 hr
      have B2 : Below w.heap.size w w2 := B1.trans (b2.mono B1.size)
      clear A1 R1 B1 c0 c1 c2 c3
      have z2 : w1.heap.size < w2.heap.size := R2.lt
      have R2a : RC (w2.alloc (.cells (vals [x0, x1, x2, x3, ck]).toArray 35)) w1.heap.size p d c := BK.alloc R2 _
      have A2a := A2.alloc (.cells (vals [x0, x1, x2, x3, ck]).toArray 35)
      have S2a := bk_new w2 (vals [x0, x1, x2, x3, ck]).toArray 35
      have B2a : Below w.heap.size w (w2.alloc (.cells (vals [x0, x1, x2, x3, ck]).toArray 35)) := B2.alloc B2.size _
      have s2 : (w2.alloc (.cells (vals [x0, x1, x2, x3, ck]).toArray 35)).heap.size = w2.heap.size + 1 := by simp
      clear R2 A2 B2 b2
      go_wp2_with fail
      refine (take_right w1.heap.size p d c x0 x1 x2 x3 ck _ R2a SC.out).mono ?_
      rintro e w3 ⟨rfl, R3, b3⟩
      have A3 := A2a.but b3 A2a.lt (by omega)
      have S3 := S2a.but b3 S2a.lt (by omega)
      have B3 : Below w.heap.size w w3 := B2a.trans (b3.below (Nat.le_trans (by omega) (Nat.le_of_eq s2.symm)) (by omega))
      have z3 := S3.lt
      have zA := A3.lt
      clear R2a A2a S2a B2a s2 b3
      have R3a : RC (w3.alloc (.cells (vals [x0, x1, x2, x3]).toArray 32)) w1.heap.size p d false := BK.alloc R3 _
      have B3a : Below w.heap.size w (w3.alloc (.cells (vals [x0, x1, x2, x3]).toArray 32)) := B3.alloc B3.size _
      have S3a := BK.isB (S3.alloc (.cells (vals [x0, x1, x2, x3]).toArray 32))
      obtain ⟨⟨c0, c1, c2, c3⟩, _⟩ := BK.four A3
      clear R3 A3 S3 B3
      go_wp2_with fail
      refine (careful_calls w1.heap.size p d false _ R3a).mono ?_
      rintro e w4 ⟨rfl, rfl⟩
      go_wp2_with fail
      refine (syndrome_calls _ 5 5 [x0, x1, x2, x3, ck] (Nat.le_refl _) (by show 5 ≤ maxLen; decide) _ S3a (Nat.le_refl _)).mono ?_
      rintro e w4 ⟨rfl, b4⟩
      rw [SC.out]
      go_wp2
      go_ret
      exact ⟨rfl, B3a.trans (b4.mono B3a.size)⟩
end Go.Proofs.Ytcehhldeocpanaa
