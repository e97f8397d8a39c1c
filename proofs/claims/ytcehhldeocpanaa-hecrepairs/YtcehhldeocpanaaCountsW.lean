/- Proved here: the walk of HecCounts. Conditions: as each theorem states them. -/
import Derived.Test.YtcehhldeocpanaaSealsW
namespace Go.Proofs.Ytcehhldeocpanaa
open Go.RowKit

theorem ret_bool {a b : Bool} (h : a = b) : Ending.returned (.bool a) = .returned (.bool b) := by rw [h]

theorem res_cases (c : Bool) (xs : List UInt8) : (synN xs = 0 ∧ res c xs = .right) ∨ (synN xs ≠ 0 ∧ c = false ∧ ∃ k, bitN (synN xs) = some k ∧ res c xs = .fixed k) ∨ (synN xs ≠ 0 ∧ (c = true ∨ bitN (synN xs) = none) ∧ res c xs = .gone) := by
  unfold res
  by_cases hs : synN xs = 0
  · left; exact ⟨hs, if_pos hs⟩
  · right
    rw [if_neg hs]
    cases c with
    | true => right; exact ⟨hs, .inl rfl, rfl⟩
    | false =>
      cases hb : bitN (synN xs) with
      | none => right; exact ⟨hs, .inr rfl, rfl⟩
      | some k => left; exact ⟨hs, rfl, k, rfl, rfl⟩

theorem IsA.isB {n : Nat} {W : World} {a : Option Addr} {len : Nat} {L : List (List UInt8)} (h : IsA 5 n W a len L) {i : Nat} {x0 x1 x2 x3 x4 : UInt8} {b off : Nat} (ha : a = some ⟨b, off, none⟩) (hx : L[i]? = some [x0, x1, x2, x3, x4]) :
    IsB n W (some ⟨b, off + i * 5, none⟩) 5 [x0, x1, x2, x3, x4] := by
  obtain ⟨b', off', e, hb, _, hc⟩ := h.cell hx
  rw [ha] at e
  cases e
  exact ⟨rfl, .inr ⟨b, off + i * 5, rfl, hb, fun j y hy => hc j y hy⟩⟩

set_option maxHeartbeats 2000000 in
theorem counts_walk (a : Option Addr) (len cap : Nat) (L : List (List UInt8)) (w : World) (hL : IsA 5 w.heap.size w a len L) (hcap : len ≤ cap) :
    Calls Try.prog 6 #[.slice a len cap] w fun e w' => e = .returned (.bool true) ∧ Below w.heap.size w w' := by
  by_cases hl1 : 100 < len
  · have q1 : decide (100 < (len : Int)) = true := by simp; omega
    clear hL
    go_enter Try.func6, Try.ntmps6
    go_wp2_with fail
    refine (awake_calls _).mono ?_
    rintro e w1 ⟨rfl, b1⟩
    go_wp2_with fail
    refine (awake_calls _).mono ?_
    rintro e w2 ⟨rfl, b2⟩
    go_wp2
    go_ret
    exact ⟨rfl, b1.trans (b2.mono b1.size)⟩
  have q1 : decide (100 < (len : Int)) = false := by simp; omega
  have hl : len ≤ 100 := by omega
  clear hl1
  go_enter Try.func6, Try.ntmps6
  go_wp2_with fail
  refine (awake_calls _).mono ?_
  rintro e w1 ⟨rfl, B1⟩
  have z1 := B1.size
  go_wp2
  obtain ⟨W, hW⟩ : ∃ W, w1.alloc (.cells #[.int .i64 0, .int .i64 0, .bool false] 28) = W := ⟨_, rfl⟩
  have R0 := new_rc w1
  have BW : Below w.heap.size w (w1.alloc (.cells #[.int .i64 0, .int .i64 0, .bool false] 28)) := B1.alloc B1.size _
  rw [hW] at R0 BW ⊢
  clear hW B1
  go_loopw [4, 22] (fun rv i wr => ∃ (k p d t : Nat) (c : Bool), k ≤ len ∧ i = .int .i64 k ∧ rv = .int .i64 t ∧ t + p + d = k ∧ RC wr w1.heap.size p d c ∧ Below w1.heap.size W wr) (fun _ i _ => len - (intOf i).toNat)
  case atStart => exact ⟨0, 0, 0, 0, false, Nat.zero_le _, rfl, rfl, rfl, R0, Below.refl _ _⟩
  case round =>
    obtain ⟨k, p, d, t, c, hk, rfl, rfl, hpd, R1, b1⟩ := hrel
    have B1 : Below w.heap.size w _ := BW.trans (b1.mono (by omega))
    clear R0 BW
    by_cases hlt : k < len
    · have J1 := hL.below B1 (Nat.le_refl _)
      obtain ⟨b, off, t0, t1, t2, t3, t4, rfl, hb, hx, c0, c1, c2, c3, c4⟩ := J1.five hlt
      have I1 := J1.isB rfl hx
      clear hx J1
      go_wp2_with fail
      refine (careful_calls w1.heap.size p d c _ R1).mono ?_
      rintro e w2 ⟨rfl, rfl⟩
      go_wp2_with fail
      refine (repaired_calls w1.heap.size p d c _ R1).mono ?_
      rintro e w2 ⟨rfl, rfl⟩
      go_wp2_with fail
      refine (take_calls w1.heap.size p d c t0 t1 t2 t3 t4 _ R1 (by omega) (by omega)).mono ?_
      rintro e w2 ⟨y0, y1, y2, y3, ho, rfl, R2, b2⟩
      have hr := R1.lt
      have b12 : Below w1.heap.size W w2 := b1.trans (b2.below (by omega) (Nat.le_refl _))
      have I2 := I1.below (b2.below (Nat.le_of_lt hr) (Nat.le_refl _)) (by omega)
      have I3 := I2.below ((Below.refl _ w2).alloc (Nat.le_refl _) (.cells (vals [y0, y1, y2, y3]).toArray 32)) (by have := R2.lt; omega)
      have R3 := BK.alloc R2 (.cells (vals [y0, y1, y2, y3]).toArray 32)
      have b13 : Below w1.heap.size W (w2.alloc (.cells (vals [y0, y1, y2, y3]).toArray 32)) := b12.alloc (Nat.le_of_lt R2.lt) _
      have z3 : w.heap.size ≤ (w2.alloc (.cells (vals [y0, y1, y2, y3]).toArray 32)).heap.size := by have := R2.lt; simp; omega
      have C := res_cases c [t0, t1, t2, t3, t4]
      clear ho c0 c1 c2 c3 c4 R1 R2 b2 I1 I2 b12 hL b1 B1
      generalize res c [t0, t1, t2, t3, t4] = q at *
      go_wp2_with fail
      refine (syndrome_calls _ 5 5 [t0, t1, t2, t3, t4] (Nat.le_refl _) (by show 5 ≤ maxLen; decide) _ I3 z3).mono ?_
      rintro e w4 ⟨rfl, b4⟩
      have I4 := I3.below b4 z3
      have R4 := R3.below b4 (BK.lt R3)
      have b14 := b13.trans (b4.mono (Nat.le_of_lt (BK.lt R3)))
      have z4 := Nat.le_trans z3 b4.size
      clear I3 R3 b4 b13 z3
      obtain ⟨sn, hsn⟩ : ∃ sn, synN [t0, t1, t2, t3, t4] = sn := ⟨_, rfl⟩
      have SN : Hid (synN [t0, t1, t2, t3, t4] = sn) := hsn
      rw [hsn] at C ⊢
      clear hsn
      rcases C with ⟨hs, rfl⟩ | ⟨hs, rfl, k2, _, rfl⟩ | ⟨hs, _, rfl⟩
      · subst hs
        simp only [Res.right, Nat.add_zero] at R4 ⊢
        cases c with
        | true =>
          go_wp2_with fail
          refine (repaired_calls w1.heap.size p d false _ R4).mono ?_
          rintro e w5 ⟨rfl, rfl⟩
          go_wp2_with fail
          refine (syndrome_calls _ 5 5 [t0, t1, t2, t3, t4] (Nat.le_refl _) (by show 5 ≤ maxLen; decide) _ I4 z4).mono ?_
          rintro e w5 ⟨rfl, b5⟩
          rw [SN.out]
          have R5 := R4.below b5 (BK.lt R4)
          have b15 := b14.trans (b5.mono (Nat.le_of_lt (BK.lt R4)))
          clear R4 b14 I4 b5
          go_wp2
          go_roundw
          case rel => exact ⟨k + 1, p, d, t + 1, false, by omega, by go_num, by go_num, by omega, R5, b15⟩
          case measure => simp [intOf]; omega
        | false =>
          go_wp2_with fail
          refine (syndrome_calls _ 5 5 [t0, t1, t2, t3, t4] (Nat.le_refl _) (by show 5 ≤ maxLen; decide) _ I4 z4).mono ?_
          rintro e w5 ⟨rfl, b5⟩
          rw [SN.out]
          have R5 := R4.below b5 (BK.lt R4)
          have b15 := b14.trans (b5.mono (Nat.le_of_lt (BK.lt R4)))
          clear R4 b14 I4 b5
          go_wp2
          go_roundw
          case rel => exact ⟨k + 1, p, d, t + 1, false, by omega, by go_num, by go_num, by omega, R5, b15⟩
          case measure => simp [intOf]; omega
      · have h0 : ((sn : Int) == 0) = false := beq_eq_false_iff_ne.2 (by omega)
        simp only [Res.fixed, Nat.add_zero] at R4 ⊢
        obtain ⟨p1, hp1⟩ : ∃ p1, p + 1 = p1 := ⟨_, rfl⟩
        rw [hp1] at R4
        have HP : Hid (p + 1 = p1) := hp1
        have h1 : (p : Int) < (p1 : Int) := by omega
        clear hs hp1
        go_wp2_with fail
        refine (syndrome_calls _ 5 5 [t0, t1, t2, t3, t4] (Nat.le_refl _) (by show 5 ≤ maxLen; decide) _ I4 z4).mono ?_
        rintro e w5 ⟨rfl, b5⟩
        rw [SN.out]
        have R5 := R4.below b5 (BK.lt R4)
        have b15 := b14.trans (b5.mono (Nat.le_of_lt (BK.lt R4)))
        clear R4 b14 I4 b5
        go_wp2_with fail
        refine (repaired_calls w1.heap.size p1 d true _ R5).mono ?_
        rintro e w6 ⟨rfl, rfl⟩
        go_wp2
        go_roundw
        case rel => exact ⟨k + 1, p1, d, t, true, by omega, by go_num, rfl, by have := HP.out; omega, R5, b15⟩
        case measure => simp [intOf]; omega
      · have h0 : ((sn : Int) == 0) = false := beq_eq_false_iff_ne.2 (by omega)
        simp only [Res.gone, Nat.add_zero] at R4 ⊢
        clear hs
        cases c with
        | true =>
          go_wp2_with fail
          refine (repaired_calls w1.heap.size p (d + 1) true _ R4).mono ?_
          rintro e w5 ⟨rfl, rfl⟩
          go_wp2_with fail
          refine (syndrome_calls _ 5 5 [t0, t1, t2, t3, t4] (Nat.le_refl _) (by show 5 ≤ maxLen; decide) _ I4 z4).mono ?_
          rintro e w5 ⟨rfl, b5⟩
          rw [SN.out]
          have R5 := R4.below b5 (BK.lt R4)
          have b15 := b14.trans (b5.mono (Nat.le_of_lt (BK.lt R4)))
          clear R4 b14 I4 b5
          go_wp2_with fail
          refine (repaired_calls w1.heap.size p (d + 1) true _ R5).mono ?_
          rintro e w6 ⟨rfl, rfl⟩
          go_wp2
          go_roundw
          case rel => exact ⟨k + 1, p, d + 1, t, true, by omega, by go_num, rfl, by omega, R5, b15⟩
          case measure => simp [intOf]; omega
        | false =>
          go_wp2_with fail
          refine (syndrome_calls _ 5 5 [t0, t1, t2, t3, t4] (Nat.le_refl _) (by show 5 ≤ maxLen; decide) _ I4 z4).mono ?_
          rintro e w5 ⟨rfl, b5⟩
          rw [SN.out]
          have R5 := R4.below b5 (BK.lt R4)
          have b15 := b14.trans (b5.mono (Nat.le_of_lt (BK.lt R4)))
          clear R4 b14 I4 b5
          go_wp2_with fail
          refine (repaired_calls w1.heap.size p (d + 1) true _ R5).mono ?_
          rintro e w6 ⟨rfl, rfl⟩
          go_wp2
          go_roundw
          case rel => exact ⟨k + 1, p, d + 1, t, true, by omega, by go_num, rfl, by omega, R5, b15⟩
          case measure => simp [intOf]; omega
    · obtain rfl : k = len := by omega
      go_wp2_with fail
      refine (repaired_calls w1.heap.size p d c _ R1).mono ?_
      rintro e w2 ⟨rfl, rfl⟩
      go_wp2_with fail
      refine (dropped_calls w1.heap.size p d c _ R1).mono ?_
      rintro e w2 ⟨rfl, rfl⟩
      have e1 : ((t : Int) + (p : Int) + (d : Int) == (k : Int)) = true := by simp; omega
      clear hL hcap hlt hk b1 q1
      go_wp2
      go_ret
      exact ⟨ret_bool (by first | rfl | (simp; omega)), B1⟩
end Go.Proofs.Ytcehhldeocpanaa
