/- Proved here: the walk of HecApart. Conditions: as each theorem states them. -/
import Derived.Test.YtcehhldeocpanaaCountsW
namespace Go.Proofs.Ytcehhldeocpanaa
open Go.RowKit

theorem IsA.four {n : Nat} {W : World} {a : Option Addr} {len : Nat} {L : List (List UInt8)} (h : IsA 4 n W a len L) {i : Nat} (hi : i < len) :
    ∃ b off x0 x1 x2 x3, a = some ⟨b, off, none⟩ ∧ b < n ∧ L[i]? = some [x0, x1, x2, x3] ∧ W.cell? ⟨b, off + i * 4, none⟩ = some (.int .u8 (x0.toNat : Int)) ∧ W.cell? ⟨b, off + i * 4 + 1, none⟩ = some (.int .u8 (x1.toNat : Int)) ∧
      W.cell? ⟨b, off + i * 4 + 2, none⟩ = some (.int .u8 (x2.toNat : Int)) ∧ W.cell? ⟨b, off + i * 4 + 3, none⟩ = some (.int .u8 (x3.toNat : Int)) := by
  have e := h.1
  obtain ⟨x, hx⟩ : ∃ x, L[i]? = some x := ⟨L[i]'(by omega), by rw [List.getElem?_eq_getElem]⟩
  obtain ⟨b, off, ha, hb, hl, hc⟩ := h.cell hx
  obtain ⟨x0, x1, x2, x3, rfl⟩ := list4 hl
  exact ⟨b, off, x0, x1, x2, x3, ha, hb, hx, hc 0 x0 rfl, hc 1 x1 rfl, hc 2 x2 rfl, hc 3 x3 rfl⟩

theorem BK.drewN {b : Nat} {w : World} {vs : Array Value} {t : TypeId} (h : BK w b vs t) (n : Nat) : BK (w.drewN n) b vs t := h
theorem apart_drewN {B : Nat} {a w : World} (h : Below B a w) (n : Nat) : Below B a (w.drewN n) := ⟨h.os, h.tape, h.output, h.size, h.block⟩

set_option maxHeartbeats 4000000 in
set_option maxRecDepth 20000 in
theorem apart_walk (a1 a2 a3 : Option Addr) (len1 cap1 len2 cap2 len3 cap3 : Nat) (L1 L2 L3 : List (List UInt8)) (w : World) (h1 : IsA 5 w.heap.size w a1 len1 L1) (h2 : IsA 5 w.heap.size w a2 len2 L2) (h3 : IsA 4 w.heap.size w a3 len3 L3) :
    Calls Try.prog 8 #[.slice a1 len1 cap1, .slice a2 len2 cap2, .slice a3 len3 cap3] w fun e w' => e = .returned (.bool true) ∧ Below w.heap.size w w' := by
  by_cases hl1 : 100 < len1
  · have q1 : decide (100 < (len1 : Int)) = true := by simp; omega
    clear h1 h2 h3
    go_enter Try.func8, Try.ntmps8
    go_wp2_with fail
    refine (awake_calls _).mono ?_
    rintro e w1 ⟨rfl, b1⟩
    go_wp2_with fail
    refine (awake_calls _).mono ?_
    rintro e w2 ⟨rfl, b2⟩
    go_wp2
    go_ret
    exact ⟨rfl, b1.trans (b2.mono b1.size)⟩
  have q1 : decide (100 < (len1 : Int)) = false := by simp; omega
  by_cases hl2 : 100 < len2
  · have q2 : decide (100 < (len2 : Int)) = true := by simp; omega
    clear h1 h2 h3
    go_enter Try.func8, Try.ntmps8
    go_wp2_with fail
    refine (awake_calls _).mono ?_
    rintro e w1 ⟨rfl, b1⟩
    go_wp2_with fail
    refine (awake_calls _).mono ?_
    rintro e w2 ⟨rfl, b2⟩
    go_wp2
    go_ret
    exact ⟨rfl, b1.trans (b2.mono b1.size)⟩
  have q2 : decide (100 < (len2 : Int)) = false := by simp; omega
  by_cases hl3 : 100 < len3
  · have q3 : decide (100 < (len3 : Int)) = true := by simp; omega
    clear h1 h2 h3
    go_enter Try.func8, Try.ntmps8
    go_wp2_with fail
    refine (awake_calls _).mono ?_
    rintro e w1 ⟨rfl, b1⟩
    go_wp2_with fail
    refine (awake_calls _).mono ?_
    rintro e w2 ⟨rfl, b2⟩
    go_wp2
    go_ret
    exact ⟨rfl, b1.trans (b2.mono b1.size)⟩
  have q3 : decide (100 < (len3 : Int)) = false := by simp; omega
  by_cases hz : len3 = 0
  · subst hz
    clear h1 h2 h3
    go_enter Try.func8, Try.ntmps8
    go_wp2_with fail
    refine (awake_calls _).mono ?_
    rintro e w1 ⟨rfl, b1⟩
    go_wp2_with fail
    refine (awake_calls _).mono ?_
    rintro e w2 ⟨rfl, b2⟩
    go_wp2
    go_ret
    exact ⟨rfl, b1.trans (b2.mono b1.size)⟩
  have q4 : ((len3 : Int) == 0) = false := beq_eq_false_iff_ne.2 (by omega)
  have hl1' : len1 ≤ 100 := by omega
  have hl2' : len2 ≤ 100 := by omega
  have hl3' : len3 ≤ 100 := by omega
  clear hl1 hl2 hl3
  go_enter Try.func8, Try.ntmps8
  go_wp2_with fail
  refine (awake_calls _).mono ?_
  rintro e w1 ⟨rfl, B1⟩
  have z1 := B1.size
  go_wp2
  obtain ⟨W, hW⟩ : ∃ W, (w1.alloc (.cells #[.int .i64 0, .int .i64 0, .bool false] 28)).alloc (.cells #[.int .i64 0, .int .i64 0, .bool false] 28) = W := ⟨_, rfl⟩
  have X0 : RC ((w1.alloc (.cells #[.int .i64 0, .int .i64 0, .bool false] 28)).alloc (.cells #[.int .i64 0, .int .i64 0, .bool false] 28)) w1.heap.size 0 0 false := BK.alloc (new_rc w1) _
  have Y0 := new_rc (w1.alloc (.cells #[.int .i64 0, .int .i64 0, .bool false] 28))
  rw [World.size_alloc] at Y0
  have BW : Below w.heap.size w ((w1.alloc (.cells #[.int .i64 0, .int .i64 0, .bool false] 28)).alloc (.cells #[.int .i64 0, .int .i64 0, .bool false] 28)) := (B1.alloc B1.size _).alloc (by simp; omega) _
  rw [hW] at X0 Y0 BW ⊢
  clear hW B1
  go_loopw [51] (fun i wr => ∃ (k p d : Nat) (c : Bool), k ≤ len1 ∧ i = .int .i64 k ∧ p + d ≤ k ∧ RC wr w1.heap.size p d c ∧ RC wr (w1.heap.size + 1) 0 0 false ∧ Below w1.heap.size W wr) (fun i _ => len1 - (intOf i).toNat)
  case atStart => exact ⟨0, 0, 0, false, Nat.zero_le _, rfl, Nat.le_refl _, X0, Y0, Below.refl _ _⟩
  case round =>
    obtain ⟨k, p, d, c, hk, rfl, hpd, X1, Y1, b1⟩ := hrel
    have B1 : Below w.heap.size w _ := BW.trans (b1.mono (by omega))
    by_cases hlt : k < len1
    · obtain ⟨b, off, t0, t1, t2, t3, t4, rfl, hb, hx, c0, c1, c2, c3, c4⟩ := (h1.below B1 (Nat.le_refl _)).five hlt
      clear hx X0 Y0 BW h1 h2 h3
      go_wp2_with fail
      refine (take_calls w1.heap.size p d c t0 t1 t2 t3 t4 _ X1 (by omega) (by omega)).mono ?_
      rintro e w2 ⟨y0, y1, y2, y3, ho, rfl, X2, b2⟩
      have hs := res_sum c [t0, t1, t2, t3, t4]
      have hr := X1.lt
      have Y2 := Y1.but b2 Y1.lt (by omega)
      clear ho c0 c1 c2 c3 c4 X1 Y1
      generalize res c [t0, t1, t2, t3, t4] = q at *
      go_wp2
      go_roundw
      case rel => exact ⟨k + 1, _, _, _, by omega, by go_num, by omega, X2, Y2, b1.trans (b2.below (by omega) (Nat.le_refl _))⟩
      case measure => simp [intOf]; omega
    · obtain rfl : k = len1 := by omega
      rename_i wr _
      clear X0 Y0 h1 hlt hk
      go_wp2_with fail
      refine (repaired_calls w1.heap.size p d c _ X1).mono ?_
      rintro e w2 ⟨rfl, rfl⟩
      go_wp2_with fail
      refine (dropped_calls w1.heap.size p d c _ X1).mono ?_
      rintro e w2 ⟨rfl, rfl⟩
      go_wp2
      go_loopw [67] (fun i wr => ∃ (j : Nat) (cx : Bool), j ≤ len3 ∧ i = .int .i64 j ∧ (0 < j → cx = false) ∧ RC wr w1.heap.size p d cx ∧ RC wr (w1.heap.size + 1) 0 0 false ∧ Below w1.heap.size W wr) (fun i _ => len3 - (intOf i).toNat)
      case atStart => exact ⟨0, c, Nat.zero_le _, rfl, by omega, X1, Y1, b1⟩
      case round =>
        obtain ⟨j, cx, hj, rfl, hcx, X2, Y2, b2⟩ := hrel
        have B2 : Below w.heap.size w _ := BW.trans (b2.mono (by omega))
        clear X1 Y1 b1 B1
        by_cases hlt : j < len3
        · have J2 := h3.below B2 (Nat.le_refl _)
          obtain ⟨b, off, x0, x1, x2, x3, rfl, hb, hx, c0, c1, c2, c3⟩ := J2.four hlt
          have SC : Hid (synN [x0, x1, x2, x3, chk x0 x1 x2 x3] = 0) := syn_chk x0 x1 x2 x3
          have nex := neq_self (x0.toNat : Int) (x1.toNat : Int) (x2.toNat : Int) (x3.toNat : Int)
          have hr := X2.lt
          have hr2 := Y2.lt
          go_wp2_with fail
          refine (seal_calls x0 x1 x2 x3 _).mono ?_
          rintro e w3 ⟨rfl, b3⟩
          obtain ⟨ck, hck⟩ : ∃ ck, chk x0 x1 x2 x3 = ck := ⟨_, rfl⟩
          have CK : Hid (chk x0 x1 x2 x3 = ck) := hck
          rw [hck] at SC ⊢
          clear hck c0 c1 c2 c3
          have X3 := X2.below b3 hr
          have Y3 := Y2.below b3 hr2
          have b23 := b2.trans (b3.mono (by omega))
          clear X2 Y2 b2 b3
          go_wp2_with fail
          refine (take_right w1.heap.size p d cx x0 x1 x2 x3 ck _ X3 SC.out).mono ?_
          rintro e w4 ⟨rfl, X4, b4⟩
          have hr3 := X3.lt
          have hr4 := Y3.lt
          have Y4 := Y3.but b4 hr4 (by omega)
          have b24 := b23.trans (b4.below (m := w1.heap.size) (by omega) (Nat.le_refl _))
          have hr5 := Y4.lt
          clear X3 Y3 b23 b4
          obtain ⟨W4, hW4⟩ : ∃ W, w4.alloc (.cells #[.int .u8 (x0.toNat : Int), .int .u8 (x1.toNat : Int), .int .u8 (x2.toNat : Int), .int .u8 (x3.toNat : Int)] 32) = W := ⟨_, rfl⟩
          have X5 := BK.alloc X4 (.cells #[.int .u8 (x0.toNat : Int), .int .u8 (x1.toNat : Int), .int .u8 (x2.toNat : Int), .int .u8 (x3.toNat : Int)] 32)
          have Y5 := BK.alloc Y4 (.cells #[.int .u8 (x0.toNat : Int), .int .u8 (x1.toNat : Int), .int .u8 (x2.toNat : Int), .int .u8 (x3.toNat : Int)] 32)
          have U5 := bk_new w4 #[.int .u8 (x0.toNat : Int), .int .u8 (x1.toNat : Int), .int .u8 (x2.toNat : Int), .int .u8 (x3.toNat : Int)] 32
          have b25 : Below w1.heap.size W (w4.alloc (.cells #[.int .u8 (x0.toNat : Int), .int .u8 (x1.toNat : Int), .int .u8 (x2.toNat : Int), .int .u8 (x3.toNat : Int)] 32)) := b24.alloc (by omega) _
          have s5 : (w4.alloc (.cells #[.int .u8 (x0.toNat : Int), .int .u8 (x1.toNat : Int), .int .u8 (x2.toNat : Int), .int .u8 (x3.toNat : Int)] 32)).heap.size = w4.heap.size + 1 := by simp
          rw [hW4] at X5 Y5 U5 b25 s5
          have B5 : Below w.heap.size w W4 := BW.trans (b25.mono (by omega))
          obtain ⟨b', off', v0, v1, v2, v3, hab, _, hx', c0, c1, c2, c3⟩ := (h3.below B5 (Nat.le_refl _)).four hlt
          cases hab
          rw [hx] at hx'
          simp only [Option.some.injEq, List.cons.injEq, and_true] at hx'
          obtain ⟨rfl, rfl, rfl, rfl⟩ := hx'
          clear X4 Y4 b24
          go_wp2_with fail
          refine (seal_calls x0 x1 x2 x3 _).mono ?_
          rintro e w5 ⟨rfl, b5⟩
          rw [CK.out]
          clear hW4 c0 c1 c2 c3
          have X6 := X5.below b5 X5.lt
          have Y6 := Y5.below b5 Y5.lt
          have U6 := U5.below b5 U5.lt
          have b26 := b25.trans (b5.mono (by omega))
          clear X5 Y5 U5 b25 b5 B5
          go_wp2_with fail
          refine (take_right (w1.heap.size + 1) 0 0 false x0 x1 x2 x3 ck _ Y6 SC.out).mono ?_
          rintro e w6 ⟨rfl, Y7, b7⟩
          have hr6 := Y6.lt
          have hu6 := U6.lt
          have X7 := X6.but b7 (BK.lt X6) (by omega)
          have U7 := U6.but b7 hu6 (by omega)
          have b27 := b26.trans (b7.below (m := w1.heap.size) (by omega) (by omega))
          clear X6 Y6 U6 b26 b7
          obtain ⟨W6, hW6⟩ : ∃ W, w6.alloc (.cells #[.int .u8 (x0.toNat : Int), .int .u8 (x1.toNat : Int), .int .u8 (x2.toNat : Int), .int .u8 (x3.toNat : Int)] 32) = W := ⟨_, rfl⟩
          have X8 := BK.alloc X7 (.cells #[.int .u8 (x0.toNat : Int), .int .u8 (x1.toNat : Int), .int .u8 (x2.toNat : Int), .int .u8 (x3.toNat : Int)] 32)
          have Y8 := BK.alloc Y7 (.cells #[.int .u8 (x0.toNat : Int), .int .u8 (x1.toNat : Int), .int .u8 (x2.toNat : Int), .int .u8 (x3.toNat : Int)] 32)
          have U8 := BK.alloc U7 (.cells #[.int .u8 (x0.toNat : Int), .int .u8 (x1.toNat : Int), .int .u8 (x2.toNat : Int), .int .u8 (x3.toNat : Int)] 32)
          have V8 := bk_new w6 #[.int .u8 (x0.toNat : Int), .int .u8 (x1.toNat : Int), .int .u8 (x2.toNat : Int), .int .u8 (x3.toNat : Int)] 32
          have hr7 := Y7.lt
          have b28 : Below w1.heap.size W (w6.alloc (.cells #[.int .u8 (x0.toNat : Int), .int .u8 (x1.toNat : Int), .int .u8 (x2.toNat : Int), .int .u8 (x3.toNat : Int)] 32)) := b27.alloc (by omega) _
          rw [hW6] at X8 Y8 U8 V8 b28
          have B8 : Below w.heap.size w W6 := BW.trans (b28.mono (by omega))
          obtain ⟨b', off', v0, v1, v2, v3, hab, _, hx', c0, c1, c2, c3⟩ := (h3.below B8 (Nat.le_refl _)).four hlt
          cases hab
          rw [hx] at hx'
          simp only [Option.some.injEq, List.cons.injEq, and_true] at hx'
          obtain ⟨rfl, rfl, rfl, rfl⟩ := hx'
          obtain ⟨⟨u0, u1, u2, u3⟩, _⟩ := BK.four U8
          obtain ⟨⟨v0, v1, v2, v3⟩, _⟩ := BK.four V8
          have XX : Hid (RC W6 w1.heap.size p d false) := X8
          have YY : Hid (RC W6 (w1.heap.size + 1) 0 0 false) := Y8
          clear X7 Y7 U7 b27 X8 Y8 U8 V8 hx J2 h2
          go_wp2
          go_quiet (fail)
          go_wp2
          go_roundw
          case rel => exact ⟨j + 1, false, by omega, by go_num, fun _ => rfl, BK.drewN XX.out _, BK.drewN YY.out _, apart_drewN b28 _⟩
          case measure => simp [intOf]; omega
        · obtain rfl : j = len3 := by omega
          obtain rfl : cx = false := hcx (by omega)
          rename_i wr3 _
          clear h3 hlt hj hcx
          go_wp2_with fail
          refine (repaired_calls w1.heap.size p d false _ X2).mono ?_
          rintro e w3 ⟨rfl, rfl⟩
          go_wp2_with fail
          refine (dropped_calls w1.heap.size p d false _ X2).mono ?_
          rintro e w3 ⟨rfl, rfl⟩
          go_wp2_with fail
          refine (repaired_calls (w1.heap.size + 1) 0 0 false _ Y2).mono ?_
          rintro e w3 ⟨rfl, rfl⟩
          go_wp2_with fail
          refine (dropped_calls (w1.heap.size + 1) 0 0 false _ Y2).mono ?_
          rintro e w3 ⟨rfl, rfl⟩
          go_wp2
          go_loopw [133] (fun i wr => ∃ (m p2 d2 p3 d3 : Nat) (c2 : Bool), m ≤ len2 ∧ i = .int .i64 m ∧ p2 + d2 ≤ m ∧ p3 = p + p2 ∧ d3 = d + d2 ∧ RC wr w1.heap.size p3 d3 c2 ∧ RC wr (w1.heap.size + 1) p2 d2 c2 ∧ Below w1.heap.size W wr) (fun i _ => len2 - (intOf i).toNat)
          case atStart => exact ⟨0, 0, 0, p, d, false, Nat.zero_le _, rfl, Nat.le_refl _, rfl, rfl, X2, Y2, b2⟩
          case round =>
            obtain ⟨m, p2, d2, p3, d3, c2, hm, rfl, hpd2, hp3, hd3, X3, Y3, b3⟩ := hrel
            have B3 : Below w.heap.size w _ := BW.trans (b3.mono (by omega))
            have HP3 : Hid (p3 = p + p2) := hp3
            have HD3 : Hid (d3 = d + d2) := hd3
            clear X2 Y2 b2 B2
            by_cases hlt : m < len2
            · obtain ⟨b, off, t0, t1, t2, t3, t4, rfl, hb, hx, c0, c1, cc2, cc3, c4⟩ := (h2.below B3 (Nat.le_refl _)).five hlt
              have hr := X3.lt
              have hr2 := Y3.lt
              have g1 : p3 < 1000000 := by omega
              have g2 : d3 < 1000000 := by omega
              clear hp3 hd3
              go_wp2_with fail
              refine (take_calls w1.heap.size p3 d3 c2 t0 t1 t2 t3 t4 _ X3 g1 g2).mono ?_
              rintro e w4 ⟨y0, y1, y2, y3, ho, rfl, X4, b4⟩
              have Y4 := Y3.but b4 hr2 (by omega)
              have b24 := b3.trans (b4.below (m := w1.heap.size) (by omega) (Nat.le_refl _))
              have hr4 := Y4.lt
              clear c0 c1 cc2 cc3 c4 X3 Y3 b3 b4 B3
              obtain ⟨U4, hU4⟩ : ∃ U, U = Obj.cells #[.int .u8 (y0.toNat : Int), .int .u8 (y1.toNat : Int), .int .u8 (y2.toNat : Int), .int .u8 (y3.toNat : Int)] 32 := ⟨_, rfl⟩
              have X5 := BK.alloc X4 (.cells #[.int .u8 (y0.toNat : Int), .int .u8 (y1.toNat : Int), .int .u8 (y2.toNat : Int), .int .u8 (y3.toNat : Int)] 32)
              have Y5 := BK.alloc Y4 (.cells #[.int .u8 (y0.toNat : Int), .int .u8 (y1.toNat : Int), .int .u8 (y2.toNat : Int), .int .u8 (y3.toNat : Int)] 32)
              have U5 := bk_new w4 #[.int .u8 (y0.toNat : Int), .int .u8 (y1.toNat : Int), .int .u8 (y2.toNat : Int), .int .u8 (y3.toNat : Int)] 32
              have b25 : Below w1.heap.size W (w4.alloc (.cells #[.int .u8 (y0.toNat : Int), .int .u8 (y1.toNat : Int), .int .u8 (y2.toNat : Int), .int .u8 (y3.toNat : Int)] 32)) := b24.alloc (by omega) _
              have s5 : (w4.alloc (.cells #[.int .u8 (y0.toNat : Int), .int .u8 (y1.toNat : Int), .int .u8 (y2.toNat : Int), .int .u8 (y3.toNat : Int)] 32)).heap.size = w4.heap.size + 1 := by simp
              obtain ⟨W4, hW4⟩ : ∃ W, w4.alloc (.cells #[.int .u8 (y0.toNat : Int), .int .u8 (y1.toNat : Int), .int .u8 (y2.toNat : Int), .int .u8 (y3.toNat : Int)] 32) = W := ⟨_, rfl⟩
              rw [hW4] at X5 Y5 U5 b25 s5
              clear hU4
              have B5 : Below w.heap.size w W4 := BW.trans (b25.mono (by omega))
              obtain ⟨b', off', v0, v1, v2, v3, v4, hab, _, hx', c0, c1, cc2, cc3, c4⟩ := (h2.below B5 (Nat.le_refl _)).five hlt
              cases hab
              rw [hx] at hx'
              simp only [Option.some.injEq, List.cons.injEq, and_true] at hx'
              obtain ⟨rfl, rfl, rfl, rfl, rfl⟩ := hx'
              clear X4 Y4 b24
              go_wp2_with fail
              refine (take_calls (w1.heap.size + 1) p2 d2 c2 t0 t1 t2 t3 t4 _ Y5 (by omega) (by omega)).mono ?_
              rintro e w6 ⟨y0', y1', y2', y3', ho', rfl, Y7, b7⟩
              rw [ho] at ho'
              simp only [List.cons.injEq, and_true] at ho'
              obtain ⟨rfl, rfl, rfl, rfl⟩ := ho'
              have hr6 := Y5.lt
              have hu6 := U5.lt
              have X7 := X5.but b7 (BK.lt X5) (by omega)
              have U7 := U5.but b7 hu6 (by omega)
              have b27 := b25.trans (b7.below (m := w1.heap.size) (by omega) (by omega))
              have hs := res_sum c2 [t0, t1, t2, t3, t4]
              clear X5 Y5 U5 b25 b7 c0 c1 cc2 cc3 c4 ho hW4 B5 hx h2
              generalize res c2 [t0, t1, t2, t3, t4] = q at *
              obtain ⟨p4, hp4⟩ : ∃ p4, p2 + q.rep = p4 := ⟨_, rfl⟩
              obtain ⟨d4, hd4⟩ : ∃ d4, d2 + q.drop = d4 := ⟨_, rfl⟩
              obtain ⟨p5, hp5⟩ : ∃ p5, p3 + q.rep = p5 := ⟨_, rfl⟩
              obtain ⟨d5, hd5⟩ : ∃ d5, d3 + q.drop = d5 := ⟨_, rfl⟩
              obtain ⟨cf, hcf⟩ : ∃ cf, q.careful = cf := ⟨_, rfl⟩
              obtain ⟨okq, hok⟩ : ∃ okq, q.ok = okq := ⟨_, rfl⟩
              rw [hp4, hd4, hcf] at Y7
              rw [hp5, hd5, hcf] at X7
              rw [hok]
              have HH : Hid (p4 + d4 ≤ m + 1 ∧ p5 = p + p4 ∧ d5 = d + d4) := by
                have a := HP3.out; have b := HD3.out
                show p4 + d4 ≤ m + 1 ∧ p5 = p + p4 ∧ d5 = d + d4
                omega
              clear hp4 hd4 hp5 hd5 hcf hok hs HP3 HD3
              have nex := neq_self (y0.toNat : Int) (y1.toNat : Int) (y2.toNat : Int) (y3.toNat : Int)
              have X8 : RC _ w1.heap.size p5 d5 cf := BK.alloc X7 (.cells #[.int .u8 (y0.toNat : Int), .int .u8 (y1.toNat : Int), .int .u8 (y2.toNat : Int), .int .u8 (y3.toNat : Int)] 32)
              have Y8 : RC _ (w1.heap.size + 1) p4 d4 cf := BK.alloc Y7 (.cells #[.int .u8 (y0.toNat : Int), .int .u8 (y1.toNat : Int), .int .u8 (y2.toNat : Int), .int .u8 (y3.toNat : Int)] 32)
              have U8 := BK.alloc U7 (.cells #[.int .u8 (y0.toNat : Int), .int .u8 (y1.toNat : Int), .int .u8 (y2.toNat : Int), .int .u8 (y3.toNat : Int)] 32)
              have V8 := bk_new w6 #[.int .u8 (y0.toNat : Int), .int .u8 (y1.toNat : Int), .int .u8 (y2.toNat : Int), .int .u8 (y3.toNat : Int)] 32
              have hr7 := Y7.lt
              have b28 : Below w1.heap.size W (w6.alloc (.cells #[.int .u8 (y0.toNat : Int), .int .u8 (y1.toNat : Int), .int .u8 (y2.toNat : Int), .int .u8 (y3.toNat : Int)] 32)) := b27.alloc (by omega) _
              obtain ⟨W6, hW6⟩ : ∃ W, w6.alloc (.cells #[.int .u8 (y0.toNat : Int), .int .u8 (y1.toNat : Int), .int .u8 (y2.toNat : Int), .int .u8 (y3.toNat : Int)] 32) = W := ⟨_, rfl⟩
              rw [hW6] at X8 Y8 U8 V8 b28
              obtain ⟨⟨u0, u1, u2, u3⟩, _⟩ := BK.four U8
              obtain ⟨⟨v0, v1, v2, v3⟩, _⟩ := BK.four V8
              clear X7 Y7 U7 b27 U8 V8
              go_wp2_with fail
              refine (careful_calls w1.heap.size p5 d5 cf _ X8).mono ?_
              rintro e w7 ⟨rfl, rfl⟩
              go_wp2_with fail
              refine (careful_calls (w1.heap.size + 1) p4 d4 cf _ Y8).mono ?_
              rintro e w7 ⟨rfl, rfl⟩
              go_wp2
              go_roundw
              case rel => exact ⟨m + 1, p4, d4, p5, d5, cf, by omega, by go_num, HH.out.1, HH.out.2.1, HH.out.2.2, X8, Y8, b28⟩
              case measure => simp [intOf]; omega
            · obtain rfl : m = len2 := by omega
              have f1 : (p3 : Int) - (p : Int) = (p2 : Int) := by omega
              have f2 : (d3 : Int) - (d : Int) = (d2 : Int) := by omega
              clear hp3 hd3 h2 b3 BW hlt hm
              go_wp2_with fail
              refine (repaired_calls w1.heap.size p3 d3 c2 _ X3).mono ?_
              rintro e w4 ⟨rfl, rfl⟩
              go_wp2_with fail
              refine (repaired_calls (w1.heap.size + 1) p2 d2 c2 _ Y3).mono ?_
              rintro e w4 ⟨rfl, rfl⟩
              go_wp2_with fail
              refine (dropped_calls w1.heap.size p3 d3 c2 _ X3).mono ?_
              rintro e w4 ⟨rfl, rfl⟩
              go_wp2_with fail
              refine (dropped_calls (w1.heap.size + 1) p2 d2 c2 _ Y3).mono ?_
              rintro e w4 ⟨rfl, rfl⟩
              go_wp2
              go_ret
              exact ⟨rfl, B3⟩
end Go.Proofs.Ytcehhldeocpanaa
