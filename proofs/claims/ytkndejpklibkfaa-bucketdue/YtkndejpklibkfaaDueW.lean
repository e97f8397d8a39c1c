/- Proved here: the walk of BucketDue. Conditions: as each theorem states them. -/
import Derived.Test.YtkndejpklibkfaaStepT
namespace Go.Proofs.Ytkndejpklibkfaa
set_option linter.unusedSimpArgs false
set_option linter.unusedVariables false
open Go.RowKit

set_option maxHeartbeats 2000000 in
theorem due_walk (step early t : Int) (a : Option Addr) (len cap : Nat) (zs : List Int) (w : World) (hL : IsR .i64 w.heap.size w a len zs) :
    Calls Try.prog 6 #[.int .i64 step, .int .i64 early, .slice a len cap, .int .i64 t] w fun e w' => e = .returned (.bool true) ∧ Below w.heap.size w w' := by
  by_cases hl1 : 300 < len
  · have q1 : decide (300 < (len : Int)) = true := by simp; omega
    clear hL
    go_enter Try.func6, Try.ntmps6
    go_wp2_with fail
    refine (awake_calls _).mono ?_
    rintro e w1 ⟨rfl, b1⟩
    go_wp2_with fail
    refine (awake_calls _).mono ?_
    rintro e w2 ⟨rfl, b2⟩
    go_wp2
    go_ret
    exact ⟨rfl, b1.trans (b2.mono b1.size)⟩
  have q1 : decide (300 < (len : Int)) = false := by simp; omega
  have hl : len ≤ 300 := by omega
  clear hl1
  go_enter Try.func6, Try.ntmps6
  go_wp2_with fail
  refine (awake_calls _).mono ?_
  rintro e w1 ⟨rfl, B1⟩
  go_wp2_with fail
  refine (new_calls step early _).mono ?_
  rintro e w2 ⟨rfl, C2, B2⟩
  clear q1
  go_wp2
  go_loopw [27] (fun iv wr => ∃ (k : Nat) (T : Int), k ≤ len ∧ iv = .int .i64 k ∧ 0 ≤ T ∧ T ≤ 3458764513820540928 ∧ BC wr w1.heap.size step early T ∧ Below w1.heap.size w1 wr) (fun iv _ => len - (intOf iv).toNat)
  case atStart => exact ⟨0, 0, Nat.zero_le _, rfl, by decide, by decide, C2, B2⟩
  case round =>
    obtain ⟨k, T, hk, rfl, T0, T1, C3, b3⟩ := hrel
    have B3 : Below w.heap.size w _ := B1.trans (b3.mono B1.size)
    clear C2 B2
    by_cases hlt : k < len
    · obtain ⟨b, off, x, rfl, hb, hx, c1⟩ := (hL.below B3 (Nat.le_refl _)).at hlt
      clear hx hL
      have ⟨U0, U1⟩ := stepT_bound (s := step) (e := early) (t := x) T0 T1
      go_wp2_with fail
      refine (take_calls w1.heap.size step early T x _ C3 T0 T1).mono ?_
      rintro e w4 ⟨rfl, C4, b4⟩
      have b14 := b3.trans (b4.below (Nat.le_of_lt C3.lt) (Nat.le_refl _))
      clear C3 b3 b4 c1
      go_wp2
      go_roundw
      case rel => exact ⟨k + 1, _, by omega, by go_num, U0, U1, C4, b14⟩
      case measure => simp [intOf]; omega
    · obtain rfl : k = len := by omega
      clear hL hlt hk
      have ⟨m0, m1⟩ := hM_bound early
      obtain ⟨d, hd⟩ : ∃ d, max 0 (T - hM early) = d := ⟨_, rfl⟩
      obtain ⟨v, hv⟩ : ∃ v, max 0 (T - hM t) = v := ⟨_, rfl⟩
      have HD : Hid (max 0 (T - hM early) = d) := hd
      have HV : Hid (max 0 (T - hM t) = v) := hv
      have d0 : 0 ≤ d := by omega
      have d1 : d ≤ 3458764513820540928 := by omega
      clear hd hv m0 m1
      go_wp2_with fail
      refine (due_calls w1.heap.size step early T _ C3 T0 T1).mono ?_
      rintro e w4 ⟨rfl, b4⟩
      rw [HD.out]
      have C4 := C3.below b4 C3.lt
      have b14 := b3.trans (b4.mono (Nat.le_of_lt C3.lt))
      clear C3 b3 b4
      go_wp2_with fail
      refine (level_calls w1.heap.size step early T t _ C4 T0 T1).mono ?_
      rintro e w5 ⟨rfl, b5⟩
      rw [HV.out]
      have C5 := C4.below b5 C4.lt
      have b15 := b14.trans (b5.mono (Nat.le_of_lt C4.lt))
      clear C4 b14 b5
      go_wp2_with fail
      refine (copy_calls w1.heap.size step early T _ C5).mono ?_
      rintro e w6 ⟨rfl, D6, b6⟩
      have C6 := C5.below b6 C5.lt
      have b16 := b15.trans (b6.mono (Nat.le_of_lt C5.lt))
      have r1 : w1.heap.size < w5.heap.size := C5.lt
      obtain ⟨q, hq⟩ : ∃ q, w5.heap.size = q := ⟨_, rfl⟩
      rw [hq] at D6 r1 ⊢
      clear C5 b15 b6 hq
      go_wp2_with fail
      refine (due_calls q step early T _ D6 T0 T1).mono ?_
      rintro e w7 ⟨rfl, b7⟩
      rw [HD.out]
      have C7 := C6.below b7 C6.lt
      have D7 := D6.below b7 D6.lt
      have b17 := b16.trans (b7.mono (Nat.le_of_lt C6.lt))
      clear C6 D6 b16 b7
      go_wp2_with fail
      refine (level_calls q step early T t _ D7 T0 T1).mono ?_
      rintro e w8 ⟨rfl, b8⟩
      rw [HV.out]
      have C8 := C7.below b8 C7.lt
      have D8 := D7.below b8 D7.lt
      have b18 := b17.trans (b8.mono (Nat.le_of_lt C7.lt))
      clear C7 D7 b17 b8
      by_cases hM1 : d ≤ 1152921504606846976
      · have g1 : decide (d ≤ 1152921504606846976) = true := decide_eq_true hM1
        have hdd : hM d = d := hM_id d0 hM1
        have f1 : fitN early T d = true := fitN_true (by have := HD.out; omega)
        go_wp2_with fail
        refine (fits_calls w1.heap.size step early T d _ C8 T0 T1).mono ?_
        rintro e w9 ⟨rfl, b9⟩
        rw [f1]
        have C9 := C8.below b9 C8.lt
        have D9 := D8.below b9 D8.lt
        have b19 := b18.trans (b9.mono (Nat.le_of_lt C8.lt))
        clear C8 D8 b18 b9
        by_cases hp : 0 < d
        · have g2 : decide (0 < d) = true := decide_eq_true hp
          have f2 : fitN early T (d - 1) = false := fitN_false (by rw [hM_id (x := d - 1) (by omega) (by omega)]; have := HD.out; omega)
          clear hM1
          go_wp2_with fail
          refine (fits_calls w1.heap.size step early T (d - 1) _ C9 T0 T1).mono ?_
          rintro e w10 ⟨rfl, b10⟩
          rw [f2]
          have C10 := C9.below b10 C9.lt
          have D10 := D9.below b10 D9.lt
          have b110 := b19.trans (b10.mono (Nat.le_of_lt C9.lt))
          clear C9 D9 b19 b10
          go_wp2_with fail
          refine (take_no w1.heap.size step early T (d - 1) _ C10 T0 T1 f2).mono ?_
          rintro e w11 ⟨rfl, b11⟩
          have C11 := C10.below b11 C10.lt
          have D11 := D10.below b11 D10.lt
          have b111 := b110.trans (b11.mono (Nat.le_of_lt C10.lt))
          clear C10 D10 b110 b11
          go_wp2_with fail
          refine (due_calls w1.heap.size step early T _ C11 T0 T1).mono ?_
          rintro e w12 ⟨rfl, b12⟩
          rw [HD.out]
          have C12 := C11.below b12 C11.lt
          have D12 := D11.below b12 D11.lt
          have b112 := b111.trans (b12.mono (Nat.le_of_lt C11.lt))
          clear C11 D11 b111 b12
          go_wp2_with fail
          refine (take_calls q step early T d _ D12 T0 T1).mono ?_
          rintro e w13 ⟨rfl, D13, b13⟩
          have C13 := C12.but b13 C12.lt (by omega)
          have b113 := b112.trans (b13.below (m := w1.heap.size) (Nat.le_of_lt C12.lt) (by omega))
          clear C12 D12 D13 b112 b13
          go_wp2_with fail
          refine (due_calls w1.heap.size step early T _ C13 T0 T1).mono ?_
          rintro e w14 ⟨rfl, b14⟩
          rw [HD.out]
          have C14 := C13.below b14 C13.lt
          have b114 := b113.trans (b14.mono (Nat.le_of_lt C13.lt))
          clear C13 b113 b14
          go_wp2_with fail
          refine (level_calls w1.heap.size step early T t _ C14 T0 T1).mono ?_
          rintro e w15 ⟨rfl, b15⟩
          rw [HV.out]
          have b115 := b114.trans (b15.mono (Nat.le_of_lt C14.lt))
          clear C14 b114 b15
          go_wp2
          go_ret
          exact ⟨rfl, B1.trans (b115.mono B1.size)⟩
        · have g2 : decide (0 < d) = false := decide_eq_false hp
          clear hp
          go_wp2_with fail
          refine (due_calls w1.heap.size step early T _ C9 T0 T1).mono ?_
          rintro e w12 ⟨rfl, b12⟩
          rw [HD.out]
          have C12 := C9.below b12 C9.lt
          have D12 := D9.below b12 D9.lt
          have b112 := b19.trans (b12.mono (Nat.le_of_lt C9.lt))
          clear C9 D9 b19 b12
          go_wp2_with fail
          refine (take_calls q step early T d _ D12 T0 T1).mono ?_
          rintro e w13 ⟨rfl, D13, b13⟩
          have C13 := C12.but b13 C12.lt (by omega)
          have b113 := b112.trans (b13.below (m := w1.heap.size) (Nat.le_of_lt C12.lt) (by omega))
          clear C12 D12 D13 b112 b13
          go_wp2_with fail
          refine (due_calls w1.heap.size step early T _ C13 T0 T1).mono ?_
          rintro e w14 ⟨rfl, b14⟩
          rw [HD.out]
          have C14 := C13.below b14 C13.lt
          have b114 := b113.trans (b14.mono (Nat.le_of_lt C13.lt))
          clear C13 b113 b14
          go_wp2_with fail
          refine (level_calls w1.heap.size step early T t _ C14 T0 T1).mono ?_
          rintro e w15 ⟨rfl, b15⟩
          rw [HV.out]
          have b115 := b114.trans (b15.mono (Nat.le_of_lt C14.lt))
          clear C14 b114 b15
          go_wp2
          go_ret
          exact ⟨rfl, B1.trans (b115.mono B1.size)⟩
      · have g1 : decide (d ≤ 1152921504606846976) = false := decide_eq_false hM1
        have g2 : decide (0 < d) = true := decide_eq_true (by omega)
        clear hM1
        go_wp2_with fail
        refine (due_calls w1.heap.size step early T _ C8 T0 T1).mono ?_
        rintro e w12 ⟨rfl, b12⟩
        rw [HD.out]
        have C12 := C8.below b12 C8.lt
        have D12 := D8.below b12 D8.lt
        have b112 := b18.trans (b12.mono (Nat.le_of_lt C8.lt))
        clear C8 D8 b18 b12
        go_wp2_with fail
        refine (take_calls q step early T d _ D12 T0 T1).mono ?_
        rintro e w13 ⟨rfl, D13, b13⟩
        have C13 := C12.but b13 C12.lt (by omega)
        have b113 := b112.trans (b13.below (m := w1.heap.size) (Nat.le_of_lt C12.lt) (by omega))
        clear C12 D12 D13 b112 b13
        go_wp2_with fail
        refine (due_calls w1.heap.size step early T _ C13 T0 T1).mono ?_
        rintro e w14 ⟨rfl, b14⟩
        rw [HD.out]
        have C14 := C13.below b14 C13.lt
        have b114 := b113.trans (b14.mono (Nat.le_of_lt C13.lt))
        clear C13 b113 b14
        go_wp2_with fail
        refine (level_calls w1.heap.size step early T t _ C14 T0 T1).mono ?_
        rintro e w15 ⟨rfl, b15⟩
        rw [HV.out]
        have b115 := b114.trans (b15.mono (Nat.le_of_lt C14.lt))
        clear C14 b114 b15
        go_wp2
        go_ret
        exact ⟨rfl, B1.trans (b115.mono B1.size)⟩
end Go.Proofs.Ytkndejpklibkfaa
