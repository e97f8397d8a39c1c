/- Proved here: the walk of BucketSchedules. Conditions: as each theorem states them. -/
import Derived.Test.YtkndejpklibkfaaRise
namespace Go.Proofs.Ytkndejpklibkfaa
set_option linter.unusedSimpArgs false
set_option linter.unusedVariables false
open Go.RowKit

theorem fitN_plain {e T t : Int} (he0 : 0 ≤ e) (he1 : e ≤ 1152921504606846976) (ht0 : 0 ≤ t) (ht1 : t ≤ 1152921504606846976) : fitN e T t = decide (T - e ≤ t) := by
  unfold fitN; rw [hM_id he0 he1, hM_id ht0 ht1]
theorem nextN_plain {s T t : Int} (hs0 : 1 ≤ s) (hs1 : s ≤ 1152921504606846976) (ht0 : 0 ≤ t) (ht1 : t ≤ 1152921504606846976) : nextN s T t = max T t + s := by
  unfold nextN; rw [hS_id hs0 hs1, hM_id ht0 ht1]

set_option maxHeartbeats 2000000 in
theorem schedules_walk (step early : Int) (s0 : 0 ≤ step) (s1 : step < 4294967296) (e0 : 0 ≤ early) (e1 : early < 4294967296) (a : Option Addr) (len cap : Nat) (zs : List Int) (w : World) (hL : IsR .u32 w.heap.size w a len zs) (hb : ∀ z ∈ zs, 0 ≤ z ∧ z < 4294967296) :
    Calls Try.prog 5 #[.int .u32 step, .int .u32 early, .slice a len cap] w fun e w' => e = .returned (.bool true) ∧ Below w.heap.size w w' := by
  by_cases hl1 : 300 < len
  · have q1 : decide (300 < (len : Int)) = true := by simp; omega
    clear hL
    go_enter Try.func5, Try.ntmps5
    go_wp2_with fail
    refine (awake_calls _).mono ?_
    rintro e w1 ⟨rfl, b1⟩
    go_wp2_with fail
    refine (awake_calls _).mono ?_
    rintro e w2 ⟨rfl, b2⟩
    go_wp2
    go_ret
    exact ⟨rfl, b1.trans (b2.mono b1.size)⟩
  have q1 : decide (300 < (len : Int)) = false := by simp; omega
  have hl : len ≤ 300 := by omega
  have HB : Hid (∀ z ∈ zs, 0 ≤ z ∧ z < 4294967296) := hb
  obtain ⟨s, hs⟩ : ∃ s, max 1 step = s := ⟨_, rfl⟩
  have p0 : 1 ≤ s := by omega
  have p1 : s ≤ 4294967296 := by omega
  have hm : (if (1 : Int) < step then step else 1) = s := by rw [← hs]; split <;> omega
  clear hl1 hb hs
  go_enter Try.func5, Try.ntmps5
  go_wp2_with fail
  refine (awake_calls _).mono ?_
  rintro e w1 ⟨rfl, B1⟩
  go_wp2_with fail
  refine (new_calls s early _).mono ?_
  rintro e w2 ⟨rfl, C2, B2⟩
  clear hm q1
  go_wp2
  go_loopw [30] (fun iv wr => ∃ (k : Nat) (T : Int), k ≤ len ∧ iv = .int .i64 k ∧ (k = 0 → T = 0) ∧ 0 ≤ T ∧ T ≤ 12884901888 ∧ BC wr w1.heap.size s early T ∧ Below w1.heap.size w1 wr) (fun iv _ => len - (intOf iv).toNat)
  case atStart => exact ⟨0, 0, Nat.zero_le _, rfl, fun _ => rfl, by decide, by decide, C2, B2⟩
  case round =>
    obtain ⟨k, T, hk, rfl, hz, T0, T1, C3, b3⟩ := hrel
    have B3 : Below w.heap.size w _ := B1.trans (b3.mono B1.size)
    clear C2 B2
    by_cases hlt : k < len
    · obtain ⟨b, off, x, rfl, hb, hx, c1⟩ := (hL.below B3 (Nat.le_refl _)).at hlt
      have ⟨x0, x1⟩ := HB.out x (List.mem_of_getElem? hx)
      clear hx hL
      have HF : Hid (fitN early T x = decide (T - early ≤ x)) := fitN_plain e0 (by omega) x0 (by omega)
      have HN : Hid (nextN s T x = max T x + s) := nextN_plain p0 (by omega) x0 (by omega)
      rcases Nat.eq_zero_or_pos k with h0 | h0
      · have k0 : ((k : Int) == 0) = true := by simp [h0]
        obtain rfl := hz h0
        clear h0
        have f1 : fitN early 0 x = true := by rw [HF.out]; simp; omega
        have HT : Hid (nextN s 0 x = x + s) := by show _ = _; rw [HN.out]; omega
        clear hz
        go_wp2_with fail
        refine (fits_calls w1.heap.size s early 0 x _ C3 (by omega) (by omega)).mono ?_
        rintro e w4 ⟨rfl, b4⟩
        rw [f1]
        have C4 := C3.below b4 C3.lt
        have b14 := b3.trans (b4.mono (Nat.le_of_lt C3.lt))
        clear C3 b3 b4 c1
        go_wp2_with fail
        refine (take_yes w1.heap.size s early 0 x _ C4 (by omega) (by omega) f1).mono ?_
        rintro e w5 ⟨rfl, C5, b5⟩
        rw [HT.out] at C5
        have b15 := b14.trans (b5.below (Nat.le_of_lt C4.lt) (Nat.le_refl _))
        clear C4 b14 b5
        go_wp2_with fail
        refine (level_calls w1.heap.size s early (x + s) 0 _ C5 (by omega) (by omega)).mono ?_
        rintro e w6 ⟨rfl, b6⟩
        rw [show max 0 (x + s - hM 0) = x + s by rw [show hM 0 = 0 by decide]; omega]
        have C6 := C5.below b6 C5.lt
        have b16 := b15.trans (b6.mono (Nat.le_of_lt C5.lt))
        clear C5 b15 b6
        go_wp2
        go_roundw
        case rel => exact ⟨k + 1, x + s, by omega, by go_num, by omega, by omega, by omega, C6, b16⟩
        case measure => simp [intOf]; omega
      · have k0 : ((k : Int) == 0) = false := beq_eq_false_iff_ne.2 (by omega)
        clear hz
        go_wp2_with fail
        refine (level_calls w1.heap.size s early T 0 _ C3 (by omega) (by omega)).mono ?_
        rintro e w4 ⟨rfl, b4⟩
        rw [show max 0 (T - hM 0) = T by rw [show hM 0 = 0 by decide]; omega]
        have C4 := C3.below b4 C3.lt
        have b14 := b3.trans (b4.mono (Nat.le_of_lt C3.lt))
        clear C3 b3 b4 c1
        by_cases hf : T - early ≤ x
        · have g1 : decide (T - early ≤ x) = true := decide_eq_true hf
          have f1 : fitN early T x = true := by rw [HF.out]; exact g1
          obtain ⟨u, hu⟩ : ∃ u, max T x = u := ⟨_, rfl⟩
          have HT : Hid (nextN s T x = u + s) := by show _ = _; rw [HN.out, hu]
          have hm : (if T < x then x else T) = u := by rw [← hu]; split <;> omega
          have u0 : 0 ≤ u := by omega
          have u1 : u ≤ 8589934592 := by omega
          go_wp2_with fail
          refine (fits_calls w1.heap.size s early T x _ C4 (by omega) (by omega)).mono ?_
          rintro e w5 ⟨rfl, b5⟩
          rw [f1]
          have C5 := C4.below b5 C4.lt
          have b15 := b14.trans (b5.mono (Nat.le_of_lt C4.lt))
          clear C4 b14 b5
          go_wp2_with fail
          refine (take_yes w1.heap.size s early T x _ C5 (by omega) (by omega) f1).mono ?_
          rintro e w6 ⟨rfl, C6, b6⟩
          rw [HT.out] at C6
          have b16 := b15.trans (b6.below (Nat.le_of_lt C5.lt) (Nat.le_refl _))
          clear C5 b15 b6
          go_wp2_with fail
          refine (level_calls w1.heap.size s early (u + s) 0 _ C6 (by omega) (by omega)).mono ?_
          rintro e w7 ⟨rfl, b7⟩
          rw [show max 0 (u + s - hM 0) = u + s by rw [show hM 0 = 0 by decide]; omega]
          have C7 := C6.below b7 C6.lt
          have b17 := b16.trans (b7.mono (Nat.le_of_lt C6.lt))
          clear C6 b16 b7 hu
          go_wp2
          go_roundw
          case rel => exact ⟨k + 1, u + s, by omega, by go_num, by omega, by omega, by omega, C7, b17⟩
          case measure => simp [intOf]; omega
        · have g1 : decide (T - early ≤ x) = false := decide_eq_false hf
          have f1 : fitN early T x = false := by rw [HF.out]; exact g1
          clear hf
          go_wp2_with fail
          refine (fits_calls w1.heap.size s early T x _ C4 (by omega) (by omega)).mono ?_
          rintro e w5 ⟨rfl, b5⟩
          rw [f1]
          have C5 := C4.below b5 C4.lt
          have b15 := b14.trans (b5.mono (Nat.le_of_lt C4.lt))
          clear C4 b14 b5
          go_wp2_with fail
          refine (take_no w1.heap.size s early T x _ C5 (by omega) (by omega) f1).mono ?_
          rintro e w6 ⟨rfl, b6⟩
          have C6 := C5.below b6 C5.lt
          have b16 := b15.trans (b6.mono (Nat.le_of_lt C5.lt))
          clear C5 b15 b6
          go_wp2
          go_roundw
          case rel => exact ⟨k + 1, T, by omega, by go_num, by omega, by omega, by omega, C6, b16⟩
          case measure => simp [intOf]; omega
    · obtain rfl : k = len := by omega
      go_wp2
      go_ret
      exact ⟨rfl, B3⟩
end Go.Proofs.Ytkndejpklibkfaa
