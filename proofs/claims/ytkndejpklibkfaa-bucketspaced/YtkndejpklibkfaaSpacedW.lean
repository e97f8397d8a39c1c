/- Proved here: the walk of BucketSpaced. Conditions: as each theorem states them. -/
import Derived.Test.YtkndejpklibkfaaSchedW
namespace Go.Proofs.Ytkndejpklibkfaa
set_option linter.unusedSimpArgs false
set_option linter.unusedVariables false
open Go.RowKit

set_option maxHeartbeats 2000000 in
theorem spaced_walk (step early : Int) (s0 : 0 ≤ step) (s1 : step < 4294967296) (e0 : 0 ≤ early) (e1 : early < 4294967296) (a : Option Addr) (len cap : Nat) (zs : List Int) (a' : Option Addr) (len' cap' : Nat) (ys : List Int) (w : World) (hL : IsR .u32 w.heap.size w a len zs) (hb : ∀ z ∈ zs, 0 ≤ z ∧ z < 4294967296)
    (hL' : IsR .u32 w.heap.size w a' len' ys) (hb' : ∀ z ∈ ys, 0 ≤ z ∧ z < 4294967296) :
    Calls Try.prog 4 #[.int .u32 step, .int .u32 early, .slice a len cap, .slice a' len' cap'] w fun e w' => e = .returned (.bool true) ∧ Below w.heap.size w w' := by
  by_cases hl1 : 300 < len
  · have q1 : decide (300 < (len : Int)) = true := by simp; omega
    clear hL hL'
    go_enter Try.func4, Try.ntmps4
    go_wp2_with fail
    refine (awake_calls _).mono ?_
    rintro e w1 ⟨rfl, b1⟩
    go_wp2_with fail
    refine (awake_calls _).mono ?_
    rintro e w2 ⟨rfl, b2⟩
    go_wp2
    go_ret
    exact ⟨rfl, b1.trans (b2.mono b1.size)⟩
  have q1 : decide (300 < (len : Int)) = false := by simp; omega
  have hl : len ≤ 300 := by omega
  have HB : Hid (∀ z ∈ zs, 0 ≤ z ∧ z < 4294967296) := hb
  have HB' : Hid (∀ z ∈ ys, 0 ≤ z ∧ z < 4294967296) := hb'
  obtain ⟨s, hs⟩ : ∃ s, max 1 step = s := ⟨_, rfl⟩
  have p0 : 1 ≤ s := by omega
  have p1 : s ≤ 4294967296 := by omega
  have hm : (if (1 : Int) < step then step else 1) = s := by rw [← hs]; split <;> omega
  clear hl1 hb hb' hs
  go_enter Try.func4, Try.ntmps4
  go_wp2_with fail
  refine (awake_calls _).mono ?_
  rintro e w1 ⟨rfl, B1⟩
  go_wp2_with fail
  refine (new_calls s early _).mono ?_
  rintro e w2 ⟨rfl, C2, B2⟩
  clear hm q1
  go_wp2
  go_loopw [11, 32] (fun tv iv wr => ∃ (k : Nat) (t T : Int), k ≤ len ∧ iv = .int .i64 k ∧ tv = .int .i64 t ∧ 0 ≤ t ∧ t ≤ 8589934592 * (k : Int) ∧ 0 ≤ T ∧ T ≤ t + s ∧ BC wr w1.heap.size s early T ∧ Below w1.heap.size w1 wr) (fun _ iv _ => len - (intOf iv).toNat)
  case atStart => exact ⟨0, 0, 0, Nat.zero_le _, rfl, rfl, by decide, by decide, by decide, by omega, C2, B2⟩
  case round =>
    obtain ⟨k, t, T, hk, rfl, rfl, t0, t1, T0, T1, C3, b3⟩ := hrel
    have B3 : Below w.heap.size w _ := B1.trans (b3.mono B1.size)
    have t2 : t ≤ 2576980377600 := by omega
    have HT : Hid (t ≤ 8589934592 * (k : Int)) := t1
    clear C2 B2 t1
    by_cases hlt : k < len
    · obtain ⟨b, off, x, rfl, hb, hx, c1⟩ := (hL.below B3 (Nat.le_refl _)).at hlt
      have ⟨x0, x1⟩ := HB.out x (List.mem_of_getElem? hx)
      clear hx hL hL'
      have f1 : fitN early T (t + (s + x)) = true := by rw [fitN_plain e0 (by omega) (by omega) (by omega)]; simp; omega
      have HN : Hid (nextN s T (t + (s + x)) = t + (s + x) + s) := by show _ = _; rw [nextN_plain p0 (by omega) (by omega) (by omega)]; omega
      go_wp2_with fail
      refine (take_yes w1.heap.size s early T (t + (s + x)) _ C3 (by omega) (by omega) f1).mono ?_
      rintro e w5 ⟨rfl, C5, b5⟩
      rw [HN.out] at C5
      have b15 := b3.trans (b5.below (Nat.le_of_lt C3.lt) (Nat.le_refl _))
      clear C3 b3 b5 c1
      go_wp2
      go_roundw
      case rel => exact ⟨k + 1, t + (s + x), _, by omega, by go_num, rfl, by omega, by have := HT.out; omega, by omega, by omega, C5, b15⟩
      case measure => simp [intOf]; omega
    · obtain rfl : k = len := by omega
      clear hL HT hlt hk C3 T1 T0 t2 t0
      go_wp2_with fail
      refine (new_calls s 0 _).mono ?_
      rintro e w4 ⟨rfl, C4, B4⟩
      have r1 : w.heap.size ≤ wr.heap.size := B3.size
      have BW : Below w.heap.size w w4 := B3.trans (B4.mono r1)
      obtain ⟨q, hq⟩ : ∃ q, wr.heap.size = q := ⟨_, rfl⟩
      rw [hq] at C4 r1 ⊢
      clear B4 b3 B3 hq
      go_wp2
      go_loopw [11, 53] (fun tv iv wr => ∃ (j : Nat) (t T : Int), j ≤ k ∧ iv = .int .i64 j ∧ tv = .int .i64 t ∧ 0 ≤ t ∧ t ≤ 4294967296 * (j : Int) ∧ 0 ≤ T ∧ T ≤ t ∧ BC wr q s 0 T ∧ Below q w4 wr) (fun _ iv _ => k - (intOf iv).toNat)
      case atStart => exact ⟨0, 0, 0, Nat.zero_le _, rfl, rfl, by decide, by decide, by decide, by decide, C4, Below.refl _ _⟩
      case round =>
        obtain ⟨j, t, T, hj, rfl, rfl, t0, t1, T0, T1, C5, b5⟩ := hrel
        have B5 : Below w.heap.size w _ := BW.trans (b5.mono r1)
        have t2 : t ≤ 1288490188800 := by omega
        have HT : Hid (t ≤ 4294967296 * (j : Int)) := t1
        clear C4 t1
        by_cases hlt : j < k
        · have f1 : fitN 0 T t = true := by rw [fitN_plain (by decide) (by decide) t0 (by omega)]; simp; omega
          have HN : Hid (nextN s T t = t + s) := by show _ = _; rw [nextN_plain p0 (by omega) t0 (by omega)]; omega
          by_cases hl' : j < len'
          · obtain ⟨b, off, x, rfl, hb, hx, c1⟩ := (hL'.below B5 (Nat.le_refl _)).at hl'
            have ⟨x0, x1⟩ := HB'.out x (List.mem_of_getElem? hx)
            clear hx hL'
            obtain ⟨m, hm⟩ : ∃ m, x.tmod s = m := ⟨_, rfl⟩
            have m0 : 0 ≤ m := by rw [← hm]; exact Int.tmod_nonneg s x0
            have m1 : m < s := by rw [← hm]; exact Int.tmod_lt_of_pos x (by omega)
            have f2 : fitN 0 (t + s) (t + m) = false := by rw [fitN_plain (by decide) (by decide) (by omega) (by omega)]; simp; omega
            go_wp2_with fail
            refine (take_yes q s 0 T t _ C5 T0 (by omega) f1).mono ?_
            rintro e w6 ⟨rfl, C6, b6⟩
            rw [HN.out] at C6
            have b16 := b5.trans (b6.below (Nat.le_of_lt C5.lt) (Nat.le_refl _))
            have c2 : w6.cell? ⟨b, off + j, none⟩ = some (.int .u32 x) := ((b6.below (m := w.heap.size) (by have := C5.lt; omega) r1).cell (p := ⟨b, off + j, none⟩) hb).trans c1
            clear C5 b5 b6 c1
            go_wp2_with fail
            refine (take_no q s 0 (t + s) (t + m) _ C6 (by omega) (by omega) f2).mono ?_
            rintro e w7 ⟨rfl, b7⟩
            have C7 := C6.below b7 C6.lt
            have b17 := b16.trans (b7.mono (Nat.le_of_lt C6.lt))
            clear C6 b16 b7 c2 hm m0 m1
            go_wp2
            go_roundw
            case rel => exact ⟨j + 1, t + s, t + s, by omega, by go_num, rfl, by omega, by have := HT.out; omega, by omega, by omega, C7, b17⟩
            case measure => simp [intOf]; omega
          · clear hL'
            go_wp2_with fail
            refine (take_yes q s 0 T t _ C5 T0 (by omega) f1).mono ?_
            rintro e w6 ⟨rfl, C6, b6⟩
            rw [HN.out] at C6
            have b16 := b5.trans (b6.below (Nat.le_of_lt C5.lt) (Nat.le_refl _))
            clear C5 b5 b6
            go_wp2
            go_roundw
            case rel => exact ⟨j + 1, t + s, t + s, by omega, by go_num, rfl, by omega, by have := HT.out; omega, by omega, by omega, C6, b16⟩
            case measure => simp [intOf]; omega
        · obtain rfl : j = k := by omega
          go_wp2
          go_ret
          exact ⟨rfl, B5⟩
end Go.Proofs.Ytkndejpklibkfaa
