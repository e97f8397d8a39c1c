/- Proved here: the walk of SumsTell. Conditions: as each theorem states them. -/
import Derived.Test.YtkcbbkjdljmeoaaRef
namespace Go.Proofs.Ytkcbbkjdljmeoaa
open Go.RowKit

set_option maxHeartbeats 2000000 in
theorem tell_walk (a1 : Option Addr) (len cap1 : Nat) (xs : List UInt8) (x : Nat) (w : World) (h1 : IsB w.heap.size w a1 len xs) (hcap : len ≤ cap1) :
    Calls Try.prog 3 #[.slice a1 len cap1, .int .u8 x] w fun e w' => e = .returned (.bool true) ∧ Below w.heap.size w w' := by
  by_cases hl1 : 300 < len
  · go_enter Try.func3, Try.ntmps3
    go_wp2_with fail
    refine (awake_calls _).mono ?_
    rintro e w1 ⟨rfl, hb1⟩
    go_wp2_with fail
    refine (awake_calls _).mono ?_
    rintro e w2 ⟨rfl, hb2⟩
    go_wp2
    go_ret
    exact ⟨rfl, hb1.trans (hb2.mono hb1.size)⟩
  have q1 : decide (300 < (len : Int)) = false := by simp; omega
  have hl : len ≤ 300 := by omega
  clear hl1
  have m1 : xs.length ≤ maxLen := by rw [← h1.1]; unfold maxLen; omega
  go_enter Try.func3, Try.ntmps3
  go_wp2_with fail
  refine (awake_calls _).mono ?_
  rintro e w1 ⟨rfl, D1⟩
  go_wp2_with fail
  refine (bit_calls x _).mono ?_
  rintro e w2 ⟨rfl, b2⟩
  have D2 := D1.trans (b2.mono D1.size)
  go_wp2_with fail
  refine (refbit_calls x _).mono ?_
  rintro e w3 ⟨rfl, b3⟩
  have D3 := D2.trans (b3.mono D2.size)
  go_wp2_with fail
  refine (eight_calls _ _ _ _ m1 _ (h1.below D3 (Nat.le_refl _)) D3.size).mono ?_
  rintro e w4 ⟨rfl, b4⟩
  have D4 := D3.trans (b4.mono D3.size)
  go_wp2_with fail
  refine (refeight_calls _ _ _ _ _ (h1.below D4 (Nat.le_refl _)) D4.size hl).mono ?_
  rintro e w5 ⟨rfl, b5⟩
  have D5 := D4.trans (b5.mono D4.size)
  go_wp2_with fail
  refine (ten_calls _ _ _ _ m1 _ (h1.below D5 (Nat.le_refl _)) D5.size).mono ?_
  rintro e w6 ⟨rfl, b6⟩
  have D6 := D5.trans (b6.mono D5.size)
  go_wp2_with fail
  refine (reften_calls _ _ _ _ _ (h1.below D6 (Nat.le_refl _)) D6.size hl).mono ?_
  rintro e w7 ⟨rfl, b7⟩
  have D7 := D6.trans (b7.mono D6.size)
  go_wp2_with fail
  refine (long_calls _ _ _ _ m1 _ (h1.below D7 (Nat.le_refl _)) D7.size).mono ?_
  rintro e w8 ⟨rfl, b8⟩
  have D8 := D7.trans (b8.mono D7.size)
  go_wp2_with fail
  refine (reflong_calls _ _ _ _ _ (h1.below D8 (Nat.le_refl _)) D8.size hl).mono ?_
  rintro e w9 ⟨rfl, b9⟩
  have D9 := D8.trans (b9.mono D8.size)
  go_wp2_with fail
  refine (syndrome_calls _ _ _ _ hcap m1 _ (h1.below D9 (Nat.le_refl _)) D9.size).mono ?_
  rintro e w10 ⟨rfl, b10⟩
  have D10 := D9.trans (b10.mono D9.size)
  go_wp2_with fail
  refine (refsyn_calls _ _ _ _ hcap hl _ (h1.below D10 (Nat.le_refl _)) D10.size).mono ?_
  rintro e w11 ⟨rfl, b11⟩
  have D11 := D10.trans (b11.mono D10.size)
  cases hb : bitN x with
  | none =>
    have e1 : bitI x = -1 := by unfold bitI; rw [hb]
    rw [e1]
    clear e1
    go_wp2
    go_ret
    exact ⟨rfl, D11⟩
  | some k =>
    have e1 : bitI x = k := by unfold bitI; rw [hb]
    rw [e1]
    clear e1
    go_wp2
    go_ret
    exact ⟨rfl, D11⟩
end Go.Proofs.Ytkcbbkjdljmeoaa
