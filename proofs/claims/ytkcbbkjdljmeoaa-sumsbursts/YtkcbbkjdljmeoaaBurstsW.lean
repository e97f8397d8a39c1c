/- Proved here: the walk of SumsBursts. Conditions: as each theorem states them. -/
import Derived.Test.YtkcbbkjdljmeoaaBurst
namespace Go.Proofs.Ytkcbbkjdljmeoaa
open Go.RowKit

theorem ne_of_iff {a b : Nat} {c : Bool} (h : a = b ↔ c = false) : (((a : Nat) : Int) != ((b : Nat) : Int)) = c := by
  cases c with
  | false => have := h.2 rfl; subst this; simp
  | true =>
    have : a ≠ b := fun e => by have := h.1 e; cases this
    rw [bne_iff_ne]; omega

set_option maxHeartbeats 2000000 in
theorem bursts_walk (a1 : Option Addr) (len cap1 : Nat) (xs : List UInt8) (t y : Nat) (ht : t < 18446744073709551616) (hy : y < 4294967296) (w : World) (h1 : IsB w.heap.size w a1 len xs) (n1 : a1 = none → cap1 = 0) :
    Calls Try.prog 4 #[.slice a1 len cap1, .int .u64 t, .int .u32 y] w fun e w' => e = .returned (.bool true) ∧ Below w.heap.size w w' := by
  by_cases hl1 : 300 < len
  · go_enter Try.func4, Try.ntmps4
    go_wp2_with fail
    refine (awake_calls _).mono ?_
    rintro e w1 ⟨rfl, hb1⟩
    go_wp2_with fail
    refine (awake_calls _).mono ?_
    rintro e w2 ⟨rfl, hb2⟩
    go_wp2
    go_ret
    exact ⟨rfl, hb1.trans (hb2.mono hb1.size)⟩
  have q1 : decide (300 < (len : Int)) = false := by simp; omega
  by_cases hl0 : len = 0
  · have q2 : ((len : Int) == 0) = true := by simp [hl0]
    clear hl0 hl1
    go_enter Try.func4, Try.ntmps4
    go_wp2_with fail
    refine (awake_calls _).mono ?_
    rintro e w1 ⟨rfl, hb1⟩
    go_wp2_with fail
    refine (awake_calls _).mono ?_
    rintro e w2 ⟨rfl, hb2⟩
    go_wp2
    go_ret
    exact ⟨rfl, hb1.trans (hb2.mono hb1.size)⟩
  have q2 : ((len : Int) == 0) = false := beq_eq_false_iff_ne.2 (by omega)
  have hpos : 0 < len := by omega
  have hl : len ≤ 300 := by omega
  clear hl0 hl1
  have m1 : xs.length ≤ maxLen := by rw [← h1.1]; unfold maxLen; omega
  obtain ⟨p, hp⟩ : ∃ p, t % (8 * len) = p := ⟨_, rfl⟩
  have B8 := burst_length xs p y 8
  have B10 := burst_length xs p y 10
  have B32 := burst_length xs p y 32
  have m8 : (burstTo xs p y 8).length ≤ maxLen := by rw [B8]; exact m1
  have m10 : (burstTo xs p y 10).length ≤ maxLen := by rw [B10]; exact m1
  have m32 : (burstTo xs p y 32).length ≤ maxLen := by rw [B32]; exact m1
  have t8 := ne_of_iff (eight_burst xs p y)
  have t10 := ne_of_iff (ten_burst xs p y)
  have t32 := ne_of_iff (long_burst xs p y)
  clear B8 B10 B32
  have HP : Hid (t % (8 * len) = p) := hp
  clear hp
  go_enter Try.func4, Try.ntmps4
  go_wp2_with fail
  refine (awake_calls _).mono ?_
  rintro e w1 ⟨rfl, D1⟩
  go_wp2_with fail
  refine (burst_calls a1 len cap1 xs _ (h1.below D1 (Nat.le_refl _)) D1.size n1 hpos hl t y 8 ht hy (by decide)).mono ?_
  rintro e w2 ⟨a2, c2, rfl, o2, b2⟩
  rw [HP.out] at o2 ⊢
  have D2 := D1.trans (b2.mono D1.size)
  go_wp2_with fail
  refine (burst_calls a1 len cap1 xs _ (h1.below D2 (Nat.le_refl _)) D2.size n1 hpos hl t y 10 ht hy (by decide)).mono ?_
  rintro e w3 ⟨a3, c3, rfl, o3, b3⟩
  rw [HP.out] at o3 ⊢
  have D3 := D2.trans (b3.mono D2.size)
  go_wp2_with fail
  refine (burst_calls a1 len cap1 xs _ (h1.below D3 (Nat.le_refl _)) D3.size n1 hpos hl t y 32 ht hy (by decide)).mono ?_
  rintro e w4 ⟨a4, c4, rfl, o4, b4⟩
  rw [HP.out] at o4 ⊢
  have D4 := D3.trans (b4.mono D3.size)
  have f24 : Below w2.heap.size w2 w4 := b3.trans (b4.mono b3.size)
  go_wp2_with fail
  refine (eight_calls _ _ _ _ m8 _ (o2.isB.1.below f24 (Nat.le_refl _)) f24.size).mono ?_
  rintro e w5 ⟨rfl, b5⟩
  have D5 := D4.trans (b5.mono D4.size)
  have f35 : Below w3.heap.size w3 w5 := b4.trans (b5.mono b4.size)
  go_wp2_with fail
  refine (eight_calls _ _ _ _ m1 _ (h1.below D5 (Nat.le_refl _)) D5.size).mono ?_
  rintro e w6 ⟨rfl, b6⟩
  have D6 := D5.trans (b6.mono D5.size)
  have f36 := f35.trans (b6.mono f35.size)
  go_wp2_with fail
  refine (ten_calls _ _ _ _ m10 _ (o3.isB.1.below f36 (Nat.le_refl _)) f36.size).mono ?_
  rintro e w7 ⟨rfl, b7⟩
  have D7 := D6.trans (b7.mono D6.size)
  go_wp2_with fail
  refine (ten_calls _ _ _ _ m1 _ (h1.below D7 (Nat.le_refl _)) D7.size).mono ?_
  rintro e w8 ⟨rfl, b8⟩
  have D8 := D7.trans (b8.mono D7.size)
  have f48 : Below w4.heap.size w4 w8 := b5.trans ((b6.trans ((b7.trans (b8.mono b7.size)).mono b6.size)).mono b5.size)
  go_wp2_with fail
  refine (long_calls _ _ _ _ m32 _ (o4.isB.1.below f48 (Nat.le_refl _)) f48.size).mono ?_
  rintro e w9 ⟨rfl, b9⟩
  have D9 := D8.trans (b9.mono D8.size)
  go_wp2_with fail
  refine (long_calls _ _ _ _ m1 _ (h1.below D9 (Nat.le_refl _)) D9.size).mono ?_
  rintro e w10 ⟨rfl, b10⟩
  go_wp2
  go_ret
  exact ⟨rfl, D9.trans (b10.mono D9.size)⟩
end Go.Proofs.Ytkcbbkjdljmeoaa
