/- Proved here: what Code of rate answers. Conditions: as each theorem states them. -/
import Derived.Test.YtlljgmmohikhlaaFn
import Derived.Handy
namespace Go.Proofs.Ytlljgmmohikhlaa
set_option linter.unusedSimpArgs false
set_option linter.unusedVariables false
open Go.RowKit Go.Shelf

theorem shl2_wrap (e : Nat) (he : e ≤ 31) : wrap64 (2 * 2 ^ e) = ((2 ^ (e + 1) : Nat) : Int) := by
  have hle : 2 ^ (e + 1) ≤ 4294967296 := Nat.pow_le_pow_right (n := 2) (by decide) (show e + 1 ≤ 32 by omega)
  rw [show (2 : Int) * 2 ^ e = ((2 ^ (e + 1) : Nat) : Int) by rw [Nat.pow_succ, Nat.mul_comm]; simp]
  obtain ⟨p, hp⟩ : ∃ p, 2 ^ (e + 1) = p := ⟨_, rfl⟩
  rw [hp] at hle ⊢
  unfold wrap64; omega

set_option maxHeartbeats 1000000 in
theorem exponent_calls (r : Nat) (h1 : 1 ≤ r) (hr : r ≤ 4290772992) (w : World) : Calls Try.prog 19 #[.int .i64 r] w fun e w' => (∃ x : Nat, e = .returned (.int .i64 x) ∧ IsE r x) ∧ w' = w := by
  go_enter Try.func19, Try.ntmps19
  go_wp2
  go_step3
  go_wp2
  go_step3
  go_wp2
  go_loopw [3] (fun ev wr => ∃ (e : Nat), e ≤ 31 ∧ ev = .int .i64 e ∧ Hid (2 ^ e ≤ r) ∧ wr = w) (fun ev _ => 31 - (intOf ev).toNat)
  case atStart => exact ⟨0, by omega, rfl, h1, rfl⟩
  case round =>
    obtain ⟨e, he, rfl, hp, rfl⟩ := hrel
    by_cases h31 : e = 31
    · subst h31
      go_wp2
      rw [Exit.noGoto_ret]
      go_returns
      exact ⟨⟨31, rfl, by omega, hp, .inl rfl⟩, rfl⟩
    · have hlt : e < 31 := by omega
      have hsh := shl2_wrap e he
      obtain ⟨P, hP⟩ : ∃ P, 2 ^ (e + 1) = P := ⟨_, rfl⟩
      rw [hP] at hsh
      have HP : Hid (2 ^ (e + 1) = P) := hP
      clear h31 hP
      by_cases hr : r < P
      · go_wp2
        rw [Exit.noGoto_ret]
        go_returns
        exact ⟨⟨e, rfl, by omega, hp, .inr (by rw [HP]; exact hr)⟩, rfl⟩
      · go_wp2
        go_roundw
        case rel => exact ⟨e + 1, by omega, by go_num, by show 2 ^ (e + 1) ≤ r; rw [HP]; omega, trivial⟩
        case measure => simp [intOf]; omega

theorem code_word {A : Int} {q x : Nat} (hA : A = (q : Int)) (h1 : 512 ≤ q) (h2 : q < 1024) (hx : x ≤ 31) :
    IntKind.u16.wrap (bits .or .i64 (bits .or .i64 16384 ((x : Int) * 512)) (wrap64 (A - 512))) = ((16384 + x * 512 + (q - 512) : Nat) : Int) := by
  subst hA
  rw [show wrap64 ((q : Int) - 512) = ((q - 512 : Nat) : Int) by unfold wrap64; omega]
  rw [bits_join .i64 63 (by decide) wraps_i64 14 16384 ((x : Int) * 512) (by decide) (by decide) (by decide) (by omega) (by omega) (by omega)]
  rw [bits_join .i64 63 (by decide) wraps_i64 9 (16384 + (x : Int) * 512) ((q - 512 : Nat) : Int) (by omega) (by omega) (by omega) (by omega) (by omega) (by omega)]
  rw [wraps_u16 _ (by omega) (by omega)]
  omega
theorem top_div (x : Nat) : (2196875771904 : Int) / 2 ^ x = ((2196875771904 / 2 ^ x : Nat) : Int) := by simp

set_option maxHeartbeats 1000000 in
theorem code_calls (n : Int) (hn : (Lit.int .i64 n).wf = true) (w : World) : Calls Try.prog 17 #[.int .i64 n] w fun e w' => (∃ c : Nat, e = .returned (.int .u16 c) ∧ IsC n c) ∧ w' = w := by
  have ⟨n0, n1⟩ := bounds_i64 hn
  by_cases h1 : n < 1
  · go_enter Try.func17, Try.ntmps17
    go_wp2
    go_ret
    exact ⟨⟨0, rfl, .inl ⟨h1, rfl⟩⟩, rfl⟩
  · by_cases h2 : n ≤ 4290772992
    · obtain ⟨r, rfl⟩ := Int.eq_ofNat_of_zero_le (show 0 ≤ n by omega)
      go_enter Try.func17, Try.ntmps17
      go_wp2_with fail
      refine (value_calls 32767 (by decide) _).mono ?_
      rintro e w1 ⟨rfl, rfl⟩
      rw [show ((scN 32767 / 512 : Nat) : Int) = 4290772992 by decide]
      go_wp2_with fail
      refine (exponent_calls r (by omega) (by omega) _).mono ?_
      rintro e w1 ⟨⟨x, rfl, hx⟩, rfl⟩
      have hx31 : x ≤ 31 := hx.1
      go_wp2
      go_ret
      obtain ⟨q1, q2, hC⟩ := isC_of_e (r := r) (n := r) (by omega) (by omega) hx
      exact ⟨⟨_, ret_u (code_word (by simp) q1 q2 hx31), hC⟩, rfl⟩
    · go_enter Try.func17, Try.ntmps17
      go_wp2_with fail
      refine (value_calls 32767 (by decide) _).mono ?_
      rintro e w1 ⟨rfl, rfl⟩
      rw [show ((scN 32767 / 512 : Nat) : Int) = 4290772992 by decide]
      go_wp2_with fail
      refine (exponent_calls 4290772992 (by omega) (by omega) _).mono ?_
      rintro e w1 ⟨⟨x, rfl, hx⟩, rfl⟩
      have hx31 : x ≤ 31 := hx.1
      go_wp2
      go_ret
      obtain ⟨q1, q2, hC⟩ := isC_of_e (r := 4290772992) (n := n) (by omega) (by omega) hx
      rw [show 4290772992 * 512 = 2196875771904 by rfl] at q1 q2 hC
      have ht := top_div x
      obtain ⟨q, hq⟩ : ∃ q, 2196875771904 / 2 ^ x = q := ⟨_, rfl⟩
      rw [hq] at q1 q2 hC ht
      exact ⟨⟨_, ret_u (code_word ht q1 q2 hx31), hC⟩, rfl⟩
end Go.Proofs.Ytlljgmmohikhlaa
