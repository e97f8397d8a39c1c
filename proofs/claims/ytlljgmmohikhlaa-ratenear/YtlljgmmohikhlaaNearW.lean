/- Proved here: the walk of the law RateNear. Conditions: as each theorem states them. -/
import Derived.Test.YtlljgmmohikhlaaAw
namespace Go.Proofs.Ytlljgmmohikhlaa
set_option linter.unusedSimpArgs false
set_option linter.unusedVariables false
open Go.RowKit Go.Shelf

set_option maxHeartbeats 2000000 in
theorem near_walk (x : Int) (hx : (Lit.int .u32 x).wf = true) (w : World) :
    Calls Try.prog 5 #[.int .u32 x] w fun e w' => e = .returned (.bool true) ∧ Below w.heap.size w w' := by
  have hb := bounds_u32 hx
  obtain ⟨n, rfl⟩ := Int.eq_ofNat_of_zero_le hb.1
  have hn : (n : Int) ≤ 4294967295 := hb.2
  have hwf : (Lit.int .i64 (n : Int)).wf = true := wf_i64 (by omega) (by omega)
  clear hb hx
  go_enter Try.func5, Try.ntmps5
  go_wp2_with fail
  refine (awake_calls _).mono ?_
  rintro e w1 ⟨rfl, rfl⟩
  go_wp2_with fail
  refine (code_calls (n : Int) hwf _).mono ?_
  rintro e w1 ⟨⟨c, rfl, hc⟩, rfl⟩
  have hcb : c < 32768 := (isC_right hc).2
  have hv := near_le hc (by omega)
  obtain ⟨v, ev⟩ : ∃ v, scN c / 512 = v := ⟨_, rfl⟩
  rw [ev] at hv
  have EV : Hid (scN c / 512 = v) := ev
  have HC : Hid (IsC (n : Int) c) := hc
  have HV2 : Hid (n ≤ 512 → v = n) := fun h => by rw [← EV.out]; exact near_small HC.out h
  have HV3 : Hid (1 ≤ n → n ≤ 2147483648 → n < v + n / 512 + 1) := fun h1 h2 => by rw [← EV.out]; exact near_great HC.out h1 h2
  clear ev hc hwf
  go_wp2_with fail
  refine (value_calls c (by omega) _).mono ?_
  rintro e w1 ⟨rfl, rfl⟩
  rw [EV.out]
  by_cases h0 : n = 0
  · subst h0
    obtain rfl : c = 0 := by rcases HC.out with ⟨_, h⟩ | ⟨h, _⟩ <;> omega
    obtain rfl : v = 0 := HV2.out (by omega)
    clear HC HV2 HV3 EV hcb
    go_wp2
    go_ret
    exact ⟨rfl, Below.refl _ _⟩
  · have h0i : 0 < (n : Int) := by omega
    have h0z : ((n : Int) == 0) = false := by simp; omega
    have hq : (n : Int) - (n : Int) / 512 - 1 < (v : Int) ∨ 2147483648 < n := by
      by_cases h : n ≤ 2147483648
      · have := HV3.out (by omega) h; left; omega
      · right; omega
    have hvv : ((n : Int) < (v : Int)) = False := by simp; omega
    have hvv2 : (n < v) = False := by simp; omega
    have h512 : n ≤ 512 → v = n := HV2.out
    have hS : c < 32767 → 512 * (n : Int) < (scN (c + 1) : Int) := by
      intro h
      rcases HC.out with ⟨h, _⟩ | ⟨_, _, _, _, h | h⟩
      · omega
      · omega
      · exact h
    clear HV2 HV3 EV HC
    by_cases hc2 : c < 32767
    · have hcl := scaled_calls (c + 1) (by omega) w1
      have hs := hS hc2
      obtain ⟨s, es⟩ : ∃ s, scN (c + 1) = s := ⟨_, rfl⟩
      rw [es] at hs hcl
      rw [show (((c + 1 : Nat)) : Int) = (c : Int) + 1 by simp] at hcl
      have hsf : ((s : Int) ≤ 512 * (n : Int)) = False := eq_false (by omega)
      have hce : ((c : Int) < 32767) = True := eq_true (by omega)
      have hw1 : IntKind.u16.wrap ((c : Int) + 1) = (c : Int) + 1 := wraps_u16 _ (by omega) (by omega)
      clear es hc2 hs hS hcb
      go_wp2_with fail
      refine hcl.mono ?_
      rintro e w2 ⟨rfl, rfl⟩
      clear hcl
      by_cases g1 : n ≤ 512
      · obtain rfl : v = n := h512 g1
        have k1 : ((512 : Int) < (v : Int)) = False := by simp; omega
        have k2 : ((2147483648 : Int) < (v : Int)) = False := by simp; omega
        have k3 : ((v : Int) - (v : Int) / 512 - 1 < (v : Int)) = True := by simp; omega
        clear g1 h512 hq hvv hvv2 hv h0
        go_wp2
        go_ret
        exact ⟨rfl, Below.refl _ _⟩
      · have k1 : ((512 : Int) < (n : Int)) = True := by simp; omega
        by_cases g2 : n ≤ 2147483648
        · have k2 : ((2147483648 : Int) < (n : Int)) = False := by simp; omega
          have k3 : ((n : Int) - (n : Int) / 512 - 1 < (v : Int)) = True := eq_true (by omega)
          clear g1 g2 h512 hq hv h0
          go_wp2
          go_ret
          exact ⟨rfl, Below.refl _ _⟩
        · have k2 : ((2147483648 : Int) < (n : Int)) = True := by simp; omega
          clear g1 g2 h512 hq hv h0
          go_wp2
          go_ret
          exact ⟨rfl, Below.refl _ _⟩
    · have hce : ((c : Int) < 32767) = False := eq_false (by omega)
      clear hc2 hS hcb
      by_cases g1 : n ≤ 512
      · obtain rfl : v = n := h512 g1
        have k1 : ((512 : Int) < (v : Int)) = False := by simp; omega
        have k2 : ((2147483648 : Int) < (v : Int)) = False := by simp; omega
        have k3 : ((v : Int) - (v : Int) / 512 - 1 < (v : Int)) = True := by simp; omega
        clear g1 h512 hq hvv hvv2 hv h0
        go_wp2
        go_ret
        exact ⟨rfl, Below.refl _ _⟩
      · have k1 : ((512 : Int) < (n : Int)) = True := by simp; omega
        by_cases g2 : n ≤ 2147483648
        · have k2 : ((2147483648 : Int) < (n : Int)) = False := by simp; omega
          have k3 : ((n : Int) - (n : Int) / 512 - 1 < (v : Int)) = True := eq_true (by omega)
          clear g1 g2 h512 hq hv h0
          go_wp2
          go_ret
          exact ⟨rfl, Below.refl _ _⟩
        · have k2 : ((2147483648 : Int) < (n : Int)) = True := by simp; omega
          clear g1 g2 h512 hq hv h0
          go_wp2
          go_ret
          exact ⟨rfl, Below.refl _ _⟩
end Go.Proofs.Ytlljgmmohikhlaa
