/- Proved here: the walk of the law RateSteps. Conditions: as each theorem states them. -/
import Derived.Test.YtlljgmmohikhlaaAw
namespace Go.Proofs.Ytlljgmmohikhlaa
set_option linter.unusedSimpArgs false
set_option linter.unusedVariables false
open Go.RowKit Go.Shelf

set_option maxHeartbeats 2000000 in
theorem steps_walk (x : Int) (hx : (Lit.int .u16 x).wf = true) (w : World) :
    Calls Try.prog 7 #[.int .u16 x] w fun e w' => e = .returned (.bool true) ∧ Below w.heap.size w w' := by
  obtain ⟨c, rfl, hcb⟩ := code_nat hx
  have hcv := value_calls c hcb w
  have hcs := scaled_calls c hcb w
  have hct := step_calls c hcb w
  have hle := scN_le c
  have hz : scN c = 0 → stN c = 1152921504606846976 := stN_zero
  have hf : 0 < scN c → 1 ≤ stN c ∧ 536870912 ≤ stN c * scN c ∧ (stN c - 1) * scN c < 536870912 ∧ stN c * scN c < 536870912 + scN c := stN_fits
  obtain ⟨n, en⟩ : ∃ n, scN c = n := ⟨_, rfl⟩
  obtain ⟨s, es⟩ : ∃ s, stN c = s := ⟨_, rfl⟩
  rw [en] at hcv hcs hle hz hf
  rw [es] at hct hz hf
  clear hx en es
  by_cases h0 : n = 0
  · subst h0
    obtain rfl := hz rfl
    clear hz hf hle
    go_enter Try.func7, Try.ntmps7
    go_wp2_with fail
    refine (awake_calls _).mono ?_
    rintro e w1 ⟨rfl, rfl⟩
    go_wp2_with fail
    refine hct.mono ?_
    rintro e w1 ⟨rfl, rfl⟩
    go_wp2_with fail
    refine hcs.mono ?_
    rintro e w1 ⟨rfl, rfl⟩
    go_wp2_with fail
    refine hcv.mono ?_
    rintro e w1 ⟨rfl, rfl⟩
    go_wp2
    go_ret
    exact ⟨rfl, Below.refl _ _⟩
  · obtain ⟨f1, f2, f3, f4⟩ := hf (by omega)
    obtain ⟨P, hP⟩ : ∃ P, s * n = P := ⟨_, rfl⟩
    obtain ⟨R, hR⟩ : ∃ R, (s - 1) * n = R := ⟨_, rfl⟩
    have hPi : (s : Int) * (n : Int) = (P : Int) := by rw [← hP]; simp
    have hRi : ((s : Int) - 1) * (n : Int) = (R : Int) := by rw [← hR, Int.natCast_mul]; congr 1; omega
    rw [hP] at f2 f4
    rw [hR] at f3
    have hn0 : ((n : Int) == 0) = false := by simp; omega
    have hs : (s : Int) ≤ 1152921504606846976 := by
      have h1 : s * 1 ≤ s * n := Nat.mul_le_mul_left _ (by omega)
      omega
    have g1 : 1 ≤ (s : Int) := by omega
    have g2 : 536870912 ≤ (P : Int) := by omega
    have g3 : (R : Int) < 536870912 := by omega
    have g4 : (P : Int) ≤ 2197412642816 := by omega
    clear hz hf hle h0 hP hR f1 f2 f3 f4
    go_enter Try.func7, Try.ntmps7
    go_wp2_with fail
    refine (awake_calls _).mono ?_
    rintro e w1 ⟨rfl, rfl⟩
    go_wp2_with fail
    refine hct.mono ?_
    rintro e w1 ⟨rfl, rfl⟩
    go_wp2_with fail
    refine hcs.mono ?_
    rintro e w1 ⟨rfl, rfl⟩
    go_wp2
    go_ret
    exact ⟨rfl, Below.refl _ _⟩
end Go.Proofs.Ytlljgmmohikhlaa
