/- Proved here: the walk of the law RateTells. Conditions: as each theorem states them. -/
import Derived.Test.YtlljgmmohikhlaaAw
namespace Go.Proofs.Ytlljgmmohikhlaa
set_option linter.unusedSimpArgs false
set_option linter.unusedVariables false
open Go.RowKit Go.Shelf

set_option maxHeartbeats 2000000 in
theorem tells_walk (a n : Int) (ha : (Lit.int .u16 a).wf = true) (hn : (Lit.int .i64 n).wf = true) (w : World) :
    Calls Try.prog 3 #[.int .u16 a, .int .i64 n] w fun e w' => e = .returned (.bool true) ∧ Below w.heap.size w w' := by
  obtain ⟨c, rfl, hc⟩ := code_nat ha
  obtain ⟨s, hs⟩ : ∃ s, scN c = s := ⟨_, rfl⟩
  obtain ⟨v, hv⟩ : ∃ v, scN c / 512 = v := ⟨_, rfl⟩
  obtain ⟨t, ht⟩ : ∃ t, stN c = t := ⟨_, rfl⟩
  have hle := scN_le c
  rw [hs] at hle
  have hvi : (s : Int) / 512 = (v : Int) := by omega
  have hsi : (s : Int) ≤ 2196875771904 := by omega
  have HS : Hid (scN c = s) := hs
  have HV : Hid (scN c / 512 = v) := hv
  have HT : Hid (stN c = t) := ht
  clear hs hv ht hle
  go_enter Try.func3, Try.ntmps3
  go_wp2_with fail
  refine (awake_calls _).mono ?_
  rintro e w1 ⟨rfl, rfl⟩
  go_wp2_with fail
  refine (right_calls c hc _).mono ?_
  rintro e w1 ⟨rfl, rfl⟩
  go_wp2_with fail
  refine (refright_calls c hc _).mono ?_
  rintro e w1 ⟨rfl, rfl⟩
  go_wp2_with fail
  refine (scaled_calls c hc _).mono ?_
  rintro e w1 ⟨rfl, rfl⟩
  rw [HS.out]
  go_wp2_with fail
  refine (refscaled_calls c hc _).mono ?_
  rintro e w1 ⟨rfl, rfl⟩
  rw [HS.out]
  go_wp2_with fail
  refine (value_calls c hc _).mono ?_
  rintro e w1 ⟨rfl, rfl⟩
  rw [HV.out]
  go_wp2_with fail
  refine (refscaled_calls c hc _).mono ?_
  rintro e w1 ⟨rfl, rfl⟩
  rw [HS.out]
  go_wp2_with fail
  refine (step_calls c hc _).mono ?_
  rintro e w1 ⟨rfl, rfl⟩
  rw [HT.out]
  go_wp2_with fail
  refine (refstep_calls c hc _).mono ?_
  rintro e w1 ⟨rfl, rfl⟩
  rw [HT.out]
  go_wp2_with fail
  refine (code_calls n hn _).mono ?_
  rintro e w1 ⟨⟨d, rfl, hd⟩, rfl⟩
  go_wp2_with fail
  refine (refcode_calls n hn _).mono ?_
  rintro e w1 ⟨⟨d2, rfl, hd2⟩, rfl⟩
  obtain rfl := isC_unique hd hd2
  have hdb : (d : Int) ≤ 32767 := by have := (isC_right hd).2; omega
  clear hd hd2
  go_wp2
  go_ret
  exact ⟨ret_b (by rw [show wrap64 (d : Int) = (d : Int) by unfold wrap64; omega]; simp), Below.refl _ _⟩
end Go.Proofs.Ytlljgmmohikhlaa
