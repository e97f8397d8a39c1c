/- Proved here: the walk of the law RateBack. Conditions: as each theorem states them. -/
import Derived.Test.YtlljgmmohikhlaaAw
namespace Go.Proofs.Ytlljgmmohikhlaa
set_option linter.unusedSimpArgs false
set_option linter.unusedVariables false
open Go.RowKit Go.Shelf

set_option maxHeartbeats 2000000 in
theorem back_walk (x : Int) (hx : (Lit.int .u16 x).wf = true) (w : World) :
    Calls Try.prog 6 #[.int .u16 x] w fun e w' => e = .returned (.bool true) ∧ Below w.heap.size w w' := by
  obtain ⟨c, rfl, hcb⟩ := code_nat hx
  have hcr := right_calls c hcb w
  have hcv := value_calls c hcb w
  have hcs := scaled_calls c hcb w
  have hle := scN_le c
  obtain ⟨r, er⟩ : ∃ r, riB c = r := ⟨_, rfl⟩
  obtain ⟨s, es⟩ : ∃ s, scN c = s := ⟨_, rfl⟩
  obtain ⟨v, ev⟩ : ∃ v, scN c / 512 = v := ⟨_, rfl⟩
  rw [er] at hcr
  rw [ev] at hcv
  rw [es] at hcs hle
  have hsi : (s : Int) ≤ 2196875771904 := by omega
  have hvi : (v : Int) ≤ 2196875771904 := by omega
  have hwf : (Lit.int .i64 (v : Int)).wf = true := wf_i64 (by omega) (by omega)
  have ES : Hid (scN c = s) := es
  have EV : Hid (scN c / 512 = v) := ev
  have ER : Hid (riB c = r) := er
  clear er es ev hle hx
  by_cases hr : r = false
  · subst hr
    go_enter Try.func6, Try.ntmps6
    go_wp2_with fail
    refine (awake_calls _).mono ?_
    rintro e w1 ⟨rfl, rfl⟩
    go_wp2_with fail
    refine hcr.mono ?_
    rintro e w1 ⟨rfl, rfl⟩
    go_wp2
    go_ret
    exact ⟨rfl, Below.refl _ _⟩
  · obtain rfl : r = true := by simpa using hr
    clear hr
    go_enter Try.func6, Try.ntmps6
    go_wp2_with fail
    refine (awake_calls _).mono ?_
    rintro e w1 ⟨rfl, rfl⟩
    go_wp2_with fail
    refine hcr.mono ?_
    rintro e w1 ⟨rfl, rfl⟩
    go_wp2_with fail
    refine hcv.mono ?_
    rintro e w1 ⟨rfl, rfl⟩
    go_wp2_with fail
    refine (code_calls (v : Int) hwf _).mono ?_
    rintro e w1 ⟨⟨d, rfl, hd⟩, rfl⟩
    have hd2 := hd
    rw [← EV.out] at hd2
    have hdc : (d : Int) ≤ (c : Int) := by have := back_le ER.out hd2; omega
    have hdb : d < 65536 := by have := (isC_right hd).2; omega
    have HW : Hid (scN c % 512 = 0 → d = c) := back_whole ER.out hd2
    have HV : Hid (scN d / 512 = v) := by have := back_value ER.out hd2; rw [← EV.out]; exact this
    clear hd hd2 hwf
    go_wp2_with fail
    refine hcs.mono ?_
    rintro e w1 ⟨rfl, rfl⟩
    have hcvd := value_calls d hdb w1
    rw [HV.out] at hcvd
    by_cases hw : (s : Int) % 512 = 0
    · obtain rfl : d = c := HW.out (by rw [ES.out]; omega)
      clear HW
      go_wp2_with fail
      refine hcv.mono ?_
      rintro e w1 ⟨rfl, rfl⟩
      go_wp2_with fail
      refine hcv.mono ?_
      rintro e w1 ⟨rfl, rfl⟩
      go_wp2
      go_ret
      exact ⟨rfl, Below.refl _ _⟩
    · have hw2 : ((s : Int) % 512 == 0) = false := by simp; omega
      go_wp2_with fail
      refine hcvd.mono ?_
      rintro e w1 ⟨rfl, rfl⟩
      go_wp2_with fail
      refine hcv.mono ?_
      rintro e w1 ⟨rfl, rfl⟩
      go_wp2
      go_ret
      exact ⟨rfl, Below.refl _ _⟩
end Go.Proofs.Ytlljgmmohikhlaa
