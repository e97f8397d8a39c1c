/- Proved here: the walk of the law RateTwice. Conditions: as each theorem states them. -/
import Derived.Test.YtlljgmmohikhlaaAw
namespace Go.Proofs.Ytlljgmmohikhlaa
set_option linter.unusedSimpArgs false
set_option linter.unusedVariables false
open Go.RowKit Go.Shelf

theorem pow_wrap (e : Nat) (he : e ≤ 31) : wrap64 (2 ^ e) = ((2 ^ e : Nat) : Int) := by
  have hle := pow_le31 he
  rw [show (2 : Int) ^ e = ((2 ^ e : Nat) : Int) by simp]
  obtain ⟨p, hp⟩ : ∃ p, 2 ^ e = p := ⟨_, rfl⟩
  rw [hp] at hle ⊢
  unfold wrap64; omega

set_option maxRecDepth 1000000 in
set_option maxHeartbeats 2000000 in
theorem twice_walk (x : Int) (hx : (Lit.int .u16 x).wf = true) (w : World) :
    Calls Try.prog 8 #[.int .u16 x] w fun e w' => e = .returned (.bool true) ∧ Below w.heap.size w w' := by
  obtain ⟨c, rfl, hcb⟩ := code_nat hx
  have hcr := right_calls c hcb w
  obtain ⟨r, er⟩ : ∃ r, riB c = r := ⟨_, rfl⟩
  rw [er] at hcr
  have ER : Hid (riB c = r) := er
  clear er hx
  by_cases hr : r = false
  · subst hr
    go_enter Try.func8, Try.ntmps8
    go_wp2_with fail
    refine (awake_calls _).mono ?_
    rintro e w1 ⟨rfl, rfl⟩
    go_wp2_with fail
    refine hcr.mono ?_
    rintro e w1 ⟨rfl, rfl⟩
    go_wp2
    go_ret
    exact ⟨rfl, Below.refl _ _⟩
  · obtain rfl : r = true := by simpa using hr
    clear hr
    by_cases h0 : c = 0
    · subst h0
      go_enter Try.func8, Try.ntmps8
      go_wp2_with fail
      refine (awake_calls _).mono ?_
      rintro e w1 ⟨rfl, rfl⟩
      go_wp2_with fail
      refine hcr.mono ?_
      rintro e w1 ⟨rfl, rfl⟩
      go_wp2
      go_ret
      exact ⟨rfl, Below.refl _ _⟩
    · have hlo : 16384 ≤ c := by rcases riB_iff.1 ER.out with h | h <;> omega
      have hz : ((c : Int) == 0) = false := by simp; omega
      by_cases hhi : 32256 ≤ (c : Int)
      · go_enter Try.func8, Try.ntmps8
        go_wp2_with fail
        refine (awake_calls _).mono ?_
        rintro e w1 ⟨rfl, rfl⟩
        go_wp2_with fail
        refine hcr.mono ?_
        rintro e w1 ⟨rfl, rfl⟩
        go_wp2
        go_ret
        exact ⟨rfl, Below.refl _ _⟩
      · have hhi2 : (c : Int) < 32256 := by omega
        have hc1 : c + 1 < 65536 := by omega
        have hc2 : c + 512 < 65536 := by omega
        have hw1 : IntKind.u16.wrap ((c : Int) + 1) = (c : Int) + 1 := wraps_u16 _ (by omega) (by omega)
        have hw2 : IntKind.u16.wrap ((c : Int) + 512) = (c : Int) + 512 := wraps_u16 _ (by omega) (by omega)
        have hcs := scaled_calls c hcb w
        have hcs1 := scaled_calls (c + 1) hc1 w
        have hcs2 := scaled_calls (c + 512) hc2 w
        have e1 := scN_succ hlo (by omega)
        have e2 := scN_twice hlo (by omega)
        have hle := scN_le c
        rw [e1] at hcs1
        rw [e2] at hcs2
        have a31 := and_31 hcb
        obtain ⟨s, es⟩ : ∃ s, scN c = s := ⟨_, rfl⟩
        obtain ⟨e, ee⟩ : ∃ e, c / 512 % 32 = e := ⟨_, rfl⟩
        have he : e ≤ 31 := by omega
        have hpw := pow_wrap e he
        have hp31 := pow_le31 he
        rw [es] at hcs hcs1 hcs2 hle
        rw [ee] at hcs1 a31
        obtain ⟨p, ep⟩ : ∃ p, 2 ^ e = p := ⟨_, rfl⟩
        rw [ep] at hcs1 hpw hp31
        rw [show ((c + 1 : Nat) : Int) = (c : Int) + 1 by simp, show ((s + p : Nat) : Int) = (s : Int) + (p : Int) by simp] at hcs1
        rw [show ((c + 512 : Nat) : Int) = (c : Int) + 512 by simp, show ((2 * s : Nat) : Int) = 2 * (s : Int) by simp] at hcs2
        have hpi : (p : Int) ≤ 2147483648 := Int.ofNat_le.2 hp31
        have hsi : (s : Int) ≤ 2196875771904 := Int.ofNat_le.2 hle
        have hd : (s : Int) + (p : Int) - (s : Int) = (p : Int) := by clear ep hp31 hpw; omega
        have hhi3 : ((32256 : Int) ≤ (c : Int)) = False := eq_false hhi
        clear e1 e2 es ee ep hp31 hle hhi2 hc1 hc2 hlo h0 hcb hhi
        by_cases hm : (c : Int) % 512 < 511
        · have hm2 : ((c : Int) % 512 < 511) = True := eq_true hm
          clear hm
          go_enter Try.func8, Try.ntmps8
          go_wp2_with fail
          refine (awake_calls _).mono ?_
          rintro e w1 ⟨rfl, rfl⟩
          go_wp2_with fail
          refine hcr.mono ?_
          rintro e w1 ⟨rfl, rfl⟩
          go_wp2_with fail
          refine hcs1.mono ?_
          rintro e w1 ⟨rfl, rfl⟩
          go_wp2_with fail
          refine hcs.mono ?_
          rintro e w1 ⟨rfl, rfl⟩
          go_wp2_with fail
          refine hcs2.mono ?_
          rintro e w1 ⟨rfl, rfl⟩
          go_wp2_with fail
          refine hcs.mono ?_
          rintro e w1 ⟨rfl, rfl⟩
          go_wp2
          go_ret
          exact ⟨rfl, Below.refl _ _⟩
        · have hm2 : ((c : Int) % 512 < 511) = False := eq_false hm
          clear hm
          go_enter Try.func8, Try.ntmps8
          go_wp2_with fail
          refine (awake_calls _).mono ?_
          rintro e w1 ⟨rfl, rfl⟩
          go_wp2_with fail
          refine hcr.mono ?_
          rintro e w1 ⟨rfl, rfl⟩
          go_wp2_with fail
          refine hcs2.mono ?_
          rintro e w1 ⟨rfl, rfl⟩
          go_wp2_with fail
          refine hcs.mono ?_
          rintro e w1 ⟨rfl, rfl⟩
          go_wp2
          go_ret
          exact ⟨rfl, Below.refl _ _⟩
end Go.Proofs.Ytlljgmmohikhlaa
