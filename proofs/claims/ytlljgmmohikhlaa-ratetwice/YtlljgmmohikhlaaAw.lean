/- Proved here: the laws' own awake answers true. Conditions: as each theorem states them. -/
import Derived.Test.YtlljgmmohikhlaaRf
import Derived.Test.YtlljgmmohikhlaaPm
namespace Go.Proofs.Ytlljgmmohikhlaa
set_option linter.unusedSimpArgs false
set_option linter.unusedVariables false
open Go.RowKit Go.Shelf

theorem isC_512 {c : Nat} (h : IsC 512 c) : c = 20992 :=
  isC_unique h (.inr ⟨by decide, by decide, by decide, by decide, .inr (by decide)⟩)

set_option maxHeartbeats 1000000 in
theorem awake_calls (w : World) : Calls Try.prog 9 #[] w fun e w' => e = .returned (.bool true) ∧ w' = w := by
  go_enter Try.func9, Try.ntmps9
  go_wp2_with fail
  refine (code_calls 512 (by decide) _).mono ?_
  rintro e w1 ⟨⟨c, rfl, hc⟩, rfl⟩
  obtain rfl := isC_512 hc
  clear hc
  go_wp2_with fail
  refine (value_calls 20993 (by decide) _).mono ?_
  rintro e w1 ⟨rfl, rfl⟩
  rw [show ((scN 20993 / 512 : Nat) : Int) = 513 by decide]
  go_wp2_with fail
  refine (right_calls 0 (by decide) _).mono ?_
  rintro e w1 ⟨rfl, rfl⟩
  rw [show riB 0 = true by decide]
  go_wp2_with fail
  refine (step_calls 16384 (by decide) _).mono ?_
  rintro e w1 ⟨rfl, rfl⟩
  rw [show ((stN 16384 : Nat) : Int) = 1048576 by decide]
  go_wp2
  go_ret
  exact ⟨rfl, rfl⟩

theorem code_nat {n : Int} (h : (Lit.int .u16 n).wf = true) : ∃ c : Nat, n = (c : Int) ∧ c < 65536 := by
  have := bounds_u16 h
  exact ⟨n.toNat, by omega, by omega⟩
theorem wf_i64 {n : Int} (h0 : -9223372036854775808 ≤ n) (h1 : n ≤ 9223372036854775807) : (Lit.int .i64 n).wf = true := by
  have := wrap64_wf n
  rwa [show wrap64 n = n by unfold wrap64; omega] at this
end Go.Proofs.Ytlljgmmohikhlaa
