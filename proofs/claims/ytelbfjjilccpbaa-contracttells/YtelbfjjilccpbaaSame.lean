/- Proved here: the law's own comparing of rules answers true, of rules that are the same. Conditions: as each theorem states them. -/
import Derived.Test.YtelbfjjilccpbaaLd
import Derived.BigQuiet
import Derived.Deep.QuietTactic
namespace Go.Proofs.Ytelbfjjilccpbaa
set_option linter.unusedSimpArgs false
set_option linter.unusedVariables false
open Go.RowKit Go.Shelf

theorem neq_rule (w : World) (s e : Int) (z t : Bool) :
    (binOp .neq 45 (.agg #[.int .i64 s, .int .i64 e, .bool z, .bool t]) (.agg #[.int .i64 s, .int .i64 e, .bool z, .bool t])).run Try.prog w = .ok (.bool false) w := by
  cases z <;> cases t <;> go_simp

set_option maxHeartbeats 1000000 in
theorem same_nil (w : World) : Calls Try.prog 12 #[.slice none 0 0, .slice none 0 0] w fun e w' => e = .returned (.bool true) ∧ Below w.heap.size w w' := by
  go_enter Try.func12, Try.ntmps12
  go_wp2
  go_loopw [13] (fun iv wr => iv = .int .i64 0 ∧ wr = w) (fun _ _ => 0)
  case atStart => exact ⟨rfl, rfl⟩
  case round =>
    obtain ⟨rfl, rfl⟩ := hrel
    go_wp2
    go_ret
    exact ⟨rfl, Below.refl _ _⟩

set_option maxHeartbeats 2000000 in
theorem same_one (g h : Nat) (c d : Nat) (s e : Int) (z t : Bool) (w : World) (hg : g < w.heap.size) (hh : h < w.heap.size) (G : R4 w g s e z t) (H : R4 w h s e z t) :
    Calls Try.prog 12 #[.slice (some ⟨g, 0, none⟩) 1 c, .slice (some ⟨h, 0, none⟩) 1 d] w fun e w' => e = .returned (.bool true) ∧ Below w.heap.size w w' := by
  go_enter Try.func12, Try.ntmps12
  go_wp2
  go_loopw [13] (fun iv wr => ∃ k : Nat, k ≤ 1 ∧ iv = .int .i64 k ∧ Below w.heap.size w wr) (fun iv _ => 1 - (intOf iv).toNat)
  case atStart => exact ⟨0, by omega, rfl, Below.refl _ _⟩
  case round =>
    obtain ⟨k, hk, rfl, B⟩ := hrel
    have hk2 : k = 0 ∨ k = 1 := by omega
    have q := neq_rule
    obtain ⟨g0, g1, g2, g3⟩ := G.below B hg
    obtain ⟨h0, h1, h2, h3⟩ := H.below B hh
    rcases hk2 with rfl | rfl
    · go_wp2
      go_quiet (fail)
      go_wp2
      go_roundw
      case rel => exact ⟨1, by omega, by go_num, below_drewN' B⟩
      case measure => simp [intOf]
    · go_wp2
      go_ret
      exact ⟨rfl, B⟩
set_option maxHeartbeats 2000000 in
theorem same_two (g h : Nat) (c d : Nat) (s e s2 e2 : Int) (z t z2 t2 : Bool) (w : World) (hg : g < w.heap.size) (hh : h < w.heap.size) (G : R4 w g s e z t) (H : R4 w h s e z t) (G2 : S4 w g s2 e2 z2 t2) (H2 : S4 w h s2 e2 z2 t2) :
    Calls Try.prog 12 #[.slice (some ⟨g, 0, none⟩) 2 c, .slice (some ⟨h, 0, none⟩) 2 d] w fun e w' => e = .returned (.bool true) ∧ Below w.heap.size w w' := by
  go_enter Try.func12, Try.ntmps12
  go_wp2
  go_loopw [13] (fun iv wr => ∃ k : Nat, k ≤ 2 ∧ iv = .int .i64 k ∧ Below w.heap.size w wr) (fun iv _ => 2 - (intOf iv).toNat)
  case atStart => exact ⟨0, by omega, rfl, Below.refl _ _⟩
  case round =>
    obtain ⟨k, hk, rfl, B⟩ := hrel
    have hk2 : k = 0 ∨ k = 1 ∨ k = 2 := by omega
    have q := neq_rule
    rcases hk2 with rfl | rfl | rfl
    · obtain ⟨g0, g1, g2, g3⟩ := G.below B hg
      obtain ⟨h0, h1, h2, h3⟩ := H.below B hh
      go_wp2
      go_quiet (fail)
      go_wp2
      go_roundw
      case rel => exact ⟨1, by omega, by go_num, below_drewN' B⟩
      case measure => simp [intOf]
    · obtain ⟨g0, g1, g2, g3⟩ := G2.below B hg
      obtain ⟨h0, h1, h2, h3⟩ := H2.below B hh
      go_wp2
      go_quiet (fail)
      go_wp2
      go_roundw
      case rel => exact ⟨2, by omega, by go_num, below_drewN' B⟩
      case measure => simp [intOf]
    · go_wp2
      go_ret
      exact ⟨rfl, B⟩
end Go.Proofs.Ytelbfjjilccpbaa
