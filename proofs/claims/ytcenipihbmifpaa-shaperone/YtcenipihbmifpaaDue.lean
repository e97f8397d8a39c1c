/- Proved here: what a bucket's Due and Level answer. Conditions: as each theorem states them. -/
import Derived.Test.YtcenipihbmifpaaHeld
namespace Go.Proofs.Ytcenipihbmifpaa
set_option linter.unusedSimpArgs false
set_option linter.unusedVariables false
open Go.RowKit

theorem wrap_id {x : Int} (h0 : -9223372036854775808 ≤ x) (h1 : x < 9223372036854775808) : IntKind.i64.wrap x = x := by
  rw [IntKind.wrap_i64]; omega

set_option maxHeartbeats 1000000 in
theorem due_calls (r : Nat) (s e T : Int) (w : World) (h : BC w r s e T) (h0 : 0 ≤ T) (h1 : T ≤ 3458764513820540928) : Calls Try.prog 38 #[.pointer (some ⟨r, 0, none⟩)] w fun x w' => x = .returned (.int .i64 (max 0 (T - hM e))) ∧ Below w.heap.size w w' := by
  obtain ⟨c0, c1, c2, f0, f1, f2⟩ := h.facts
  have ⟨m0, m1⟩ := hM_bound e
  obtain ⟨m, hm⟩ : ∃ m, hM e = m := ⟨_, rfl⟩
  rw [hm] at m0 m1 ⊢
  have HM : Hid (min (max e 0) 1152921504606846976 = m) := hm
  clear hm h
  go_enter Try.func38, Try.ntmps38
  go_wp2
  first | (go_region_held (fun w' => w'.cell? ⟨r, 2, none⟩ = some (.int .i64 T) ∧ w'.cell? ⟨r, 1, none⟩ = some (.int .i64 e)) (go_keep) (first | (go_at_call 32; refine (held_calls e 0 1152921504606846976 _).mono ?_; rintro e w1 ⟨rfl, rfl⟩; rw [HM.out]))) | fail
  rw [wrap_id (x := T - m) (by omega) (by omega)]
  go_wp2 <;> (go_ret; exact ⟨ret_int (by omega), (Below.refl _ w).drew⟩)
end Go.Proofs.Ytcenipihbmifpaa
