/- Proved here: what Take answers and leaves in a bucket, in one, and the bounds of what it leaves. Conditions: as each theorem states them. -/
import Derived.Test.YtcenipihbmifpaaTake
namespace Go.Proofs.Ytcenipihbmifpaa
set_option linter.unusedSimpArgs false
set_option linter.unusedVariables false
open Go.RowKit

/-- What a bucket keeps behind a cell at t, taken or not. -/
def stepT (s e T t : Int) : Int := bif fitN e T t then nextN s T t else T
theorem stepT_yes {s e T t : Int} (h : fitN e T t = true) : stepT s e T t = nextN s T t := by unfold stepT; rw [h]; rfl
theorem stepT_no {s e T t : Int} (h : fitN e T t = false) : stepT s e T t = T := by unfold stepT; rw [h]; rfl
theorem stepT_bound {s e T t : Int} (h0 : 0 ≤ T) (h1 : T ≤ 3458764513820540928) : 0 ≤ stepT s e T t ∧ stepT s e T t ≤ 3458764513820540928 := by
  have := hM_bound t; have := hM_bound e; have := hS_bound s
  cases hf : fitN e T t with
  | true =>
    rw [stepT_yes hf]
    simp [fitN] at hf
    unfold nextN
    omega
  | false => rw [stepT_no hf]; omega

theorem take_calls (r : Nat) (s e T t : Int) (w : World) (h : BC w r s e T) (h0 : 0 ≤ T) (h1 : T ≤ 3458764513820540928) : Calls Try.prog 20 #[.pointer (some ⟨r, 0, none⟩), .int .i64 t] w fun x w' => x = .returned (.bool (fitN e T t)) ∧ BC w' r s e (stepT s e T t) ∧ But r w.heap.size w w' := by
  cases hf : fitN e T t with
  | true =>
    refine (take_yes r s e T t w h h0 h1 hf).mono ?_
    rintro x w' ⟨rfl, C, b⟩
    exact ⟨rfl, by rw [stepT_yes hf]; exact C, b⟩
  | false =>
    refine (take_no r s e T t w h h0 h1 hf).mono ?_
    rintro x w' ⟨rfl, b⟩
    exact ⟨rfl, by rw [stepT_no hf]; exact h.below b h.lt, But.of b⟩
end Go.Proofs.Ytcenipihbmifpaa
