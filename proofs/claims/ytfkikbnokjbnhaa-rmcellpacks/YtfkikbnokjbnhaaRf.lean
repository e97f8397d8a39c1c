/- Proved here: what the document's functions of rates answer. Conditions: as each theorem states them. -/
import Derived.Test.YtfkikbnokjbnhaaFn
namespace Go.Proofs.Ytfkikbnokjbnhaa
set_option linter.unusedSimpArgs false
set_option linter.unusedVariables false
open Go.RowKit Go.Shelf

set_option maxHeartbeats 1000000 in
theorem refscaled_calls (c : Nat) (h : c < 65536) (w : World) : Calls Try.prog 33 #[.int .i64 c] w fun e w' => e = .returned (.int .i64 (scN c)) ∧ w' = w := by
  by_cases hz : c / 16384 % 2 = 0
  · have hs := scN_zero hz
    go_enter Try.func33, Try.ntmps33
    go_wp2
    go_ret
    exact ⟨ret_i (by rw [hs]; rfl), rfl⟩
  · have HS : Hid (scN c = (512 + c % 512) * 2 ^ (c / 512 % 32)) := scN_eq (by omega)
    go_enter Try.func33, Try.ntmps33
    go_wp2
    go_loopw [3, 4] (fun nv ev wr => ∃ (e x : Nat), e ≤ 31 ∧ x ≤ 1023 * 2147483648 ∧ nv = .int .i64 x ∧ ev = .int .i64 e ∧ Hid (x * 2 ^ e = scN c) ∧ wr = w) (fun _ ev _ => (intOf ev).toNat)
    case atStart => exact ⟨c / 512 % 32, 512 + c % 512, by omega, by omega, by go_num, by go_num, HS.out.symm, rfl⟩
    case round =>
      obtain ⟨e, x, he, hx, rfl, rfl, hp, rfl⟩ := hrel
      by_cases h0 : e = 0
      · subst h0
        go_wp2
        go_ret
        exact ⟨ret_i (by rw [← hp.out, Nat.pow_zero, Nat.mul_one]), rfl⟩
      · have h1 : 0 < e := by omega
        go_wp2
        go_roundw
        case rel =>
          have hle := scN_le c
          obtain ⟨d, rfl⟩ : ∃ d, e = d + 1 := ⟨e - 1, by omega⟩
          have h2 : x * 2 * 2 ^ d = scN c := by have := hp.out; rw [Nat.pow_succ] at this; rw [← this, Nat.mul_assoc, Nat.mul_comm 2]
          have h3 : x * 2 * 1 ≤ x * 2 * 2 ^ d := Nat.mul_le_mul_left _ (pow_pos2 d)
          exact ⟨d, x * 2, by omega, by omega, by go_num, by go_num, h2, trivial⟩
        case measure => simp [intOf]; omega

end Go.Proofs.Ytfkikbnokjbnhaa
