/- Proved here: what the document's bytes and number answer. Conditions: as each theorem states them. -/
import Derived.Test.YtbjeljmnknibnaaDoorLa
namespace Go.Proofs.YtbjeljmnknibnaaDoor
set_option linter.unusedSimpArgs false
set_option linter.unusedVariables false
open Go.RowKit Go.Shelf

set_option maxHeartbeats 1000000 in
theorem refnumber_calls (a : Option Addr) (len cap : Nat) (xs : List UInt8) (w : World) {n : Nat} (h : IsB n w a len xs) (hn : n ≤ w.heap.size) (h6 : len ≤ 6) :
    Calls Tryd.prog 64 #[.slice a len cap] w fun e w' => e = .returned (.int .i64 (numN xs : Nat)) ∧ Below w.heap.size w w' := by
  have l1 : Hid (len = xs.length) := h.1
  go_enter Tryd.func64, Tryd.ntmps64
  go_wp2
  go_loopw [3, 7] (fun v i wr => ∃ k : Nat, k ≤ len ∧ i = .int .i64 k ∧ v = .int .i64 ((numN (xs.take k) : Nat) : Int) ∧ Below w.heap.size w wr) (fun _ i _ => len - (intOf i).toNat)
  case atStart => exact ⟨0, by omega, rfl, rfl, Below.refl _ _⟩
  case round =>
    obtain ⟨k, hk, rfl, rfl, bel⟩ := hrel
    by_cases hlt : k < len
    · obtain ⟨x, hx⟩ : ∃ x, xs[k]? = some x := ⟨xs[k]'(by have := l1.out; omega), by rw [List.getElem?_eq_getElem]⟩
      obtain ⟨b1, o1, rfl, _, c1⟩ := (h.below bel hn).cell hx
      have d1 := c1 k x hx
      have HE : Hid (numN (xs.take (k + 1)) = numN (xs.take k) * 256 + x.toNat) := by show _ = _; rw [take_snoc_of hx, numN_snoc]
      have hb : numN (xs.take k) < 1099511627776 := by
        have := numN_lt (xs.take k)
        have hl : (xs.take k).length = k := by rw [List.length_take, ← l1.out]; omega
        rw [hl] at this
        have h3 : k ≤ 5 := by omega
        exact Nat.lt_of_lt_of_le this (Nat.pow_le_pow_right (by decide) h3)
      generalize numN (xs.take k) = p at *
      have hx8 := x.toNat_lt
      obtain ⟨q, hq⟩ : ∃ q, x.toNat = q := ⟨_, rfl⟩
      rw [hq] at d1 HE hx8
      have hp : (p : Int) ≤ 1099511627775 := by omega
      clear c1 hx h hq hb
      go_wp2
      go_roundw
      case rel => exact ⟨k + 1, by omega, by go_num, by rw [HE.out]; simp, bel⟩
      case measure => simp [intOf]; omega
    · obtain rfl : k = len := by omega
      have HF : Hid (xs.take k = xs) := List.take_of_length_le (by have := l1.out; omega)
      clear h l1
      go_wp2
      go_ret
      exact ⟨ret_int (by rw [HF.out]), bel⟩
end Go.Proofs.YtbjeljmnknibnaaDoor
