/- Proved here: what element.Traffic answers. Conditions: as each theorem states them. -/
import Derived.Test.YtbjeljmnknibnaaDoorCk
import Derived.Test.YtbjeljmnknibnaaDoorSw
import Derived.Test.YtbjeljmnknibnaaDoorRight
namespace Go.Proofs.YtbjeljmnknibnaaDoor
set_option linter.unusedSimpArgs false
set_option linter.unusedVariables false
open Go.RowKit Go.Shelf

def trafB (k : Nat) (S : List Nat) : List UInt8 := S.foldl (fun acc x => acc ++ beN 6 x) [UInt8.ofNat k]
theorem trafB_snoc (k : Nat) (S : List Nat) (x : Nat) : trafB k (S ++ [x]) = trafB k S ++ beN 6 x := by simp [trafB]
theorem fold_len : ∀ (S : List Nat) (acc : List UInt8), (S.foldl (fun acc x => acc ++ beN 6 x) acc).length = acc.length + 6 * S.length
  | [], acc => by simp
  | x :: S, acc => by rw [List.foldl_cons, fold_len S, List.length_append, beN_length, List.length_cons]; omega
theorem trafB_length (k : Nat) (S : List Nat) : (trafB k S).length = 1 + 6 * S.length := fold_len S _
def trafE (k p e w b l : Nat) : El := ⟨89, trafB k [p, e, w, b, l]⟩
/-- What can be has no number below 0. -/
theorem errN_nats {k p e w b l : Int} (h : errN k p e w b l = 0) : ∃ k' p' e' w' b' l' : Nat, k = k' ∧ p = p' ∧ e = e' ∧ w = w' ∧ b = b' ∧ l = l' ∧ k' ≤ 7 ∧ p' ≤ 1099511627776 ∧ e' ≤ 1099511627776 ∧ w' ≤ 1099511627776 ∧ b' ≤ 1099511627776 ∧ l' ≤ 1099511627776 := by
  obtain ⟨hk, hc⟩ := errN_zero.1 h
  have key : (0 ≤ p ∧ p ≤ 1099511627776) ∧ (0 ≤ e ∧ e ≤ 1099511627776) ∧ (0 ≤ w ∧ w ≤ 1099511627776) ∧ (0 ≤ b ∧ b ≤ 1099511627776) ∧ (0 ≤ l ∧ l ≤ 1099511627776) := by
    cases hv : vbrB k
    · obtain ⟨h1, h2, h3, h4, h5⟩ := (canB_plain hv).1 hc
      omega
    · obtain ⟨h1, h2, h3, h4, h5⟩ := (canB_vbr hv).1 hc
      omega
  exact ⟨k.toNat, p.toNat, e.toNat, w.toNat, b.toNat, l.toNat, by omega, by omega, by omega, by omega, by omega, by omega, by omega, by omega, by omega, by omega, by omega, by omega⟩

abbrev cC (k p e w b l : Int) : Array Value := #[.int .i64 k, .int .i64 p, .int .i64 e, .int .i64 w, .int .i64 b, .int .i64 l]

theorem span_index0 (b : Nat) (w : World) : (Instr.index 101 (.agg #[.pointer (some ⟨b, 1, none⟩), .pointer (some ⟨b, 2, none⟩), .pointer (some ⟨b, 3, none⟩), .pointer (some ⟨b, 4, none⟩), .pointer (some ⟨b, 5, none⟩)]) (.int .i64 0)).run Tryd.prog w = .ok (.pointer (some ⟨b, 1, none⟩)) w := by kernel_rfl
theorem span_index1 (b : Nat) (w : World) : (Instr.index 101 (.agg #[.pointer (some ⟨b, 1, none⟩), .pointer (some ⟨b, 2, none⟩), .pointer (some ⟨b, 3, none⟩), .pointer (some ⟨b, 4, none⟩), .pointer (some ⟨b, 5, none⟩)]) (.int .i64 1)).run Tryd.prog w = .ok (.pointer (some ⟨b, 2, none⟩)) w := by kernel_rfl
theorem span_index2 (b : Nat) (w : World) : (Instr.index 101 (.agg #[.pointer (some ⟨b, 1, none⟩), .pointer (some ⟨b, 2, none⟩), .pointer (some ⟨b, 3, none⟩), .pointer (some ⟨b, 4, none⟩), .pointer (some ⟨b, 5, none⟩)]) (.int .i64 2)).run Tryd.prog w = .ok (.pointer (some ⟨b, 3, none⟩)) w := by kernel_rfl
theorem span_index3 (b : Nat) (w : World) : (Instr.index 101 (.agg #[.pointer (some ⟨b, 1, none⟩), .pointer (some ⟨b, 2, none⟩), .pointer (some ⟨b, 3, none⟩), .pointer (some ⟨b, 4, none⟩), .pointer (some ⟨b, 5, none⟩)]) (.int .i64 3)).run Tryd.prog w = .ok (.pointer (some ⟨b, 4, none⟩)) w := by kernel_rfl
theorem span_index4 (b : Nat) (w : World) : (Instr.index 101 (.agg #[.pointer (some ⟨b, 1, none⟩), .pointer (some ⟨b, 2, none⟩), .pointer (some ⟨b, 3, none⟩), .pointer (some ⟨b, 4, none⟩), .pointer (some ⟨b, 5, none⟩)]) (.int .i64 4)).run Tryd.prog w = .ok (.pointer (some ⟨b, 5, none⟩)) w := by kernel_rfl
theorem span_index (b k : Nat) (hk : k < 5) (w : World) : (Instr.index 101 (.agg #[.pointer (some ⟨b, 1, none⟩), .pointer (some ⟨b, 2, none⟩), .pointer (some ⟨b, 3, none⟩), .pointer (some ⟨b, 4, none⟩), .pointer (some ⟨b, 5, none⟩)]) (.int .i64 k)).run Tryd.prog w = .ok (.pointer (some ⟨b, k + 1, none⟩)) w := by
  have h : k = 0 ∨ k = 1 ∨ k = 2 ∨ k = 3 ∨ k = 4 := by omega
  rcases h with rfl | rfl | rfl | rfl | rfl
  · exact span_index0 b w
  · exact span_index1 b w
  · exact span_index2 b w
  · exact span_index3 b w
  · exact span_index4 b w
theorem span_cell (k p e v b l : Nat) (j : Nat) (hj : j < 5) : ∃ x : Nat, [p, e, v, b, l][j]? = some x ∧ (cC k p e v b l)[j + 1]? = some (.int .i64 x) ∧ (x = p ∨ x = e ∨ x = v ∨ x = b ∨ x = l) := by
  have h : j = 0 ∨ j = 1 ∨ j = 2 ∨ j = 3 ∨ j = 4 := by omega
  rcases h with rfl | rfl | rfl | rfl | rfl
  · exact ⟨p, rfl, rfl, by simp⟩
  · exact ⟨e, rfl, rfl, by simp⟩
  · exact ⟨v, rfl, rfl, by simp⟩
  · exact ⟨b, rfl, rfl, by simp⟩
  · exact ⟨l, rfl, rfl, by simp⟩

end Go.Proofs.YtbjeljmnknibnaaDoor
