/- Proved here: what the document's Same answers of slices that hold the same. Conditions: as each theorem states them. -/
import Derived.Test.YtpljpndegadckaaEs
namespace Go.Proofs.Ytpljpndegadckaa
set_option linter.unusedSimpArgs false
set_option linter.unusedVariables false
open Go.RowKit Go.Shelf

theorem XV.len {w : World} {b mb n : Nat} {L : List En} {room : Int} (h : XV w b mb L room n) : L.length ≤ n := by
  obtain ⟨D, h1, h2⟩ := h.map
  have hp := (keys_perm h1 h2 h.ok.srt).length_eq
  have hs := h1.size_le
  obtain ⟨es', c', _, _, _, hD⟩ := h1
  rw [List.length_map, hD] at hp
  unfold intKeys at hp
  rw [List.length_map] at hp
  rw [hD] at hs
  rw [hp]
  exact hs
theorem neq_ent (a b : En) (w : World) : (binOp .neq 60 (.agg #[.int .i64 a.1, .int .i64 a.2]) (.agg #[.int .i64 b.1, .int .i64 b.2])).run Try.prog w = .ok (.bool (!decide (a = b))) w := by
  obtain ⟨a1, a2⟩ := a
  obtain ⟨b1, b2⟩ := b
  have e : decide ((a1, a2) = (b1, b2)) = (a1 == b1 && a2 == b2) := by
    rw [Bool.eq_iff_iff]; simp
  rw [e]
  cases h1 : a1 == b1 <;> cases h2 : a2 == b2 <;> go_simp <;> simp [h1, h2]

set_option maxHeartbeats 1000000 in
theorem same_calls (a b : Option Addr) (la lb ca cb : Nat) (L : List En) (hL : L.length ≤ 1000) (w : World) (h1 : IsE w.heap.size w a la ca L) (h2 : IsE w.heap.size w b lb cb L) :
    Calls Try.prog 21 #[.slice a la ca, .slice b lb cb] w fun e w' => e = .returned (.bool true) ∧ Below w.heap.size w w' := by
  obtain rfl : la = L.length := h1.1
  obtain rfl : lb = L.length := h2.1
  have q0 : (((L.length : Int)) != (L.length : Int)) = false := by simp
  go_enter Try.func21, Try.ntmps21
  go_wp2
  go_loopw [13] (fun iv wr => ∃ (i : Nat), i ≤ L.length ∧ iv = .int .i64 i ∧ Below w.heap.size w wr) (fun iv _ => L.length - (intOf iv).toNat)
  case atStart => exact ⟨0, Nat.zero_le _, rfl, Below.refl _ _⟩
  case round =>
    obtain ⟨i, hi, rfl, B3⟩ := hrel
    by_cases hlt : i < L.length
    · obtain ⟨g, off, x, rfl, hg, hx, hc⟩ := h1.at hlt
      obtain ⟨g', off', x', rfl, hg', hx', hc'⟩ := h2.at hlt
      obtain rfl : x = x' := Option.some.inj (hx.symm.trans hx')
      obtain ⟨c0, c1⟩ := hc wr (B3.block g hg)
      obtain ⟨c4, c5⟩ := hc' wr (B3.block g' hg')
      have hq : ∀ w, (binOp .neq 60 (.agg #[.int .i64 x.1, .int .i64 x.2]) (.agg #[.int .i64 x.1, .int .i64 x.2])).run Try.prog w = .ok (.bool false) w := fun w => by rw [neq_ent]; simp
      clear hx hx' hc hc' h1 h2
      go_wp2
      go_region
      go_wp2
      go_roundw
      case rel => exact ⟨i + 1, by omega, by go_num, B3.drew⟩
      case measure => simp [intOf]; omega
    · obtain rfl : i = L.length := by omega
      clear h1 h2
      go_wp2
      go_ret
      exact ⟨rfl, B3⟩
end Go.Proofs.Ytpljpndegadckaa
