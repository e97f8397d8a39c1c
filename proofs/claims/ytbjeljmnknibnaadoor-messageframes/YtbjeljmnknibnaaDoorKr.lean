/- Proved here: what conns.Right, and the document's, answer of any key. Conditions: as each theorem states them. -/
import Derived.Test.YtbjeljmnknibnaaDoorBut
namespace Go.Proofs.YtbjeljmnknibnaaDoor
set_option linter.unusedSimpArgs false
set_option linter.unusedVariables false
open Go.RowKit

abbrev Ky := Int × Int × Int
abbrev keyV (k : Ky) : Value := .agg #[.int .i64 k.1, .int .i64 k.2.1, .int .i64 k.2.2]
def inK (x m : Int) : Bool := decide (0 ≤ x) && decide (x ≤ m)
/-- Can a key be? -/
def rightK (k : Ky) : Bool := inK k.1 7 && (inK k.2.1 4095 && inK k.2.2 65535)
theorem rightK_iff (k : Ky) : rightK k = true ↔ (0 ≤ k.1 ∧ k.1 ≤ 7) ∧ (0 ≤ k.2.1 ∧ k.2.1 ≤ 4095) ∧ 0 ≤ k.2.2 ∧ k.2.2 ≤ 65535 := by
  simp [rightK, inK]
theorem cret_bool {a b : Bool} (h : a = b) : Ending.returned (.bool a) = .returned (.bool b) := by rw [h]
theorem below_box (w : World) (o : Obj) : Below w.heap.size w (w.alloc o) := (Below.refl _ w).alloc (Nat.le_refl _) o

set_option maxHeartbeats 400000 in
theorem kwithin_calls (x m : Int) (w : World) : Calls Tryd.prog 69 #[.int .i64 x, .int .i64 m] w fun e w' => e = .returned (.bool (inK x m)) ∧ w' = w := by
  by_cases h0 : 0 ≤ x
  · by_cases h1 : x ≤ m
    · have d0 : decide (0 ≤ x) = true := decide_eq_true h0
      have d1 : decide (x ≤ m) = true := decide_eq_true h1
      clear h0 h1
      go_enter Tryd.func69, Tryd.ntmps69
      go_wp2
      go_ret
      exact ⟨cret_bool (by unfold inK; rw [d0, d1]; rfl), rfl⟩
    · have d0 : decide (0 ≤ x) = true := decide_eq_true h0
      have d1 : decide (x ≤ m) = false := decide_eq_false h1
      clear h0 h1
      go_enter Tryd.func69, Tryd.ntmps69
      go_wp2
      go_ret
      exact ⟨cret_bool (by unfold inK; rw [d0, d1]; rfl), rfl⟩
  · have d0 : decide (0 ≤ x) = false := decide_eq_false h0
    clear h0
    go_enter Tryd.func69, Tryd.ntmps69
    go_wp2
    go_ret
    exact ⟨cret_bool (by unfold inK; rw [d0]; rfl), rfl⟩

set_option maxHeartbeats 800000 in
theorem kright_calls (k : Ky) (w : World) : Calls Tryd.prog 63 #[keyV k] w fun e w' => e = .returned (.bool (rightK k)) ∧ Below w.heap.size w w' := by
  obtain ⟨p, v, c⟩ := k
  have HB := below_box w (.cells #[.int .i64 p, .int .i64 v, .int .i64 c] 43)
  have HR : Hid (rightK (p, v, c) = (inK p 7 && (inK v 4095 && inK c 65535))) := rfl
  obtain ⟨b1, h1⟩ : ∃ b, inK p 7 = b := ⟨_, rfl⟩
  obtain ⟨b2, h2⟩ : ∃ b, inK v 4095 = b := ⟨_, rfl⟩
  obtain ⟨b3, h3⟩ : ∃ b, inK c 65535 = b := ⟨_, rfl⟩
  have H1 : Hid (inK p 7 = b1) := h1
  have H2 : Hid (inK v 4095 = b2) := h2
  have H3 : Hid (inK c 65535 = b3) := h3
  clear h1 h2 h3
  go_enter Tryd.func63, Tryd.ntmps63
  go_wp2_with fail
  refine (kwithin_calls p 7 _).mono ?_
  rintro e w1 ⟨rfl, rfl⟩
  rw [H1.out]
  cases b1
  · go_wp2
    go_ret
    exact ⟨cret_bool (by rw [HR.out, H1.out]; rfl), HB⟩
  · go_wp2_with fail
    refine (kwithin_calls v 4095 _).mono ?_
    rintro e w1 ⟨rfl, rfl⟩
    rw [H2.out]
    cases b2
    · go_wp2
      go_ret
      exact ⟨cret_bool (by rw [HR.out, H1.out, H2.out]; rfl), HB⟩
    · go_wp2_with fail
      refine (kwithin_calls c 65535 _).mono ?_
      rintro e w1 ⟨rfl, rfl⟩
      rw [H3.out]
      go_wp2
      go_ret
      exact ⟨cret_bool (by rw [HR.out, H1.out, H2.out, H3.out]; rfl), HB⟩
set_option maxHeartbeats 800000 in
theorem rright_calls (k : Ky) (w : World) : Calls Tryd.prog 66 #[keyV k] w fun e w' => e = .returned (.bool (rightK k)) ∧ Below w.heap.size w w' := by
  have HB := below_box w (.cells #[.int .i64 k.1, .int .i64 k.2.1, .int .i64 k.2.2] 43)
  obtain ⟨p, v, c⟩ := k
  have HR : Hid (rightK (p, v, c) = true ↔ (0 ≤ p ∧ p ≤ 7) ∧ (0 ≤ v ∧ v ≤ 4095) ∧ 0 ≤ c ∧ c ≤ 65535) := rightK_iff _
  have yes : ∀ b : Bool, (b = true ↔ (0 ≤ p ∧ p ≤ 7) ∧ (0 ≤ v ∧ v ≤ 4095) ∧ 0 ≤ c ∧ c ≤ 65535) → rightK (p, v, c) = b := fun b hb => by
    rw [Bool.eq_iff_iff]; exact HR.out.trans hb.symm
  by_cases h1 : 0 ≤ p
  · have d1 : decide (0 ≤ p) = true := decide_eq_true h1
    by_cases h2 : p < 8
    · have d2 : decide (p < 8) = true := decide_eq_true h2
      by_cases h3 : 0 ≤ v
      · have d3 : decide (0 ≤ v) = true := decide_eq_true h3
        by_cases h4 : v < 4096
        · have d4 : decide (v < 4096) = true := decide_eq_true h4
          by_cases h5 : 0 ≤ c
          · have d5 : decide (0 ≤ c) = true := decide_eq_true h5
            by_cases h6 : c < 65536
            · have d6 : decide (c < 65536) = true := decide_eq_true h6
              have e := yes true (by simp; omega)
              go_enter Tryd.func66, Tryd.ntmps66
              go_wp2
              go_ret
              exact ⟨by first | rfl | exact cret_bool e.symm, HB⟩
            · have d6 : decide (c < 65536) = false := decide_eq_false h6
              have e := yes false (by simp; omega)
              go_enter Tryd.func66, Tryd.ntmps66
              go_wp2
              go_ret
              exact ⟨by first | rfl | exact cret_bool e.symm, HB⟩
          · have d5 : decide (0 ≤ c) = false := decide_eq_false h5
            have e := yes false (by simp; omega)
            go_enter Tryd.func66, Tryd.ntmps66
            go_wp2
            go_ret
            exact ⟨by first | rfl | exact cret_bool e.symm, HB⟩
        · have d4 : decide (v < 4096) = false := decide_eq_false h4
          have e := yes false (by simp; omega)
          go_enter Tryd.func66, Tryd.ntmps66
          go_wp2
          go_ret
          exact ⟨by first | rfl | exact cret_bool e.symm, HB⟩
      · have d3 : decide (0 ≤ v) = false := decide_eq_false h3
        have e := yes false (by simp; omega)
        go_enter Tryd.func66, Tryd.ntmps66
        go_wp2
        go_ret
        exact ⟨by first | rfl | exact cret_bool e.symm, HB⟩
    · have d2 : decide (p < 8) = false := decide_eq_false h2
      have e := yes false (by simp; omega)
      go_enter Tryd.func66, Tryd.ntmps66
      go_wp2
      go_ret
      exact ⟨by first | rfl | exact cret_bool e.symm, HB⟩
  · have d1 : decide (0 ≤ p) = false := decide_eq_false h1
    have e := yes false (by simp; omega)
    go_enter Tryd.func66, Tryd.ntmps66
    go_wp2
    go_ret
    exact ⟨by first | rfl | exact cret_bool e.symm, HB⟩

end Go.Proofs.YtbjeljmnknibnaaDoor
