/- Proved here: what cmp.Compare, cmp.Or, conns.Before, within, Right answer. Conditions: as each theorem states them. -/
import Derived.Test.YtgimmaancnlbcaaTb
import Derived.BigQuiet
namespace Go.Proofs.Ytgimmaancnlbcaa
set_option linter.unusedSimpArgs false
set_option linter.unusedVariables false
open Go.RowKit Go.Shelf

theorem cret_int {a b : Int} (h : a = b) : Ending.returned (.int .i64 a) = .returned (.int .i64 b) := by rw [h]
theorem cret_bool {a b : Bool} (h : a = b) : Ending.returned (.bool a) = .returned (.bool b) := by rw [h]
theorem below_box (w : World) (o : Obj) : Below w.heap.size w (w.alloc o) := (Below.refl _ w).alloc (Nat.le_refl _) o

theorem isnan_calls (x : Int) (w : World) : Calls Try.prog 34 #[.int .i64 x] w fun e w' => e = .returned (.bool false) ∧ w' = w := by
  have h : (x != x) = false := by simp
  go_enter Try.func34, Try.ntmps34
  go_wp2
  go_ret
  exact ⟨rfl, rfl⟩
set_option maxHeartbeats 400000 in
theorem compare_calls (x y : Int) (w : World) : Calls Try.prog 33 #[.int .i64 x, .int .i64 y] w fun e w' => e = .returned (.int .i64 (cmpN x y)) ∧ w' = w := by
  go_enter Try.func33, Try.ntmps33
  go_wp2_with fail
  refine (isnan_calls x _).mono ?_
  rintro e w1 ⟨rfl, rfl⟩
  go_wp2_with fail
  refine (isnan_calls y _).mono ?_
  rintro e w1 ⟨rfl, rfl⟩
  go_wp2 <;> (go_ret; exact ⟨cret_int (by unfold cmpN; repeat' split; all_goals omega), rfl⟩)

set_option maxHeartbeats 800000 in
theorem or_calls (g : Nat) (x y z : Int) (w : World) (h : BK w g #[.int .i64 x, .int .i64 y, .int .i64 z] 3) : Calls Try.prog 32 #[.slice (some ⟨g, 0, none⟩) 3 3] w fun e w' => e = .returned (.int .i64 (orN x y z)) ∧ w' = w := by
  have c0 := h.cell 0 _ rfl
  have c1 := h.cell 1 _ rfl
  have c2 := h.cell 2 _ rfl
  clear h
  go_enter Try.func32, Try.ntmps32
  go_wp2
  go_loopw [8] (fun iv wr => wr = w ∧ (iv = .int .i64 0 ∨ (iv = .int .i64 1 ∧ x = 0) ∨ (iv = .int .i64 2 ∧ x = 0 ∧ y = 0) ∨ (iv = .int .i64 3 ∧ x = 0 ∧ y = 0 ∧ z = 0))) (fun iv _ => 3 - (intOf iv).toNat)
  case atStart => exact ⟨rfl, .inl rfl⟩
  case round =>
    obtain ⟨rfl, hrel⟩ := hrel
    rcases hrel with rfl | ⟨rfl, hx⟩ | ⟨rfl, hx, hy⟩ | ⟨rfl, hx, hy, hz⟩
    · by_cases hx : x = 0
      · have q : (x != 0) = false := by simp [hx]
        have HX : Hid (x = 0) := hx
        clear hx
        go_wp2
        go_roundw
        case rel => exact ⟨by first | rfl | trivial, .inr (.inl ⟨by go_num, HX.out⟩)⟩
        case measure => simp [intOf]
      · have q : (x != 0) = true := by simp [hx]
        have HX : Hid (x ≠ 0) := hx
        clear hx
        go_wp2
        go_ret
        exact ⟨cret_int (by unfold orN; rw [if_pos HX.out]), rfl⟩
    · have HX : Hid (x = 0) := hx
      clear hx
      by_cases hy : y = 0
      · have q : (y != 0) = false := by simp [hy]
        have HY : Hid (y = 0) := hy
        clear hy
        go_wp2
        go_roundw
        case rel => exact ⟨by first | rfl | trivial, .inr (.inr (.inl ⟨by go_num, HX.out, HY.out⟩))⟩
        case measure => simp [intOf]
      · have q : (y != 0) = true := by simp [hy]
        have HY : Hid (y ≠ 0) := hy
        clear hy
        go_wp2
        go_ret
        exact ⟨cret_int (by unfold orN; rw [if_neg (by simp [HX.out]), if_pos HY.out]), rfl⟩
    · have HX : Hid (x = 0) := hx
      have HY : Hid (y = 0) := hy
      clear hx hy
      by_cases hz : z = 0
      · have q : (z != 0) = false := by simp [hz]
        have HZ : Hid (z = 0) := hz
        clear hz
        go_wp2
        go_roundw
        case rel => exact ⟨by first | rfl | trivial, .inr (.inr (.inr ⟨by go_num, HX.out, HY.out, HZ.out⟩))⟩
        case measure => simp [intOf]
      · have q : (z != 0) = true := by simp [hz]
        clear hz
        go_wp2
        go_ret
        exact ⟨cret_int (by unfold orN; rw [if_neg (by simp [HX.out]), if_neg (by simp [HY.out])]), rfl⟩
    · have HX : Hid (x = 0) := hx
      have HY : Hid (y = 0) := hy
      have HZ : Hid (z = 0) := hz
      clear hx hy hz
      go_wp2
      go_ret
      exact ⟨cret_int (by unfold orN; rw [if_neg (by simp [HX.out]), if_neg (by simp [HY.out]), HZ.out]), rfl⟩

set_option maxHeartbeats 400000 in
theorem within_calls (x m : Int) (w : World) : Calls Try.prog 30 #[.int .i64 x, .int .i64 m] w fun e w' => e = .returned (.bool (inB x m)) ∧ w' = w := by
  by_cases h0 : 0 ≤ x
  · by_cases h1 : x ≤ m
    · have d0 : decide (0 ≤ x) = true := decide_eq_true h0
      have d1 : decide (x ≤ m) = true := decide_eq_true h1
      clear h0 h1
      go_enter Try.func30, Try.ntmps30
      go_wp2
      go_ret
      exact ⟨cret_bool (by unfold inB; rw [d0, d1]; rfl), rfl⟩
    · have d0 : decide (0 ≤ x) = true := decide_eq_true h0
      have d1 : decide (x ≤ m) = false := decide_eq_false h1
      clear h0 h1
      go_enter Try.func30, Try.ntmps30
      go_wp2
      go_ret
      exact ⟨cret_bool (by unfold inB; rw [d0, d1]; rfl), rfl⟩
  · have d0 : decide (0 ≤ x) = false := decide_eq_false h0
    clear h0
    go_enter Try.func30, Try.ntmps30
    go_wp2
    go_ret
    exact ⟨cret_bool (by unfold inB; rw [d0]; rfl), rfl⟩

set_option maxHeartbeats 800000 in
theorem right_calls (k : Ky) (w : World) : Calls Try.prog 23 #[keyV k] w fun e w' => e = .returned (.bool (rightK k)) ∧ Below w.heap.size w w' := by
  obtain ⟨p, v, c⟩ := k
  have HB := below_box w (.cells #[.int .i64 p, .int .i64 v, .int .i64 c] 24)
  have HR : Hid (rightK (p, v, c) = (inB p 7 && (inB v 4095 && inB c 65535))) := rfl
  obtain ⟨b1, h1⟩ : ∃ b, inB p 7 = b := ⟨_, rfl⟩
  obtain ⟨b2, h2⟩ : ∃ b, inB v 4095 = b := ⟨_, rfl⟩
  obtain ⟨b3, h3⟩ : ∃ b, inB c 65535 = b := ⟨_, rfl⟩
  have H1 : Hid (inB p 7 = b1) := h1
  have H2 : Hid (inB v 4095 = b2) := h2
  have H3 : Hid (inB c 65535 = b3) := h3
  clear h1 h2 h3
  go_enter Try.func23, Try.ntmps23
  go_wp2_with fail
  refine (within_calls p 7 _).mono ?_
  rintro e w1 ⟨rfl, rfl⟩
  rw [H1.out]
  cases b1
  · go_wp2
    go_ret
    exact ⟨cret_bool (by rw [HR.out, H1.out]; rfl), HB⟩
  · go_wp2_with fail
    refine (within_calls v 4095 _).mono ?_
    rintro e w1 ⟨rfl, rfl⟩
    rw [H2.out]
    cases b2
    · go_wp2
      go_ret
      exact ⟨cret_bool (by rw [HR.out, H1.out, H2.out]; rfl), HB⟩
    · go_wp2_with fail
      refine (within_calls c 65535 _).mono ?_
      rintro e w1 ⟨rfl, rfl⟩
      rw [H3.out]
      go_wp2
      go_ret
      exact ⟨cret_bool (by rw [HR.out, H1.out, H2.out, H3.out]; rfl), HB⟩
end Go.Proofs.Ytgimmaancnlbcaa
