/- Proved here: header.Kind, and the document's. Conditions: as each theorem states them. -/
import Derived.Test.YtpifmljbaogcbaaDoorRet
import Derived.Test.YtpifmljbaogcbaaDoorProg
namespace Go.Proofs.YtpifmljbaogcbaaDoor.H
open Go.RowKit

/-- What a type tells. -/
def kindT (t : Int) : Int := if t = 4 then 6 else if t = 5 then 7 else if t = 6 then 8 else if t = 7 then 10 else 1
/-- What a cell is. -/
def kindN (p v t c : Int) : Int :=
  if v = 0 then (if p = 0 then (if t = 0 ∧ c = 1 then 2 else if c = 0 then 3 else 10) else 10)
  else if v = 3 then 4 else if v = 4 then 5 else if v = 6 ∧ t = 6 then 9 else kindT t

set_option maxHeartbeats 400000 in
theorem kindT_calls (t : Int) (w : World) : Calls Tryd.prog 45 #[.int .i64 t] w fun e w' => e = .returned (.int .i64 (kindT t)) ∧ w' = w := by
  by_cases h4 : t = 4
  · subst h4
    go_enter Tryd.func45, Tryd.ntmps45
    go_wp2
    go_ret
    exact ⟨rfl, rfl⟩
  by_cases h5 : t = 5
  · subst h5
    go_enter Tryd.func45, Tryd.ntmps45
    go_wp2
    go_ret
    exact ⟨rfl, rfl⟩
  by_cases h6 : t = 6
  · subst h6
    go_enter Tryd.func45, Tryd.ntmps45
    go_wp2
    go_ret
    exact ⟨rfl, rfl⟩
  by_cases h7 : t = 7
  · subst h7
    go_enter Tryd.func45, Tryd.ntmps45
    go_wp2
    go_ret
    exact ⟨rfl, rfl⟩
  have H : Hid (kindT t = 1) := by show kindT t = 1; simp [kindT, h4, h5, h6, h7]
  have a4 : (t == 4) = false := beq_eq_false_iff_ne.2 h4
  have a5 : (t == 5) = false := beq_eq_false_iff_ne.2 h5
  have a6 : (t == 6) = false := beq_eq_false_iff_ne.2 h6
  have a7 : (t == 7) = false := beq_eq_false_iff_ne.2 h7
  clear h4 h5 h6 h7
  go_enter Tryd.func45, Tryd.ntmps45
  go_wp2
  go_ret
  exact ⟨ret_int H.out.symm, rfl⟩

/-- A header that names neither. -/
def kind0 (t c : Int) : Int := if t = 0 ∧ c = 1 then 2 else if c = 0 then 3 else 10
set_option maxHeartbeats 400000 in
theorem kind0_calls (g p v t c : Int) (w : World) : Calls Tryd.prog 44 #[.agg #[.int .i64 g, .int .i64 p, .int .i64 v, .int .i64 t, .int .i64 c]] w fun e w' => e = .returned (.int .i64 (kind0 t c)) ∧ Below w.heap.size w w' := by
  by_cases h0 : c = 0
  · subst h0
    have H : Hid (kind0 t 0 = 3) := by show kind0 t 0 = 3; simp [kind0]
    by_cases ht : t = 0
    · subst ht
      go_enter Tryd.func44, Tryd.ntmps44
      go_wp2
      go_ret
      exact ⟨ret_int H.out.symm, by go_grown⟩
    · have a0 : (t == 0) = false := beq_eq_false_iff_ne.2 ht
      clear ht
      go_enter Tryd.func44, Tryd.ntmps44
      go_wp2
      go_ret
      exact ⟨ret_int H.out.symm, by go_grown⟩
  · have b0 : (c == 0) = false := beq_eq_false_iff_ne.2 h0
    by_cases ht : t = 0
    · subst ht
      by_cases h1 : c = 1
      · subst h1
        go_enter Tryd.func44, Tryd.ntmps44
        go_wp2
        go_ret
        exact ⟨rfl, by go_grown⟩
      · have H : Hid (kind0 0 c = 10) := by show kind0 0 c = 10; simp [kind0, h0, h1]
        have b1 : (c == 1) = false := beq_eq_false_iff_ne.2 h1
        clear h0 h1
        go_enter Tryd.func44, Tryd.ntmps44
        go_wp2
        go_ret
        exact ⟨ret_int H.out.symm, by go_grown⟩
    · have H : Hid (kind0 t c = 10) := by show kind0 t c = 10; simp [kind0, h0, ht]
      have a0 : (t == 0) = false := beq_eq_false_iff_ne.2 ht
      clear ht h0
      go_enter Tryd.func44, Tryd.ntmps44
      go_wp2
      go_ret
      exact ⟨ret_int H.out.symm, by go_grown⟩

set_option maxHeartbeats 1000000 in
theorem kind_calls (g p v t c : Int) (w : World) : Calls Tryd.prog 34 #[.agg #[.int .i64 g, .int .i64 p, .int .i64 v, .int .i64 t, .int .i64 c]] w fun e w' => e = .returned (.int .i64 (kindN p v t c)) ∧ Below w.heap.size w w' := by
  by_cases v0 : v = 0
  · subst v0
    by_cases p0 : p = 0
    · subst p0
      have H : Hid (kindN 0 0 t c = kind0 t c) := by show kindN 0 0 t c = kind0 t c; simp [kindN, kind0]
      go_enter Tryd.func34, Tryd.ntmps34
      go_wp2_with fail
      refine (kind0_calls _ _ _ _ _ _).mono ?_
      rintro e w1 ⟨rfl, b1⟩
      go_wp2
      go_ret
      exact ⟨ret_int H.out.symm, ((Below.refl _ w).alloc (Nat.le_refl _) _).trans (b1.mono (by simp))⟩
    · have H : Hid (kindN p 0 t c = 10) := by show kindN p 0 t c = 10; simp [kindN, p0]
      have a0 : (p == 0) = false := beq_eq_false_iff_ne.2 p0
      clear p0
      go_enter Tryd.func34, Tryd.ntmps34
      go_wp2
      go_ret
      exact ⟨ret_int H.out.symm, by go_grown⟩
  have a0 : (v == 0) = false := beq_eq_false_iff_ne.2 v0
  by_cases v3 : v = 3
  · subst v3
    have H : Hid (kindN p 3 t c = 4) := by show kindN p 3 t c = 4; simp [kindN]
    by_cases p0 : p = 0
    · subst p0
      go_enter Tryd.func34, Tryd.ntmps34
      go_wp2
      go_ret
      exact ⟨ret_int H.out.symm, by go_grown⟩
    · have q0 : (p == 0) = false := beq_eq_false_iff_ne.2 p0
      clear p0
      go_enter Tryd.func34, Tryd.ntmps34
      go_wp2
      go_ret
      exact ⟨ret_int H.out.symm, by go_grown⟩
  have a3 : (v == 3) = false := beq_eq_false_iff_ne.2 v3
  by_cases v4 : v = 4
  · subst v4
    have H : Hid (kindN p 4 t c = 5) := by show kindN p 4 t c = 5; simp [kindN]
    by_cases p0 : p = 0
    · subst p0
      go_enter Tryd.func34, Tryd.ntmps34
      go_wp2
      go_ret
      exact ⟨ret_int H.out.symm, by go_grown⟩
    · have q0 : (p == 0) = false := beq_eq_false_iff_ne.2 p0
      clear p0
      go_enter Tryd.func34, Tryd.ntmps34
      go_wp2
      go_ret
      exact ⟨ret_int H.out.symm, by go_grown⟩
  have a4 : (v == 4) = false := beq_eq_false_iff_ne.2 v4
  by_cases v6 : v = 6 ∧ t = 6
  · obtain ⟨rfl, rfl⟩ := v6
    have H : Hid (kindN p 6 6 c = 9) := by show kindN p 6 6 c = 9; simp [kindN]
    by_cases p0 : p = 0
    · subst p0
      go_enter Tryd.func34, Tryd.ntmps34
      go_wp2
      go_ret
      exact ⟨ret_int H.out.symm, by go_grown⟩
    · have q0 : (p == 0) = false := beq_eq_false_iff_ne.2 p0
      clear p0
      go_enter Tryd.func34, Tryd.ntmps34
      go_wp2
      go_ret
      exact ⟨ret_int H.out.symm, by go_grown⟩
  have H : Hid (kindN p v t c = kindT t) := by show kindN p v t c = kindT t; simp [kindN, v0, v3, v4, v6]
  have fin : ∀ w1 : World, w1 = w.alloc (.cells #[.int .i64 g, .int .i64 p, .int .i64 v, .int .i64 t, .int .i64 c] 23) → Below w.heap.size w w1 := fun w1 e => by rw [e]; go_grown
  by_cases p0 : (p == 0) = true
  all_goals
    first | skip | (have q0 : (p == 0) = false := by simpa using p0)
    by_cases u6 : v = 6
    · subst u6
      have t6 : (t == 6) = false := beq_eq_false_iff_ne.2 (fun e => v6 ⟨rfl, e⟩)
      clear v6 v0 v3 v4
      go_enter Tryd.func34, Tryd.ntmps34
      go_wp2_with (go_at_call 45; refine (kindT_calls _ _).mono ?_; rintro e w1 ⟨rfl, rfl⟩)
      all_goals (go_ret; exact ⟨ret_int H.out.symm, by go_grown⟩)
    · have a6 : (v == 6) = false := beq_eq_false_iff_ne.2 u6
      clear v6 v0 v3 v4 u6
      go_enter Tryd.func34, Tryd.ntmps34
      go_wp2_with (go_at_call 45; refine (kindT_calls _ _).mono ?_; rintro e w1 ⟨rfl, rfl⟩)
      all_goals (go_ret; exact ⟨ret_int H.out.symm, by go_grown⟩)
end Go.Proofs.YtpifmljbaogcbaaDoor.H
