/- Proved here: the document's Kind. Conditions: as each theorem states them. -/
import Derived.Test.YtpifmljbaogcbaaDoorHKind
namespace Go.Proofs.YtpifmljbaogcbaaDoor.H
open Go.RowKit

set_option maxHeartbeats 1000000 in
theorem refkind0 (g p t c : Int) (w : World) : Calls Tryd.prog 14 #[.agg #[.int .i64 g, .int .i64 p, .int .i64 0, .int .i64 t, .int .i64 c]] w fun e w' => e = .returned (.int .i64 (kindN p 0 t c)) ∧ Below w.heap.size w w' := by
  by_cases p0 : p = 0
  · subst p0
    by_cases c0 : c = 0
    · subst c0
      have H : Hid (kindN 0 0 t 0 = 3) := by show kindN 0 0 t 0 = 3; simp [kindN]
      by_cases t0 : t = 0
      · subst t0
        go_enter Tryd.func14, Tryd.ntmps14
        go_wp2
        go_ret
        exact ⟨ret_int H.out.symm, by go_grown⟩
      · have a0 : (t == 0) = false := beq_eq_false_iff_ne.2 t0
        clear t0
        go_enter Tryd.func14, Tryd.ntmps14
        go_wp2
        go_ret
        exact ⟨ret_int H.out.symm, by go_grown⟩
    · have b0 : (c == 0) = false := beq_eq_false_iff_ne.2 c0
      by_cases t0 : t = 0
      · subst t0
        by_cases c1 : c = 1
        · subst c1
          go_enter Tryd.func14, Tryd.ntmps14
          go_wp2
          go_ret
          exact ⟨rfl, by go_grown⟩
        · have H : Hid (kindN 0 0 0 c = 10) := by show kindN 0 0 0 c = 10; simp [kindN, c0, c1]
          have b1 : (c == 1) = false := beq_eq_false_iff_ne.2 c1
          clear c0 c1
          go_enter Tryd.func14, Tryd.ntmps14
          go_wp2
          go_ret
          exact ⟨ret_int H.out.symm, by go_grown⟩
      · have H : Hid (kindN 0 0 t c = 10) := by show kindN 0 0 t c = 10; simp [kindN, c0, t0]
        have a0 : (t == 0) = false := beq_eq_false_iff_ne.2 t0
        clear c0 t0
        go_enter Tryd.func14, Tryd.ntmps14
        go_wp2
        go_ret
        exact ⟨ret_int H.out.symm, by go_grown⟩
  · have H : Hid (kindN p 0 t c = 10) := by show kindN p 0 t c = 10; simp [kindN, p0]
    have a0 : (p == 0) = false := beq_eq_false_iff_ne.2 p0
    clear p0
    go_enter Tryd.func14, Tryd.ntmps14
    go_wp2
    go_ret
    exact ⟨ret_int H.out.symm, by go_grown⟩

set_option maxHeartbeats 2000000 in
theorem refkind_calls (g p v t c : Int) (w : World) : Calls Tryd.prog 14 #[.agg #[.int .i64 g, .int .i64 p, .int .i64 v, .int .i64 t, .int .i64 c]] w fun e w' => e = .returned (.int .i64 (kindN p v t c)) ∧ Below w.heap.size w w' := by
  by_cases v0 : v = 0
  · subst v0
    exact refkind0 g p t c w
  have a0 : (v == 0) = false := beq_eq_false_iff_ne.2 v0
  by_cases v3 : v = 3
  · subst v3
    have H : Hid (kindN p 3 t c = 4) := by show kindN p 3 t c = 4; simp [kindN]
    go_enter Tryd.func14, Tryd.ntmps14
    go_wp2
    go_ret
    exact ⟨ret_int H.out.symm, by go_grown⟩
  have a3 : (v == 3) = false := beq_eq_false_iff_ne.2 v3
  by_cases v4 : v = 4
  · subst v4
    have H : Hid (kindN p 4 t c = 5) := by show kindN p 4 t c = 5; simp [kindN]
    go_enter Tryd.func14, Tryd.ntmps14
    go_wp2
    go_ret
    exact ⟨ret_int H.out.symm, by go_grown⟩
  have a4 : (v == 4) = false := beq_eq_false_iff_ne.2 v4
  by_cases v6 : v = 6 ∧ t = 6
  · obtain ⟨rfl, rfl⟩ := v6
    have H : Hid (kindN p 6 6 c = 9) := by show kindN p 6 6 c = 9; simp [kindN]
    go_enter Tryd.func14, Tryd.ntmps14
    go_wp2
    go_ret
    exact ⟨ret_int H.out.symm, by go_grown⟩
  have HT : Hid (kindN p v t c = kindT t) := by show kindN p v t c = kindT t; simp [kindN, v0, v3, v4, v6]
  by_cases u6 : v = 6
  · subst u6
    have t6 : (t == 6) = false := beq_eq_false_iff_ne.2 (fun e => v6 ⟨rfl, e⟩)
    have T6 : Hid (¬ t = 6) := fun e => v6 ⟨rfl, e⟩
    clear v6 v0 v3 v4
    by_cases t4 : t = 4
    · subst t4
      go_enter Tryd.func14, Tryd.ntmps14
      go_wp2
      go_ret
      exact ⟨ret_int (HT.out.trans rfl).symm, by go_grown⟩
    by_cases t5 : t = 5
    · subst t5
      go_enter Tryd.func14, Tryd.ntmps14
      go_wp2
      go_ret
      exact ⟨ret_int (HT.out.trans rfl).symm, by go_grown⟩
    by_cases t7 : t = 7
    · subst t7
      go_enter Tryd.func14, Tryd.ntmps14
      go_wp2
      go_ret
      exact ⟨ret_int (HT.out.trans rfl).symm, by go_grown⟩
    have H : Hid (kindT t = 1) := by show kindT t = 1; simp [kindT, t4, t5, T6.out, t7]
    have b4 : (t == 4) = false := beq_eq_false_iff_ne.2 t4
    have b5 : (t == 5) = false := beq_eq_false_iff_ne.2 t5
    have b7 : (t == 7) = false := beq_eq_false_iff_ne.2 t7
    clear t4 t5 t7
    go_enter Tryd.func14, Tryd.ntmps14
    go_wp2
    go_ret
    exact ⟨ret_int (HT.out.trans H.out).symm, by go_grown⟩
  · have a6 : (v == 6) = false := beq_eq_false_iff_ne.2 u6
    clear v6 v0 v3 v4 u6
    by_cases t4 : t = 4
    · subst t4
      go_enter Tryd.func14, Tryd.ntmps14
      go_wp2
      go_ret
      exact ⟨ret_int (HT.out.trans rfl).symm, by go_grown⟩
    by_cases t5 : t = 5
    · subst t5
      go_enter Tryd.func14, Tryd.ntmps14
      go_wp2
      go_ret
      exact ⟨ret_int (HT.out.trans rfl).symm, by go_grown⟩
    by_cases t6 : t = 6
    · subst t6
      go_enter Tryd.func14, Tryd.ntmps14
      go_wp2
      go_ret
      exact ⟨ret_int (HT.out.trans rfl).symm, by go_grown⟩
    by_cases t7 : t = 7
    · subst t7
      go_enter Tryd.func14, Tryd.ntmps14
      go_wp2
      go_ret
      exact ⟨ret_int (HT.out.trans rfl).symm, by go_grown⟩
    have H : Hid (kindT t = 1) := by show kindT t = 1; simp [kindT, t4, t5, t6, t7]
    have b4 : (t == 4) = false := beq_eq_false_iff_ne.2 t4
    have b5 : (t == 5) = false := beq_eq_false_iff_ne.2 t5
    have b6 : (t == 6) = false := beq_eq_false_iff_ne.2 t6
    have b7 : (t == 7) = false := beq_eq_false_iff_ne.2 t7
    clear t4 t5 t6 t7
    go_enter Tryd.func14, Tryd.ntmps14
    go_wp2
    go_ret
    exact ⟨ret_int (HT.out.trans H.out).symm, by go_grown⟩
end Go.Proofs.YtpifmljbaogcbaaDoor.H
