/- Proved here: a ledger is awake; and what the law's own do answers. Conditions: as each theorem states them. -/
import Derived.Test.YtpljpndegadckaaXv
import Derived.Test.YtpljpndegadckaaOps
namespace Go.Proofs.Ytpljpndegadckaa
set_option linter.unusedSimpArgs false
set_option linter.unusedVariables false
open Go.RowKit Go.Shelf

theorem book_to {w : World} {b mb n : Nat} {L L' : List En} {room e' : Int} (h : XV w b mb L room n) (hn : n ≤ 1000) {k x : Int} (hk : okI k) (hx : okI x) (he : bookE L room k x = e') (hl : bookL L room k x = L') :
    Calls Try.prog 24 #[.pointer (some ⟨b, 0, none⟩), .int .i64 k, .int .i64 x] w fun e w' => e = .returned (.int .i64 e') ∧ XV w' b mb L' room (n + 1) ∧ But2 b mb w.heap.size w w' := by
  subst he hl; exact book_calls h hn hk hx
theorem chg_to {w : World} {b mb n : Nat} {L L' : List En} {room e' : Int} (h : XV w b mb L room n) (hn : n ≤ 1000) {k x : Int} (hk : okI k) (hx : okI x) (he : chgE L room k x = e') (hl : chgL L room k x = L') :
    Calls Try.prog 25 #[.pointer (some ⟨b, 0, none⟩), .int .i64 k, .int .i64 x] w fun e w' => e = .returned (.int .i64 e') ∧ XV w' b mb L' room (n + 1) ∧ But2 b mb w.heap.size w w' := by
  subst he hl; exact chg_calls h hn hk hx
theorem used_to {w : World} {b mb n : Nat} {L : List En} {room e' : Int} (h : XV w b mb L room n) (he : sumL L = e') :
    Calls Try.prog 18 #[.pointer (some ⟨b, 0, none⟩)] w fun e w' => e = .returned (.int .i64 e') ∧ w' = w := by subst he; exact used_calls h
theorem left_to {w : World} {b mb n : Nat} {L : List En} {room e' : Int} (h : XV w b mb L room n) (he : room - sumL L = e') :
    Calls Try.prog 20 #[.pointer (some ⟨b, 0, none⟩)] w fun e w' => e = .returned (.int .i64 e') ∧ Below w.heap.size w w' := by subst he; exact left_calls h
theorem okl {z : Int} (h : -9223372036854775808 ≤ z ∧ z ≤ 9223372036854775807) : okI z := (okI_iff z).2 h

set_option maxHeartbeats 4000000 in
theorem awake_calls (w : World) : Calls Try.prog 9 #[] w fun e w' => e = .returned (.bool true) ∧ Below w.heap.size w w' := by
  go_enter Try.func9, Try.ntmps9
  go_wp2_with fail
  refine (new_calls 10 _).mono ?_
  rintro e w1 ⟨rfl, X1, b1⟩
  rw [show roomN 10 = 10 by decide] at X1
  go_wp2_with fail
  refine (book_to X1 (by omega) (okl (by omega)) (okl (by omega)) (e' := 0) (L' := [(1, 7)]) (by decide) (by decide)).mono ?_
  rintro e w2 ⟨rfl, X2, q2⟩
  go_wp2_with fail
  refine (book_to X2 (by omega) (okl (by omega)) (okl (by omega)) (e' := 9) (L' := [(1, 7)]) (by decide) (by decide)).mono ?_
  rintro e w3 ⟨rfl, X3, q3⟩
  go_wp2_with fail
  refine (chg_to X3 (by omega) (okl (by omega)) (okl (by omega)) (e' := 0) (L' := [(1, 6)]) (by decide) (by decide)).mono ?_
  rintro e w4 ⟨rfl, X4, q4⟩
  go_wp2_with fail
  refine (book_to X4 (by omega) (okl (by omega)) (okl (by omega)) (e' := 0) (L' := [(1, 6), (2, 4)]) (by decide) (by decide)).mono ?_
  rintro e w5 ⟨rfl, X5, q5⟩
  go_wp2_with fail
  refine (used_to X5 (e' := 10) (by decide)).mono ?_
  rintro e w6 ⟨rfl, rfl⟩
  go_wp2_with fail
  refine (left_to X5 (e' := 0) (by decide)).mono ?_
  rintro e w7 ⟨rfl, b7⟩
  go_wp2
  go_ret
  have s2 := q2.size
  have s3 := q3.size
  have s4 := q4.size
  have s5 := q5.size
  exact ⟨rfl, b1.trans (((((q2.trans (q3.mono s2)).trans (q4.mono (by omega))).trans (q5.mono (by omega))).below b1.size (by omega) (by omega)).trans (b7.mono (by have := b1.size; omega)))⟩

theorem cret_int {q : IntKind} {x y : Int} (h : x = y) : (.returned (.int q x) : Ending) = .returned (.int q y) := by rw [h]
set_option maxHeartbeats 1600000 in
theorem do_calls {w : World} {b mb n : Nat} {L : List En} {room : Int} (h : XV w b mb L room n) (hn : n ≤ 1000) (x : Op3) (hx : okI x.1 ∧ okI x.2.1 ∧ okI x.2.2) :
    Calls Try.prog 12 #[.pointer (some ⟨b, 0, none⟩), .agg #[.int .i64 x.1, .int .i64 x.2.1, .int .i64 x.2.2]] w fun e w' => e = .returned (.tuple #[.int .i64 (doE L room x), .int .i64 (doN L x)]) ∧ XV w' b mb (doL L room x) room (n + 1) ∧ But2 b mb w.heap.size w w' := by
  obtain ⟨d, k, z⟩ := x
  obtain ⟨_, hk, hz⟩ := hx
  simp only at hk hz ⊢
  have K0 := bk_new w #[.int .i64 d, .int .i64 k, .int .i64 z] 29
  have X0 := h.alloc (.cells #[.int .i64 d, .int .i64 k, .int .i64 z] 29)
  have hB0 := (But2.of (r := b) (q := mb) ((Below.refl _ w).alloc (Nat.le_refl _) (.cells #[.int .i64 d, .int .i64 k, .int .i64 z] 29)))
  have HSZ : Hid (w.heap.size ≤ (w.alloc (.cells #[.int .i64 d, .int .i64 k, .int .i64 z] 29)).heap.size) := by show _ ≤ _; simp
  by_cases h1 : d = 1
  · have HE : Hid (doE L room (d, k, z) = bookE L room k z ∧ doN L (d, k, z) = 0 ∧ doL L room (d, k, z) = bookL L room k z) := by
      subst h1; exact ⟨by rfl, by rfl, by rfl⟩
    have d1 : (d == 1) = true := by simpa using h1
    clear h1 h
    go_enter Try.func12, Try.ntmps12
    go_wp2_with fail
    refine (book_calls X0 hn hk hz).mono ?_
    rintro e w1 ⟨rfl, X1, q1⟩
    go_wp2
    go_returns
    refine ⟨by rw [HE.out.1, HE.out.2.1]; rfl, ?_, hB0.trans (q1.mono HSZ.out)⟩
    rw [HE.out.2.2]; exact X1
  · have d1 : (d == 1) = false := by simpa using h1
    by_cases h2 : d = 2
    · have HE : Hid (doE L room (d, k, z) = chgE L room k z ∧ doN L (d, k, z) = 0 ∧ doL L room (d, k, z) = chgL L room k z) := by
        subst h2; exact ⟨by rfl, by rfl, by rfl⟩
      have d2 : (d == 2) = true := by simpa using h2
      clear h1 h2 h
      go_enter Try.func12, Try.ntmps12
      go_wp2_with fail
      refine (chg_calls X0 hn hk hz).mono ?_
      rintro e w1 ⟨rfl, X1, q1⟩
      go_wp2
      go_returns
      refine ⟨by rw [HE.out.1, HE.out.2.1]; rfl, ?_, hB0.trans (q1.mono HSZ.out)⟩
      rw [HE.out.2.2]; exact X1
    · have d2 : (d == 2) = false := by simpa using h2
      by_cases h3 : d = 3
      · have HE : Hid (doE L room (d, k, z) = 0 ∧ doN L (d, k, z) = getN L k ∧ doL L room (d, k, z) = del L k) := by
          subst h3; exact ⟨by rfl, by rfl, by rfl⟩
        have d3 : (d == 3) = true := by simpa using h3
        clear h1 h2 h3 h
        go_enter Try.func12, Try.ntmps12
        go_wp2_with fail
        refine (free_calls X0 hk).mono ?_
        rintro e w1 ⟨rfl, X1, q1⟩
        go_wp2
        go_returns
        refine ⟨by rw [HE.out.1, HE.out.2.1]; rfl, ?_, hB0.trans (q1.mono HSZ.out)⟩
        rw [HE.out.2.2]; exact X1.mono (by omega)
      · have HE : Hid (doE L room (d, k, z) = 0 ∧ doN L (d, k, z) = 0 ∧ doL L room (d, k, z) = L) := by
          refine ⟨?_, if_neg h3, ?_⟩
          · unfold doE; rw [if_neg h1, if_neg h2]
          · unfold doL; rw [if_neg h1, if_neg h2, if_neg h3]
        have d3 : (d == 3) = false := by simpa using h3
        clear h1 h2 h3 h
        go_enter Try.func12, Try.ntmps12
        go_wp2
        go_returns
        refine ⟨by rw [HE.out.1, HE.out.2.1]; rfl, ?_, hB0⟩
        rw [HE.out.2.2]; exact X0.mono (by omega)
end Go.Proofs.Ytpljpndegadckaa
