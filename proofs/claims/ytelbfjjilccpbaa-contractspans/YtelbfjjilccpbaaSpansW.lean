/- Proved here: the walk of ContractSpans. Conditions: as each theorem states them. -/
import Derived.Test.YtelbfjjilccpbaaAwake
namespace Go.Proofs.Ytelbfjjilccpbaa
set_option linter.unusedSimpArgs false
set_option linter.unusedVariables false
open Go.RowKit Go.Shelf

theorem err_peak {k p e w b l n : Int} (h : okB k p e w b l = true) (hn : n < 1 ∨ 1099511627776 < n) : errN k n e w b l = 11 := by
  obtain ⟨hk, h⟩ := okB_iff.1 h
  have : canB k n e w b l = false := by
    have : inB n 1 = false := inB_not.2 (by omega)
    simp [canB, this]
  unfold errN
  rw [this, show (decide (1 ≤ k) && decide (k ≤ 7)) = true by simp; exact hk]
  rfl
theorem err_early {k p e w b l n : Int} (h : okB k p e w b l = true) : (errN k p n w b l == 0) = inB n 0 := by
  obtain ⟨hk, h⟩ := okB_iff.1 h
  have hc : canB k p n w b l = inB n 0 := by
    simp only [canB, Bool.and_eq_true] at h
    simp only [canB, h.1.1, h.2, Bool.true_and, Bool.and_true]
  unfold errN
  rw [hc, show (decide (1 ≤ k) && decide (k ≤ 7)) = true by simp; exact hk]
  cases inB n 0 <;> rfl
theorem err_kind (p e w b l n : Int) : (errN n p e w b l == 12) = !(decide (1 ≤ n) && decide (n ≤ 7)) := by
  unfold errN
  cases (decide (1 ≤ n) && decide (n ≤ 7)) <;> cases canB n p e w b l <;> rfl

set_option maxHeartbeats 2000000 in
theorem spans_no (k p e w b l n : Int) (W : World) (ho : okB k p e w b l = false) :
    Calls Try.prog 7 #[cV k p e w b l, .int .i64 n] W fun e w' => e = .returned (.bool true) ∧ Below W.heap.size W w' := by
  have H : Hid (okB k p e w b l = false) := ho
  have C0 := cc_new W k p e w b l
  clear ho
  go_enter Try.func7, Try.ntmps7
  go_wp2_with fail
  refine (awake_calls _).mono ?_
  rintro x w1 ⟨rfl, b1⟩
  have C1 := C0.below b1 C0.lt
  have B1 := below_box2 b1
  obtain ⟨c0, c1, c2, c3, c4, c5⟩ := C1.facts
  go_wp2_with fail
  refine (right_no H.out _).mono ?_
  rintro x w2 ⟨E, rfl, hE, b2⟩
  have B2 := B1.trans (b2.mono B1.size)
  rcases hE with rfl | rfl <;>
  · go_wp2
    go_ret
    exact ⟨rfl, B2⟩

set_option maxHeartbeats 4000000 in
theorem spans_neg (k p e w b l n : Int) (W : World) (ho : okB k p e w b l = true) (n1 : n < 0) :
    Calls Try.prog 7 #[cV k p e w b l, .int .i64 n] W fun e w' => e = .returned (.bool true) ∧ Below W.heap.size W w' := by
  have H : Hid (okB k p e w b l = true) := ho
  have d1 : decide (n < 1) = true := by simp; omega
  have d2 : decide (1099511627776 < n) = false := by simp; omega
  have d3 : decide (0 ≤ n) = false := by simp; omega
  have d4 : decide (n ≤ 1099511627776) = true := by simp; omega
  have d5 : decide (7 < n) = false := by simp; omega
  have C0 := cc_new W k p e w b l
  have HE : Hid ((errN k p n w b l == 0) = false) := (err_early ho).trans (by simp [inB]; try omega)
  have HK : Hid ((errN n p e w b l == 12) = true) := (err_kind p e w b l n).trans (by simp; try omega)
  have HP : Hid (errN k n e w b l = 11) := err_peak ho (by omega)
  clear ho
  go_enter Try.func7, Try.ntmps7
  go_wp2_with fail
  refine (awake_calls _).mono ?_
  rintro x w1 ⟨rfl, b1⟩
  have C1 := C0.below b1 C0.lt
  have B1 := below_box2 b1
  have r1 := C1.lt
  obtain ⟨c0, c1, c2, c3, c4, c5⟩ := C1.facts
  go_wp2_with fail
  refine (right_ok H.out _).mono ?_
  rintro x w2 ⟨rfl, b2⟩
  have C2 := C1.below b2 C1.lt
  have B2 := B1.trans (b2.mono B1.size)
  have r2 := C2.lt
  clear c0 c1 c2 c3 c4 c5 C1 B1 b1 b2 C0 r1
  obtain ⟨c0, c1, c2, c3, c4, c5⟩ := C2.facts
  go_wp2_with fail
  refine (right_calls k n e w b l _).mono ?_
  rintro x w3 ⟨rfl, b3⟩
  rw [HP.out]
  have C3 := C2.below (below_box w2 _ |>.trans (b3.mono (by simp))) C2.lt
  have B3 := B2.trans ((below_box2 b3).mono B2.size)
  have r3 := C3.lt
  clear c0 c1 c2 c3 c4 c5 C2 B2 b3 r2
  obtain ⟨c0, c1, c2, c3, c4, c5⟩ := C3.facts
  go_wp2_with fail
  refine (right_calls k p n w b l _).mono ?_
  rintro x w4 ⟨rfl, b4⟩
  have C4 := C3.below (below_box w3 _ |>.trans (b4.mono (by simp))) C3.lt
  have B4 := B3.trans ((below_box2 b4).mono B3.size)
  have he := HE.out
  obtain ⟨E, hE⟩ : ∃ E, errN k p n w b l = E := ⟨_, rfl⟩
  rw [hE] at he ⊢
  have r4 := C4.lt
  clear c0 c1 c2 c3 c4 c5 C3 B3 b4 r3 hE
  obtain ⟨c0, c1, c2, c3, c4, c5⟩ := C4.facts
  go_wp2_with fail
  refine (right_calls n p e w b l _).mono ?_
  rintro x w5 ⟨rfl, b5⟩
  have B5 := B4.trans ((below_box2 b5).mono B4.size)
  have hk := HK.out
  obtain ⟨F, hF⟩ : ∃ F, errN n p e w b l = F := ⟨_, rfl⟩
  rw [hF] at hk ⊢
  clear hF c0 c1 c2 c3 c4 c5 C4 B4 b5 r4
  go_wp2
  go_ret
  exact ⟨rfl, B5⟩

set_option maxHeartbeats 4000000 in
theorem spans_zero (k p e w b l n : Int) (W : World) (ho : okB k p e w b l = true) (n1 : 0 ≤ n) (n2 : n < 1) :
    Calls Try.prog 7 #[cV k p e w b l, .int .i64 n] W fun e w' => e = .returned (.bool true) ∧ Below W.heap.size W w' := by
  have H : Hid (okB k p e w b l = true) := ho
  have d1 : decide (n < 1) = true := by simp; omega
  have d2 : decide (1099511627776 < n) = false := by simp; omega
  have d3 : decide (0 ≤ n) = true := by simp; omega
  have d4 : decide (n ≤ 1099511627776) = true := by simp; omega
  have d5 : decide (7 < n) = false := by simp; omega
  have C0 := cc_new W k p e w b l
  have HE : Hid ((errN k p n w b l == 0) = true) := (err_early ho).trans (by simp [inB]; try omega)
  have HK : Hid ((errN n p e w b l == 12) = true) := (err_kind p e w b l n).trans (by simp; try omega)
  have HP : Hid (errN k n e w b l = 11) := err_peak ho (by omega)
  clear ho
  go_enter Try.func7, Try.ntmps7
  go_wp2_with fail
  refine (awake_calls _).mono ?_
  rintro x w1 ⟨rfl, b1⟩
  have C1 := C0.below b1 C0.lt
  have B1 := below_box2 b1
  have r1 := C1.lt
  obtain ⟨c0, c1, c2, c3, c4, c5⟩ := C1.facts
  go_wp2_with fail
  refine (right_ok H.out _).mono ?_
  rintro x w2 ⟨rfl, b2⟩
  have C2 := C1.below b2 C1.lt
  have B2 := B1.trans (b2.mono B1.size)
  have r2 := C2.lt
  clear c0 c1 c2 c3 c4 c5 C1 B1 b1 b2 C0 r1
  obtain ⟨c0, c1, c2, c3, c4, c5⟩ := C2.facts
  go_wp2_with fail
  refine (right_calls k n e w b l _).mono ?_
  rintro x w3 ⟨rfl, b3⟩
  rw [HP.out]
  have C3 := C2.below (below_box w2 _ |>.trans (b3.mono (by simp))) C2.lt
  have B3 := B2.trans ((below_box2 b3).mono B2.size)
  have r3 := C3.lt
  clear c0 c1 c2 c3 c4 c5 C2 B2 b3 r2
  obtain ⟨c0, c1, c2, c3, c4, c5⟩ := C3.facts
  go_wp2_with fail
  refine (right_calls k p n w b l _).mono ?_
  rintro x w4 ⟨rfl, b4⟩
  have C4 := C3.below (below_box w3 _ |>.trans (b4.mono (by simp))) C3.lt
  have B4 := B3.trans ((below_box2 b4).mono B3.size)
  have he := HE.out
  obtain ⟨E, hE⟩ : ∃ E, errN k p n w b l = E := ⟨_, rfl⟩
  rw [hE] at he ⊢
  have r4 := C4.lt
  clear c0 c1 c2 c3 c4 c5 C3 B3 b4 r3 hE
  obtain ⟨c0, c1, c2, c3, c4, c5⟩ := C4.facts
  go_wp2_with fail
  refine (right_calls n p e w b l _).mono ?_
  rintro x w5 ⟨rfl, b5⟩
  have B5 := B4.trans ((below_box2 b5).mono B4.size)
  have hk := HK.out
  obtain ⟨F, hF⟩ : ∃ F, errN n p e w b l = F := ⟨_, rfl⟩
  rw [hF] at hk ⊢
  clear hF c0 c1 c2 c3 c4 c5 C4 B4 b5 r4
  go_wp2
  go_ret
  exact ⟨rfl, B5⟩

set_option maxHeartbeats 4000000 in
theorem spans_kind (k p e w b l n : Int) (W : World) (ho : okB k p e w b l = true) (n1 : 1 ≤ n) (n2 : n ≤ 7) :
    Calls Try.prog 7 #[cV k p e w b l, .int .i64 n] W fun e w' => e = .returned (.bool true) ∧ Below W.heap.size W w' := by
  have H : Hid (okB k p e w b l = true) := ho
  have d1 : decide (n < 1) = false := by simp; omega
  have d2 : decide (1099511627776 < n) = false := by simp; omega
  have d3 : decide (0 ≤ n) = true := by simp; omega
  have d4 : decide (n ≤ 1099511627776) = true := by simp; omega
  have d5 : decide (7 < n) = false := by simp; omega
  have C0 := cc_new W k p e w b l
  have HE : Hid ((errN k p n w b l == 0) = true) := (err_early ho).trans (by simp [inB]; try omega)
  have HK : Hid ((errN n p e w b l == 12) = false) := (err_kind p e w b l n).trans (by simp; try omega)
  clear ho
  go_enter Try.func7, Try.ntmps7
  go_wp2_with fail
  refine (awake_calls _).mono ?_
  rintro x w1 ⟨rfl, b1⟩
  have C1 := C0.below b1 C0.lt
  have B1 := below_box2 b1
  have r1 := C1.lt
  obtain ⟨c0, c1, c2, c3, c4, c5⟩ := C1.facts
  go_wp2_with fail
  refine (right_ok H.out _).mono ?_
  rintro x w2 ⟨rfl, b2⟩
  have C2 := C1.below b2 C1.lt
  have B2 := B1.trans (b2.mono B1.size)
  have r2 := C2.lt
  clear c0 c1 c2 c3 c4 c5 C1 B1 b1 b2 C0 r1
  obtain ⟨c0, c1, c2, c3, c4, c5⟩ := C2.facts
  go_wp2_with fail
  refine (right_calls k p n w b l _).mono ?_
  rintro x w4 ⟨rfl, b4⟩
  have B3 := B2.trans ((below_box w2 (.cells #[.int .i64 k, .int .i64 n, .int .i64 e, .int .i64 w, .int .i64 b, .int .i64 l] 23)).mono B2.size)
  have C3 := C2.below (below_box w2 (.cells #[.int .i64 k, .int .i64 n, .int .i64 e, .int .i64 w, .int .i64 b, .int .i64 l] 23)) C2.lt
  have C4 := C3.below (below_box _ _ |>.trans (b4.mono (by simp))) C3.lt
  have B4 := B3.trans ((below_box2 b4).mono B3.size)
  have he := HE.out
  obtain ⟨E, hE⟩ : ∃ E, errN k p n w b l = E := ⟨_, rfl⟩
  rw [hE] at he ⊢
  have r4 := C4.lt
  clear c0 c1 c2 c3 c4 c5 C2 B2 C3 B3 b4 r2 hE
  obtain ⟨c0, c1, c2, c3, c4, c5⟩ := C4.facts
  go_wp2_with fail
  refine (right_calls n p e w b l _).mono ?_
  rintro x w5 ⟨rfl, b5⟩
  have B5 := B4.trans ((below_box2 b5).mono B4.size)
  have hk := HK.out
  obtain ⟨F, hF⟩ : ∃ F, errN n p e w b l = F := ⟨_, rfl⟩
  rw [hF] at hk ⊢
  clear hF c0 c1 c2 c3 c4 c5 C4 B4 b5 r4
  go_wp2
  go_ret
  exact ⟨rfl, B5⟩

set_option maxHeartbeats 4000000 in
theorem spans_span (k p e w b l n : Int) (W : World) (ho : okB k p e w b l = true) (n1 : 7 < n) (n2 : n ≤ 1099511627776) :
    Calls Try.prog 7 #[cV k p e w b l, .int .i64 n] W fun e w' => e = .returned (.bool true) ∧ Below W.heap.size W w' := by
  have H : Hid (okB k p e w b l = true) := ho
  have d1 : decide (n < 1) = false := by simp; omega
  have d2 : decide (1099511627776 < n) = false := by simp; omega
  have d3 : decide (0 ≤ n) = true := by simp; omega
  have d4 : decide (n ≤ 1099511627776) = true := by simp; omega
  have d5 : decide (7 < n) = true := by simp; omega
  have C0 := cc_new W k p e w b l
  have HE : Hid ((errN k p n w b l == 0) = true) := (err_early ho).trans (by simp [inB]; try omega)
  have HK : Hid ((errN n p e w b l == 12) = true) := (err_kind p e w b l n).trans (by simp; try omega)
  clear ho
  go_enter Try.func7, Try.ntmps7
  go_wp2_with fail
  refine (awake_calls _).mono ?_
  rintro x w1 ⟨rfl, b1⟩
  have C1 := C0.below b1 C0.lt
  have B1 := below_box2 b1
  have r1 := C1.lt
  obtain ⟨c0, c1, c2, c3, c4, c5⟩ := C1.facts
  go_wp2_with fail
  refine (right_ok H.out _).mono ?_
  rintro x w2 ⟨rfl, b2⟩
  have C2 := C1.below b2 C1.lt
  have B2 := B1.trans (b2.mono B1.size)
  have r2 := C2.lt
  clear c0 c1 c2 c3 c4 c5 C1 B1 b1 b2 C0 r1
  obtain ⟨c0, c1, c2, c3, c4, c5⟩ := C2.facts
  go_wp2_with fail
  refine (right_calls k p n w b l _).mono ?_
  rintro x w4 ⟨rfl, b4⟩
  have B3 := B2.trans ((below_box w2 (.cells #[.int .i64 k, .int .i64 n, .int .i64 e, .int .i64 w, .int .i64 b, .int .i64 l] 23)).mono B2.size)
  have C3 := C2.below (below_box w2 (.cells #[.int .i64 k, .int .i64 n, .int .i64 e, .int .i64 w, .int .i64 b, .int .i64 l] 23)) C2.lt
  have C4 := C3.below (below_box _ _ |>.trans (b4.mono (by simp))) C3.lt
  have B4 := B3.trans ((below_box2 b4).mono B3.size)
  have he := HE.out
  obtain ⟨E, hE⟩ : ∃ E, errN k p n w b l = E := ⟨_, rfl⟩
  rw [hE] at he ⊢
  have r4 := C4.lt
  clear c0 c1 c2 c3 c4 c5 C2 B2 C3 B3 b4 r2 hE
  obtain ⟨c0, c1, c2, c3, c4, c5⟩ := C4.facts
  go_wp2_with fail
  refine (right_calls n p e w b l _).mono ?_
  rintro x w5 ⟨rfl, b5⟩
  have B5 := B4.trans ((below_box2 b5).mono B4.size)
  have hk := HK.out
  obtain ⟨F, hF⟩ : ∃ F, errN n p e w b l = F := ⟨_, rfl⟩
  rw [hF] at hk ⊢
  clear hF c0 c1 c2 c3 c4 c5 C4 B4 b5 r4
  go_wp2
  go_ret
  exact ⟨rfl, B5⟩

set_option maxHeartbeats 4000000 in
theorem spans_long (k p e w b l n : Int) (W : World) (ho : okB k p e w b l = true) (n1 : 1099511627776 < n) :
    Calls Try.prog 7 #[cV k p e w b l, .int .i64 n] W fun e w' => e = .returned (.bool true) ∧ Below W.heap.size W w' := by
  have H : Hid (okB k p e w b l = true) := ho
  have d1 : decide (n < 1) = false := by simp; omega
  have d2 : decide (1099511627776 < n) = true := by simp; omega
  have d3 : decide (0 ≤ n) = true := by simp; omega
  have d4 : decide (n ≤ 1099511627776) = false := by simp; omega
  have d5 : decide (7 < n) = true := by simp; omega
  have C0 := cc_new W k p e w b l
  have HE : Hid ((errN k p n w b l == 0) = false) := (err_early ho).trans (by simp [inB]; try omega)
  have HK : Hid ((errN n p e w b l == 12) = true) := (err_kind p e w b l n).trans (by simp; try omega)
  have HP : Hid (errN k n e w b l = 11) := err_peak ho (by omega)
  clear ho
  go_enter Try.func7, Try.ntmps7
  go_wp2_with fail
  refine (awake_calls _).mono ?_
  rintro x w1 ⟨rfl, b1⟩
  have C1 := C0.below b1 C0.lt
  have B1 := below_box2 b1
  have r1 := C1.lt
  obtain ⟨c0, c1, c2, c3, c4, c5⟩ := C1.facts
  go_wp2_with fail
  refine (right_ok H.out _).mono ?_
  rintro x w2 ⟨rfl, b2⟩
  have C2 := C1.below b2 C1.lt
  have B2 := B1.trans (b2.mono B1.size)
  have r2 := C2.lt
  clear c0 c1 c2 c3 c4 c5 C1 B1 b1 b2 C0 r1
  obtain ⟨c0, c1, c2, c3, c4, c5⟩ := C2.facts
  go_wp2_with fail
  refine (right_calls k n e w b l _).mono ?_
  rintro x w3 ⟨rfl, b3⟩
  rw [HP.out]
  have C3 := C2.below (below_box w2 _ |>.trans (b3.mono (by simp))) C2.lt
  have B3 := B2.trans ((below_box2 b3).mono B2.size)
  have r3 := C3.lt
  clear c0 c1 c2 c3 c4 c5 C2 B2 b3 r2
  obtain ⟨c0, c1, c2, c3, c4, c5⟩ := C3.facts
  go_wp2_with fail
  refine (right_calls k p n w b l _).mono ?_
  rintro x w4 ⟨rfl, b4⟩
  have C4 := C3.below (below_box w3 _ |>.trans (b4.mono (by simp))) C3.lt
  have B4 := B3.trans ((below_box2 b4).mono B3.size)
  have he := HE.out
  obtain ⟨E, hE⟩ : ∃ E, errN k p n w b l = E := ⟨_, rfl⟩
  rw [hE] at he ⊢
  have r4 := C4.lt
  clear c0 c1 c2 c3 c4 c5 C3 B3 b4 r3 hE
  obtain ⟨c0, c1, c2, c3, c4, c5⟩ := C4.facts
  go_wp2_with fail
  refine (right_calls n p e w b l _).mono ?_
  rintro x w5 ⟨rfl, b5⟩
  have B5 := B4.trans ((below_box2 b5).mono B4.size)
  have hk := HK.out
  obtain ⟨F, hF⟩ : ∃ F, errN n p e w b l = F := ⟨_, rfl⟩
  rw [hF] at hk ⊢
  clear hF c0 c1 c2 c3 c4 c5 C4 B4 b5 r4
  go_wp2
  go_ret
  exact ⟨rfl, B5⟩

theorem spans_walk (k p e w b l n : Int) (W : World) :
    Calls Try.prog 7 #[cV k p e w b l, .int .i64 n] W fun e w' => e = .returned (.bool true) ∧ Below W.heap.size W w' := by
  cases ho : okB k p e w b l
  · exact spans_no k p e w b l n W ho
  · by_cases h0 : n < 0
    · exact spans_neg k p e w b l n W ho h0
    · by_cases h1 : n < 1
      · exact spans_zero k p e w b l n W ho (by omega) h1
      · by_cases h7 : n ≤ 7
        · exact spans_kind k p e w b l n W ho (by omega) h7
        · by_cases hl : n ≤ 1099511627776
          · exact spans_span k p e w b l n W ho (by omega) hl
          · exact spans_long k p e w b l n W ho (by omega)
end Go.Proofs.Ytelbfjjilccpbaa
