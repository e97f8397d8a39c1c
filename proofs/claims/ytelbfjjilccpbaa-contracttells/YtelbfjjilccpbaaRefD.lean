/- Proved here: what the document's Rules and Most answer, of any contract. Conditions: as each theorem states them. -/
import Derived.Test.YtelbfjjilccpbaaRefC
namespace Go.Proofs.Ytelbfjjilccpbaa
set_option linter.unusedSimpArgs false
set_option linter.unusedVariables false
open Go.RowKit Go.Shelf

theorem refright_ok {k p e w b l : Int} (h : okB k p e w b l = true) (W : World) : Calls Try.prog 10 #[cV k p e w b l] W fun x W' => x = .returned (.int .i64 0) ∧ Below W.heap.size W W' := by
  have := refright_calls k p e w b l W
  rwa [okB_err h] at this
theorem refright_no {k p e w b l : Int} (h : okB k p e w b l = false) (W : World) : Calls Try.prog 10 #[cV k p e w b l] W fun x W' => ∃ E : Int, x = .returned (.int .i64 E) ∧ (E = 11 ∨ E = 12) ∧ Below W.heap.size W W' := by
  refine (refright_calls k p e w b l W).mono ?_
  rintro x W' ⟨rfl, hb⟩
  exact ⟨_, rfl, okB_no h, hb⟩

set_option maxHeartbeats 1000000 in
theorem refmost_no (k p e w b l : Int) (h : okB k p e w b l = false) (W : World) : Calls Try.prog 17 #[cV k p e w b l] W fun x W' => x = .returned (.int .i64 0) ∧ Below W.heap.size W W' := by
  have H : Hid (okB k p e w b l = false) := h
  clear h
  go_enter Try.func17, Try.ntmps17
  go_wp2_with fail
  refine (refright_no H.out _).mono ?_
  rintro x w1 ⟨E, rfl, hE, b1⟩
  rcases hE with rfl | rfl <;>
  · go_wp2
    go_ret
    exact ⟨rfl, below_box2 b1⟩

set_option maxHeartbeats 1000000 in
theorem refmost_flat (k p e w b l : Int) (h : okB k p e w b l = true) (hp : w ≤ p) (W : World) : Calls Try.prog 17 #[cV k p e w b l] W fun x W' => x = .returned (.int .i64 0) ∧ Below W.heap.size W W' := by
  have H : Hid (okB k p e w b l = true) := h
  have C0 := cc_new W k p e w b l
  clear h
  go_enter Try.func17, Try.ntmps17
  go_wp2_with fail
  refine (refright_ok H.out _).mono ?_
  rintro x w1 ⟨rfl, b1⟩
  have C1 := C0.below b1 C0.lt
  obtain ⟨c0, c1, c2, c3, c4, c5⟩ := C1.facts
  go_wp2
  go_ret
  exact ⟨rfl, below_box2 b1⟩

set_option maxHeartbeats 1000000 in
theorem refmost_yes (k p e w b l : Int) (h : okB k p e w b l = true) (hp : p < w) (W : World) : Calls Try.prog 17 #[cV k p e w b l] W fun x W' => x = .returned (.int .i64 (1 + b.tdiv (w - p))) ∧ Below W.heap.size W W' := by
  have H : Hid (okB k p e w b l = true) := h
  obtain ⟨p0, p1, e0, e1, w0, w1', b0, b1'⟩ := can_bounds h
  have C0 := cc_new W k p e w b l
  obtain ⟨q, hq⟩ : ∃ q, b.tdiv (w - p) = q := ⟨_, rfl⟩
  have q0 : 0 ≤ q := by rw [← hq]; exact Int.tdiv_nonneg b0 (by omega)
  have q1 : q ≤ 1099511627776 := by rw [← hq]; rw [Int.tdiv_eq_ediv_of_nonneg b0]; exact Int.le_trans (Int.ediv_le_self _ b0) b1'
  have hd : (w - p == 0) = false := by simp; omega
  rw [hq]
  clear h
  go_enter Try.func17, Try.ntmps17
  go_wp2_with fail
  refine (refright_ok H.out _).mono ?_
  rintro x w1 ⟨rfl, b1⟩
  have C1 := C0.below b1 C0.lt
  obtain ⟨c0, c1, c2, c3, c4, c5⟩ := C1.facts
  go_wp2
  go_ret
  exact ⟨rfl, below_box2 b1⟩

theorem refmost_calls (k p e w b l : Int) (W : World) : Calls Try.prog 17 #[cV k p e w b l] W fun x W' => x = .returned (.int .i64 (mostN k p e w b l)) ∧ Below W.heap.size W W' := by
  unfold mostN
  cases ho : okB k p e w b l
  · exact refmost_no k p e w b l ho W
  · by_cases hp : p < w
    · rw [decide_eq_true hp]; exact refmost_yes k p e w b l ho hp W
    · rw [decide_eq_false hp]; exact refmost_flat k p e w b l ho (by omega) W

set_option maxHeartbeats 1000000 in
theorem refrules_no (k p e w b l : Int) (h : okB k p e w b l = false) (W : World) : Calls Try.prog 14 #[cV k p e w b l] W fun x W' => x = .returned (.slice none 0 0) ∧ Below W.heap.size W W' := by
  have H : Hid (okB k p e w b l = false) := h
  clear h
  go_enter Try.func14, Try.ntmps14
  go_wp2_with fail
  refine (refright_no H.out _).mono ?_
  rintro x w1 ⟨E, rfl, hE, b1⟩
  rcases hE with rfl | rfl <;>
  · go_wp2
    go_ret
    exact ⟨rfl, below_box2 b1⟩

set_option maxHeartbeats 1000000 in
theorem refrules_one (k p e w b l : Int) (h : okB k p e w b l = true) (hv : vbrB k = false) (W : World) : Calls Try.prog 14 #[cV k p e w b l] W fun x W' => ∃ g, x = .returned (.slice (some ⟨g, 0, none⟩) 1 1) ∧ W.heap.size ≤ g ∧ g < W'.heap.size ∧ R4 W' g p e false false ∧ Below W.heap.size W W' := by
  have H : Hid (okB k p e w b l = true) := h
  obtain ⟨p0, p1, e0, e1, w0, w1', b0, b1'⟩ := can_bounds h
  have C0 := cc_new W k p e w b l
  have n2 : (k == 2) = false := by have := vbrB_not.1 hv; simp; omega
  have n3 : (k == 3) = false := by have := vbrB_not.1 hv; simp; omega
  have n4 : (k == 4) = false := by have := vbrB_not.1 hv; simp; omega
  clear h hv
  go_enter Try.func14, Try.ntmps14
  go_wp2_with fail
  refine (refright_ok H.out _).mono ?_
  rintro x w1 ⟨rfl, b1⟩
  have C1 := C0.below b1 C0.lt
  obtain ⟨c0, c1, c2, c3, c4, c5⟩ := C1.facts
  have B1 := below_box2 b1
  have r1 := C1.lt
  clear C0 C1 b1
  go_wp2
  go_ret
  have hb := bk_new w1 #[.int .i64 p, .int .i64 e, .bool false, .bool false] 45
  have s1 := B1.size
  exact ⟨_, rfl, s1, by simp, BK.r4 hb, B1.alloc s1 _⟩

set_option maxHeartbeats 2000000 in
theorem refrules_two (k p e w b l : Int) (h : okB k p e w b l = true) (hv : vbrB k = true) (W : World) : Calls Try.prog 14 #[cV k p e w b l] W fun x W' => ∃ g c, x = .returned (.slice (some ⟨g, 0, none⟩) 2 c) ∧ W.heap.size ≤ g ∧ g < W'.heap.size ∧ R4 W' g p e false false ∧ S4 W' g w (b + e) (zeroB k) (tagB k) ∧ Below W.heap.size W W' := by
  have H : Hid (okB k p e w b l = true) := h
  obtain ⟨p0, p1, e0, e1, w0, w1', b0, b1'⟩ := can_bounds h
  have C0 := cc_new W k p e w b l
  have hk : k = 2 ∨ k = 3 ∨ k = 4 := by have := vbrB_iff.1 hv; omega
  have app : ∀ (z t : Bool) (w1 : World), W.heap.size ≤ w1.heap.size → ∃ g' c' w', (Builtin.append_ #[31, 31] 31 #[.slice (some ⟨w1.heap.size, 0, none⟩) 1 1, .slice (some ⟨w1.heap.size + 1, 0, none⟩) 1 1]).run Try.prog
      ((w1.alloc (.cells #[.int .i64 p, .int .i64 e, .bool false, .bool false] 45)).alloc (.cells #[.int .i64 w, .int .i64 (b + e), .bool z, .bool t] 45)) = .ok (.slice (some ⟨g', 0, none⟩) 2 c') w' ∧
      W.heap.size ≤ g' ∧ g' < w'.heap.size ∧ R4 w' g' p e false false ∧ S4 w' g' w (b + e) z t ∧ Below W.heap.size w1 w' := by
    intro z t w1 hs
    have hb := bk_new w1 #[.int .i64 p, .int .i64 e, .bool false, .bool false] 45
    have hb2 := bk_new (w1.alloc (.cells #[.int .i64 p, .int .i64 e, .bool false, .bool false] 45)) #[.int .i64 w, .int .i64 (b + e), .bool z, .bool t] 45
    rw [size_box] at hb2
    obtain ⟨g', c', w', hr, h1, h2, h3, h4, h5⟩ := run_app_rule (P := Try.prog) 31 45 #[.int .i64 0, .int .i64 0, .bool false, .bool false] 24 Try.underlying31 (by kernel_rfl) (by kernel_rfl) (by decide) _ W.heap.size w1.heap.size (w1.heap.size + 1) hs p e false false w (b + e) z t (hb.alloc _) (BK.r4 hb2) 31
    exact ⟨g', c', w', hr, h1, h2, h3, h4, (((Below.refl _ w1).alloc hs _).alloc (by simp; omega) _).trans h5⟩
  have APP : Hid (∀ (z t : Bool) (w1 : World), _) := app
  clear h hv app
  rcases hk with rfl | rfl | rfl
  · go_enter Try.func14, Try.ntmps14
    go_wp2_with fail
    refine (refright_ok H.out _).mono ?_
    rintro x w1 ⟨rfl, b1⟩
    have C1 := C0.below b1 C0.lt
    obtain ⟨c0, c1, c2, c3, c4, c5⟩ := C1.facts
    have B1 := below_box2 b1
    have r1 := C1.lt
    obtain ⟨g, c, w2, hap, h1, h2, h3, h4, h5⟩ := APP.out false false w1 B1.size
    clear C0 C1 b1
    go_wp2_with (at_builtin; refine wpList_app hap _ _ rfl rfl rfl rfl rfl ?_)
    go_ret
    exact ⟨g, c, rfl, h1, h2, h3, h4, B1.trans h5⟩
  · go_enter Try.func14, Try.ntmps14
    go_wp2_with fail
    refine (refright_ok H.out _).mono ?_
    rintro x w1 ⟨rfl, b1⟩
    have C1 := C0.below b1 C0.lt
    obtain ⟨c0, c1, c2, c3, c4, c5⟩ := C1.facts
    have B1 := below_box2 b1
    have r1 := C1.lt
    obtain ⟨g, c, w2, hap, h1, h2, h3, h4, h5⟩ := APP.out true false w1 B1.size
    clear C0 C1 b1
    go_wp2_with (at_builtin; refine wpList_app hap _ _ rfl rfl rfl rfl rfl ?_)
    go_ret
    exact ⟨g, c, rfl, h1, h2, h3, h4, B1.trans h5⟩
  · go_enter Try.func14, Try.ntmps14
    go_wp2_with fail
    refine (refright_ok H.out _).mono ?_
    rintro x w1 ⟨rfl, b1⟩
    have C1 := C0.below b1 C0.lt
    obtain ⟨c0, c1, c2, c3, c4, c5⟩ := C1.facts
    have B1 := below_box2 b1
    have r1 := C1.lt
    obtain ⟨g, c, w2, hap, h1, h2, h3, h4, h5⟩ := APP.out true true w1 B1.size
    clear C0 C1 b1
    go_wp2_with (at_builtin; refine wpList_app hap _ _ rfl rfl rfl rfl rfl ?_)
    go_ret
    exact ⟨g, c, rfl, h1, h2, h3, h4, B1.trans h5⟩
end Go.Proofs.Ytelbfjjilccpbaa
