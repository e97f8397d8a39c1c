/- Proved here: what contract.Always, contract.Most and contract.Fewer answer, of any contracts. Conditions: as each theorem states them. -/
import Derived.Test.YthmcnllkngheoaaRight
namespace Go.Proofs.Ythmcnllkngheoaa
set_option linter.unusedSimpArgs false
set_option linter.unusedVariables false
open Go.RowKit Go.Shelf

/-- A contract in block r. -/
def CC (W : World) (r : Nat) (k p e w b l : Int) : Prop := BK W r #[.int .i64 k, .int .i64 p, .int .i64 e, .int .i64 w, .int .i64 b, .int .i64 l] 23
theorem cc_new (W : World) (k p e w b l : Int) : CC (W.alloc (.cells #[.int .i64 k, .int .i64 p, .int .i64 e, .int .i64 w, .int .i64 b, .int .i64 l] 23)) W.heap.size k p e w b l := bk_new W _ _
theorem CC.facts {W : World} {r : Nat} {k p e w b l : Int} (h : CC W r k p e w b l) : W.cell? ⟨r, 0, none⟩ = some (.int .i64 k) ∧ W.cell? ⟨r, 1, none⟩ = some (.int .i64 p) ∧ W.cell? ⟨r, 2, none⟩ = some (.int .i64 e) ∧ W.cell? ⟨r, 3, none⟩ = some (.int .i64 w) ∧ W.cell? ⟨r, 4, none⟩ = some (.int .i64 b) ∧ W.cell? ⟨r, 5, none⟩ = some (.int .i64 l) :=
  ⟨BK.cell h 0 _ rfl, BK.cell h 1 _ rfl, BK.cell h 2 _ rfl, BK.cell h 3 _ rfl, BK.cell h 4 _ rfl, BK.cell h 5 _ rfl⟩
theorem CC.lt {W : World} {r : Nat} {k p e w b l : Int} (h : CC W r k p e w b l) : r < W.heap.size := BK.lt h
theorem CC.below {W W' : World} {n r : Nat} {k p e w b l : Int} (h : CC W r k p e w b l) (hb : Below n W W') (hn : r < n) : CC W' r k p e w b l := BK.below h hb hn
theorem size_box (W : World) (o : Obj) : (W.alloc o).heap.size = W.heap.size + 1 := by simp
theorem below_box (W : World) (o : Obj) : Below W.heap.size W (W.alloc o) := (Below.refl _ W).alloc (Nat.le_refl _) _
theorem below_box2 {W W1 : World} {o : Obj} (h : Below (W.alloc o).heap.size (W.alloc o) W1) : Below W.heap.size W W1 := (below_box W o).trans (h.mono (by simp))

/-- Can a contract be? -/
def okB (k p e w b l : Int) : Bool := errN k p e w b l == 0
theorem okB_err {k p e w b l : Int} (h : okB k p e w b l = true) : errN k p e w b l = 0 := by simpa [okB] using h
theorem okB_no {k p e w b l : Int} (h : okB k p e w b l = false) : errN k p e w b l = 11 ∨ errN k p e w b l = 12 := by
  have := errN_cases k p e w b l
  simp [okB] at h
  omega
theorem okB_iff {k p e w b l : Int} : okB k p e w b l = true ↔ (1 ≤ k ∧ k ≤ 7) ∧ canB k p e w b l = true := by rw [← errN_zero]; simp [okB]

/-- Right, by whether it can be. -/
theorem right_ok {k p e w b l : Int} (h : okB k p e w b l = true) (W : World) : Calls Try.prog 15 #[cV k p e w b l] W fun x W' => x = .returned (.int .i64 0) ∧ Below W.heap.size W W' := by
  have := right_calls k p e w b l W
  rwa [okB_err h] at this
theorem right_no {k p e w b l : Int} (h : okB k p e w b l = false) (W : World) : Calls Try.prog 15 #[cV k p e w b l] W fun x W' => ∃ E : Int, x = .returned (.int .i64 E) ∧ (E = 11 ∨ E = 12) ∧ Below W.heap.size W W' := by
  refine (right_calls k p e w b l W).mono ?_
  rintro x W' ⟨rfl, hb⟩
  exact ⟨_, rfl, okB_no h, hb⟩

/-- How many cells may come at the peak. -/
def mostN (k p e w b l : Int) : Int := bif okB k p e w b l && decide (p < w) then 1 + b.tdiv (w - p) else 0

theorem can_bounds {k p e w b l : Int} (h : okB k p e w b l = true) : 1 ≤ p ∧ p ≤ 1099511627776 ∧ 0 ≤ e ∧ e ≤ 1099511627776 ∧ 0 ≤ w ∧ w ≤ 1099511627776 ∧ 0 ≤ b ∧ b ≤ 1099511627776 := by
  rw [okB_iff] at h
  obtain ⟨_, h⟩ := h
  cases hv : vbrB k
  · rw [canB_plain hv] at h; omega
  · rw [canB_vbr hv] at h; omega
theorem can_vbr {k p e w b l : Int} (h : okB k p e w b l = true) (hp : p < w) : vbrB k = true := by
  have h2 := can_bounds h
  rw [okB_iff] at h
  obtain ⟨_, h⟩ := h
  cases hv : vbrB k
  · rw [canB_plain hv] at h; omega
  · rfl

/-- Does one allow no more than another? -/
def fewB (k p e w b l k2 p2 e2 w2 b2 l2 : Int) : Bool :=
  okB k p e w b l && okB k2 p2 e2 w2 b2 l2 && (k == k2) && (l == l2) && decide (p2 ≤ p) && decide (w2 ≤ w) && decide (e ≤ e2) && decide (b ≤ b2)

set_option maxHeartbeats 2000000 in
theorem fewer_calls (k p e w b l k2 p2 e2 w2 b2 l2 : Int) (W : World) : Calls Try.prog 16 #[cV k p e w b l, cV k2 p2 e2 w2 b2 l2] W fun x W' => x = .returned (.bool (fewB k p e w b l k2 p2 e2 w2 b2 l2)) ∧ Below W.heap.size W W' := by
  have C0 := cc_new W k p e w b l
  have B0 := below_box W (.cells #[.int .i64 k, .int .i64 p, .int .i64 e, .int .i64 w, .int .i64 b, .int .i64 l] 23)
  have D0 := cc_new (W.alloc (.cells #[.int .i64 k, .int .i64 p, .int .i64 e, .int .i64 w, .int .i64 b, .int .i64 l] 23)) k2 p2 e2 w2 b2 l2
  have A0 := C0.below (below_box _ (.cells #[.int .i64 k2, .int .i64 p2, .int .i64 e2, .int .i64 w2, .int .i64 b2, .int .i64 l2] 23)) C0.lt
  have B1 := B0.trans ((below_box (W.alloc (.cells #[.int .i64 k, .int .i64 p, .int .i64 e, .int .i64 w, .int .i64 b, .int .i64 l] 23)) (.cells #[.int .i64 k2, .int .i64 p2, .int .i64 e2, .int .i64 w2, .int .i64 b2, .int .i64 l2] 23)).mono B0.size)
  rw [size_box] at D0
  have r0 : W.heap.size < W.heap.size + 1 := by omega
  have HA : Hid (CC _ _ k p e w b l) := A0
  have HD : Hid (CC _ _ k2 p2 e2 w2 b2 l2) := D0
  have HB : Hid (Below _ W _) := B1
  clear C0 B0 D0 A0 B1
  unfold fewB
  cases ho : okB k p e w b l
  · have H : Hid (okB k p e w b l = false) := ho
    clear ho
    go_enter Try.func16, Try.ntmps16
    go_wp2_with fail
    refine (right_no H.out _).mono ?_
    rintro x w1 ⟨E, rfl, hE, b1⟩
    have B2 := HB.out.trans (b1.mono HB.out.size)
    rcases hE with rfl | rfl <;>
    · go_wp2
      go_ret
      exact ⟨rfl, B2⟩
  · have H : Hid (okB k p e w b l = true) := ho
    clear ho
    cases ho2 : okB k2 p2 e2 w2 b2 l2
    · have H2 : Hid (okB k2 p2 e2 w2 b2 l2 = false) := ho2
      clear ho2
      go_enter Try.func16, Try.ntmps16
      go_wp2_with fail
      refine (right_ok H.out _).mono ?_
      rintro x w1 ⟨rfl, b1⟩
      have B2 := HB.out.trans (b1.mono HB.out.size)
      have D1 := HD.out.below b1 HD.out.lt
      obtain ⟨d0, d1, d2, d3, d4, d5⟩ := D1.facts
      go_wp2_with fail
      refine (right_no H2.out _).mono ?_
      rintro x w2 ⟨E, rfl, hE, b2⟩
      have B3 := B2.trans (b2.mono B2.size)
      rcases hE with rfl | rfl <;>
      · go_wp2
        go_ret
        exact ⟨rfl, B3⟩
    · have H2 : Hid (okB k2 p2 e2 w2 b2 l2 = true) := ho2
      clear ho2
      go_enter Try.func16, Try.ntmps16
      go_wp2_with fail
      refine (right_ok H.out _).mono ?_
      rintro x w1 ⟨rfl, b1⟩
      have B2 := HB.out.trans (b1.mono HB.out.size)
      have D1 := HD.out.below b1 HD.out.lt
      have A1 := HA.out.below b1 HA.out.lt
      obtain ⟨d0, d1, d2, d3, d4, d5⟩ := D1.facts
      go_wp2_with fail
      refine (right_ok H2.out _).mono ?_
      rintro x w2 ⟨rfl, b2⟩
      have B3 := B2.trans (b2.mono B2.size)
      have D2 := D1.below b2 D1.lt
      have A2 := A1.below b2 A1.lt
      clear d0 d1 d2 d3 d4 d5 b1 b2
      obtain ⟨d0, d1, d2, d3, d4, d5⟩ := D2.facts
      obtain ⟨a0, a1, a2, a3, a4, a5⟩ := A2.facts
      clear D2 A2 D1 A1 HD HA HB B2 H H2
      go_wp2
      all_goals (go_ret; refine ⟨ret_b ?_, B3⟩; first | (simp [*]; done) | (simp [*]; intros; omega))
end Go.Proofs.Ythmcnllkngheoaa
