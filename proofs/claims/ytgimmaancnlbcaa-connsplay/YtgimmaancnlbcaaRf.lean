/- Proved here: what the document's Right, Before, New, At, Get answer. Conditions: as each theorem states them. -/
import Derived.Test.YtgimmaancnlbcaaSm
namespace Go.Proofs.Ytgimmaancnlbcaa
set_option linter.unusedSimpArgs false
set_option linter.unusedVariables false
open Go.RowKit Go.Shelf

/-- The document's table in block q. -/
structure RT (w : World) (q : Nat) (L : List En) (room : Nat) : Prop where
  ex : ∃ a c, BK w q #[.slice a L.length c, .int .i64 (room : Int)] 40 ∧ w.ownsRow 0 65 4 (.slice a L.length c) L.length (ecells L)
theorem RT.lt {w : World} {q room : Nat} {L : List En} (h : RT w q L room) : q < w.heap.size := by obtain ⟨a, c, h1, _⟩ := h.ex; exact h1.lt
theorem RT.below {w w' : World} {q room m : Nat} {L : List En} (h : RT w q L room) (hb : Below m w w') (hm : w.heap.size ≤ m) : RT w' q L room := by
  obtain ⟨a, c, h1, h2⟩ := h.ex
  exact ⟨a, c, h1.below hb (Nat.lt_of_lt_of_le h1.lt hm), row_below h2 hb hm⟩
theorem row_other {w w' : World} {base size r m k : Nat} {e t : TypeId} {v : Value} {xs : List Value} {vs : Array Value} (h : w.ownsRow base e size v k xs) (hb : But r m w w') (hm : w.heap.size ≤ m) (hr : BK w r vs t) (ht : t ≠ e) : w'.ownsRow base e size v k xs := by
  refine ⟨h.1, ?_⟩
  rcases h.2 with h | ⟨g, cap, cur, e1, hg, hh, hc⟩
  · exact .inl h
  · exact .inr ⟨g, cap, cur, e1, hg, (hb.block g (by have := (Array.getElem?_eq_some_iff.1 hh).1; omega) (fun e' => by subst e'; have hr' : w.heap[_]? = _ := hr; rw [hh] at hr'; cases hr'; exact ht rfl)).trans hh, hc⟩
theorem RT.but {w w' : World} {q room m r : Nat} {L : List En} {vs : Array Value} {t : TypeId} (h : RT w q L room) (hb : But r m w w') (hm : w.heap.size ≤ m) (hq : q ≠ r) (hr : BK w r vs t) (ht : t ≠ 65) : RT w' q L room := by
  obtain ⟨a, c, h1, h2⟩ := h.ex
  exact ⟨a, c, h1.but hb (Nat.lt_of_lt_of_le h1.lt hm) hq, row_other h2 hb hm hr ht⟩

theorem fnd_found {L : List En} (hs : Srt L) {i : Nat} {x : En} (hx : L[i]? = some x) : fnd L x.1 = (i, true) := by
  induction L generalizing i with
  | nil => cases hx
  | cons y L ih =>
    have h' := List.pairwise_cons.1 hs
    cases i with
    | zero => simp at hx; subst hx; rw [fnd, if_pos rfl]
    | succ i =>
      have hx' : L[i]? = some x := by simpa using hx
      have hb := h'.1 x (List.mem_of_getElem? hx')
      rw [fnd, if_neg (bef_ne hb), if_neg (bef_asymm hb), ih h'.2 hx']
/-- What At tells. -/
def atN (L : List En) (k : Ky) : Int := if (fnd L k).2 = true then ((fnd L k).1 : Int) else -1

set_option maxHeartbeats 800000 in
theorem rright_calls (k : Ky) (w : World) : Calls Try.prog 24 #[keyV k] w fun e w' => e = .returned (.bool (rightK k)) ∧ Below w.heap.size w w' := by
  have HB := below_box w (.cells #[.int .i64 k.1, .int .i64 k.2.1, .int .i64 k.2.2] 24)
  obtain ⟨p, v, c⟩ := k
  have HR : Hid (rightK (p, v, c) = true ↔ (0 ≤ p ∧ p ≤ 7) ∧ (0 ≤ v ∧ v ≤ 4095) ∧ 0 ≤ c ∧ c ≤ 65535) := rightK_iff _
  have yes : ∀ b : Bool, (b = true ↔ (0 ≤ p ∧ p ≤ 7) ∧ (0 ≤ v ∧ v ≤ 4095) ∧ 0 ≤ c ∧ c ≤ 65535) → rightK (p, v, c) = b := fun b hb => by
    rw [Bool.eq_iff_iff]; exact HR.out.trans hb.symm
  by_cases h1 : 0 ≤ p
  · have d1 : decide (0 ≤ p) = true := decide_eq_true h1
    by_cases h2 : p < 8
    · have d2 : decide (p < 8) = true := decide_eq_true h2
      by_cases h3 : 0 ≤ v
      · have d3 : decide (0 ≤ v) = true := decide_eq_true h3
        by_cases h4 : v < 4096
        · have d4 : decide (v < 4096) = true := decide_eq_true h4
          by_cases h5 : 0 ≤ c
          · have d5 : decide (0 ≤ c) = true := decide_eq_true h5
            by_cases h6 : c < 65536
            · have d6 : decide (c < 65536) = true := decide_eq_true h6
              have e := yes true (by simp; omega)
              go_enter Try.func24, Try.ntmps24
              go_wp2
              go_ret
              exact ⟨by first | rfl | exact cret_bool e.symm, HB⟩
            · have d6 : decide (c < 65536) = false := decide_eq_false h6
              have e := yes false (by simp; omega)
              go_enter Try.func24, Try.ntmps24
              go_wp2
              go_ret
              exact ⟨by first | rfl | exact cret_bool e.symm, HB⟩
          · have d5 : decide (0 ≤ c) = false := decide_eq_false h5
            have e := yes false (by simp; omega)
            go_enter Try.func24, Try.ntmps24
            go_wp2
            go_ret
            exact ⟨by first | rfl | exact cret_bool e.symm, HB⟩
        · have d4 : decide (v < 4096) = false := decide_eq_false h4
          have e := yes false (by simp; omega)
          go_enter Try.func24, Try.ntmps24
          go_wp2
          go_ret
          exact ⟨by first | rfl | exact cret_bool e.symm, HB⟩
      · have d3 : decide (0 ≤ v) = false := decide_eq_false h3
        have e := yes false (by simp; omega)
        go_enter Try.func24, Try.ntmps24
        go_wp2
        go_ret
        exact ⟨by first | rfl | exact cret_bool e.symm, HB⟩
    · have d2 : decide (p < 8) = false := decide_eq_false h2
      have e := yes false (by simp; omega)
      go_enter Try.func24, Try.ntmps24
      go_wp2
      go_ret
      exact ⟨by first | rfl | exact cret_bool e.symm, HB⟩
  · have d1 : decide (0 ≤ p) = false := decide_eq_false h1
    have e := yes false (by simp; omega)
    go_enter Try.func24, Try.ntmps24
    go_wp2
    go_ret
    exact ⟨by first | rfl | exact cret_bool e.symm, HB⟩

set_option maxHeartbeats 800000 in
theorem rbefore_calls (a b : Ky) (w : World) : Calls Try.prog 29 #[keyV a, keyV b] w fun e w' => e = .returned (.bool (decide (bef a b))) ∧ Below w.heap.size w w' := by
  obtain ⟨a1, a2, a3⟩ := a
  obtain ⟨b1, b2, b3⟩ := b
  have HB : Below w.heap.size w ((w.alloc (.cells #[.int .i64 a1, .int .i64 a2, .int .i64 a3] 24)).alloc (.cells #[.int .i64 b1, .int .i64 b2, .int .i64 b3] 24)) :=
    ((Below.refl _ w).alloc (Nat.le_refl _) _).alloc (by simp) _
  have yes : ∀ p : Prop, [Decidable p] → (p ↔ bef (a1, a2, a3) (b1, b2, b3)) → decide p = decide (bef (a1, a2, a3) (b1, b2, b3)) := fun p _ hp => decide_eq_decide.2 hp
  by_cases h1 : a1 = b1
  · have d1 : (a1 != b1) = false := by simpa using h1
    by_cases h2 : a2 = b2
    · have d2 : (a2 != b2) = false := by simpa using h2
      have e : Hid (decide (a3 < b3) = decide (bef (a1, a2, a3) (b1, b2, b3))) := yes (a3 < b3) (by unfold bef; simp only; omega)
      clear h1 h2 yes
      go_enter Try.func29, Try.ntmps29
      go_wp2
      go_ret
      exact ⟨cret_bool e.out, HB⟩
    · have d2 : (a2 != b2) = true := by simpa using h2
      have e : Hid (decide (a2 < b2) = decide (bef (a1, a2, a3) (b1, b2, b3))) := yes (a2 < b2) (by unfold bef; simp only; omega)
      clear h1 h2 yes
      go_enter Try.func29, Try.ntmps29
      go_wp2
      go_ret
      exact ⟨cret_bool e.out, HB⟩
  · have d1 : (a1 != b1) = true := by simpa using h1
    have e : Hid (decide (a1 < b1) = decide (bef (a1, a2, a3) (b1, b2, b3))) := yes (a1 < b1) (by unfold bef; simp only; omega)
    clear h1 yes
    go_enter Try.func29, Try.ntmps29
    go_wp2
    go_ret
    exact ⟨cret_bool e.out, HB⟩

set_option maxHeartbeats 800000 in
theorem rnew_calls (r : Int) (w : World) : Calls Try.prog 11 #[.int .i64 r] w fun e w' => e = .returned (.pointer (some ⟨w.heap.size, 0, none⟩)) ∧ RT w' w.heap.size [] (roomN r) ∧ Below w.heap.size w w' := by
  obtain ⟨m1, h1⟩ : ∃ m1, (if 64 < r then (64 : Int) else r) = m1 := ⟨_, rfl⟩
  obtain ⟨m2, h2⟩ : ∃ m2, (if 0 < m1 then m1 else (0 : Int)) = m2 := ⟨_, rfl⟩
  have hm : Hid (m2 = (roomN r : Int)) := by
    show _ = _
    subst h2 h1
    unfold roomN
    split <;> split <;> omega
  go_enter Try.func11, Try.ntmps11
  go_wp2
  go_ret
  first
    | rw [hm.out]
    | skip
  exact ⟨rfl, ⟨none, 0, bk_new _ _ _, World.ownsRow_nil _ _ _ _⟩, below_box _ _⟩

set_option maxHeartbeats 2000000 in
theorem rat_calls {w : World} {q room : Nat} {L : List En} (h : RT w q L room) (hok : Ok L room) (k : Ky) :
    Calls Try.prog 28 #[.pointer (some ⟨q, 0, none⟩), keyV k] w fun e w' => e = .returned (.int .i64 (atN L k)) ∧ Below w.heap.size w w' := by
  have hlen : L.length ≤ 64 := Nat.le_trans hok.len hok.room
  have K0 := bk_new w #[.int .i64 k.1, .int .i64 k.2.1, .int .i64 k.2.2] 24
  have B0 := below_box w (.cells #[.int .i64 k.1, .int .i64 k.2.1, .int .i64 k.2.2] 24)
  obtain ⟨a, c, h1, h2⟩ := (h.below B0 (Nat.le_refl _)).ex
  have E1 := isE_row h2 rfl
  have HS : Hid (Srt L) := hok.srt
  have c0 := h1.cell 0 _ rfl
  have hqs := h1.lt
  clear h h2 hok
  go_enter Try.func28, Try.ntmps28
  go_wp2
  generalize w.alloc (.cells #[.int .i64 k.1, .int .i64 k.2.1, .int .i64 k.2.2] 24) = w1 at *
  clear c0
  go_loopw [11] (fun iv wr => ∃ (i : Nat), i ≤ L.length ∧ iv = .int .i64 i ∧ (∀ j x, j < i → L[j]? = some x → x.1 ≠ k) ∧ Below w1.heap.size w1 wr) (fun iv _ => L.length - (intOf iv).toNat)
  case atStart => exact ⟨0, Nat.zero_le _, rfl, fun j x hj => by omega, Below.refl _ _⟩
  case round =>
    obtain ⟨i, hi, rfl, hp, b2⟩ := hrel
    have HP : Hid (∀ j x, j < i → L[j]? = some x → x.1 ≠ k) := hp
    clear hp
    by_cases hlt : i < L.length
    · obtain ⟨x, hx⟩ : ∃ x, L[i]? = some x := ⟨L[i], by rw [List.getElem?_eq_getElem]⟩
      obtain ⟨g, off, rfl, hg, hc⟩ := E1.one hlt hx
      obtain ⟨y0, y1, y2, y3⟩ := hc _ b2
      have K1 := K0.below b2 K0.lt
      have k0 := K1.cell 0 _ rfl
      have k1 := K1.cell 1 _ rfl
      have k2 := K1.cell 2 _ rfl
      have q0 := (h1.below b2 h1.lt).cell 0 _ rfl
      have HX : Hid (L[i]? = some x) := hx
      have hq := eql_key x.1 k
      clear hx K1
      by_cases he : x.1 = k
      · have HE : Hid (x.1 = k) := he
        rw [decide_eq_true he] at hq
        clear he
        go_wp2
        go_region
        go_wp2
        go_ret
        refine ⟨cret_int ?_, B0.trans (b2.drew.mono B0.size)⟩
        have := fnd_found HS.out HX.out
        rw [HE.out] at this
        unfold atN
        rw [this]
        rfl
      · have HE : Hid (x.1 ≠ k) := he
        rw [decide_eq_false he] at hq
        clear he
        go_wp2
        go_region
        go_wp2
        go_roundw
        case rel => exact ⟨i + 1, by omega, by go_num, fun j y hj hy => by
          by_cases e : j = i
          · subst e; rw [HX.out] at hy; cases hy; exact HE.out
          · exact HP.out j y (by omega) hy, b2.drew⟩
        case measure => simp [intOf]; omega
    · obtain rfl : i = L.length := by omega
      go_wp2
      go_ret
      refine ⟨cret_int ?_, B0.trans (b2.mono B0.size)⟩
      unfold atN
      rw [fnd_absent HS.out (fun y hy => by obtain ⟨j, hj, e⟩ := List.mem_iff_getElem.1 hy; exact HP.out j y hj (by rw [List.getElem?_eq_getElem hj, e]))]
      rfl

theorem atN_neg {L : List En} {k : Ky} (h : (fnd L k).2 = false) : atN L k = -1 := by unfold atN; rw [h]; rfl
theorem atN_pos {L : List En} {k : Ky} (h : (fnd L k).2 = true) : atN L k = ((fnd L k).1 : Int) := by unfold atN; rw [if_pos h]

set_option maxHeartbeats 1000000 in
theorem rget_calls {w : World} {q room : Nat} {L : List En} (h : RT w q L room) (hok : Ok L room) (k : Ky) :
    Calls Try.prog 17 #[.pointer (some ⟨q, 0, none⟩), keyV k] w fun e w' => e = .returned (.tuple #[.int .i64 (getN L k), .bool (getB L k)]) ∧ Below w.heap.size w w' := by
  have B0 := below_box w (.cells #[.int .i64 k.1, .int .i64 k.2.1, .int .i64 k.2.2] 24)
  have R0 := h.below B0 (Nat.le_refl _)
  have HO : Hid (Ok L room) := hok
  have hlen : L.length ≤ 64 := Nat.le_trans hok.len hok.room
  clear h
  go_enter Try.func17, Try.ntmps17
  go_wp2_with fail
  refine (rat_calls R0 hok k).mono ?_
  rintro e w1 ⟨rfl, b1⟩
  have R1 := R0.below b1 (Nat.le_refl _)
  have B1 := B0.trans (b1.mono B0.size)
  clear R0 hok b1 B0
  cases hb : (fnd L k).2 with
  | false =>
    rw [atN_neg hb]
    have HB : Hid ((fnd L k).2 = false) := hb
    clear hb R1
    go_wp2
    go_returns
    exact ⟨ret_get (HO.out.get_no HB.out), B1⟩
  | true =>
    rw [atN_pos hb]
    obtain ⟨x, hx, hk⟩ := fnd_there hb
    have hi2 := fnd_lt hb
    have HG : Hid (getN L k = x.2 ∧ getB L k = true) := HO.out.get_yes hb hx
    obtain ⟨a, c, h1, h2⟩ := R1.ex
    generalize (fnd L k).1 = i at *
    obtain ⟨g, off, rfl, hg, hc⟩ := (isE_row h2 rfl).one hi2 hx
    obtain ⟨y0, y1, y2, y3⟩ := hc _ (Below.refl _ _)
    have c0 := h1.cell 0 _ rfl
    clear hb hx hk R1 h2 hc HO
    go_wp2
    go_returns
    exact ⟨ret_get HG.out, B1⟩
end Go.Proofs.Ytgimmaancnlbcaa
