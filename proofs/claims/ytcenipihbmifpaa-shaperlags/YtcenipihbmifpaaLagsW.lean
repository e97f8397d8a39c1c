/- Proved here: the walk of ShaperLags. Conditions: as each theorem states them. -/
import Derived.Test.YtcenipihbmifpaaAwk
namespace Go.Proofs.Ytcenipihbmifpaa
set_option linter.unusedSimpArgs false
set_option linter.unusedVariables false
open Go.RowKit Go.Shelf

theorem stN_one {s x a t : Int} (ha : 0 ≤ a) : stN s [(x, a)] t = if t < a then s else x := by
  unfold stN
  simp only [List.foldl_cons, List.foldl_nil, pickC]
  split
  · rfl
  · rw [if_pos (by show -1 ≤ a; omega)]
/-- The shaper behind one change. -/
theorem lags_set {st to wl q t : Int} (s0 : 1 ≤ st) (s1 : st < 4294967296) (w0 : 0 ≤ wl) (w1 : wl < 4294967296) (q0 : 0 ≤ q) (q1 : q < 4294967296) (o0 : 1 ≤ to) (o1 : to < 4294967296) (t0 : 0 ≤ t) (t1 : t < 4294967296) :
    (Sh.mk0 st 0 wl q).setE (hM t) = 0 ∧ ((Sh.mk0 st 0 wl q).set (hM t) (hS to)).s = st ∧ ((Sh.mk0 st 0 wl q).set (hM t) (hS to)).L = [(to, t + if to < st then min q wl else wl)] := by
  have e1 : (Sh.mk0 st 0 wl q).come (hM t) = Sh.mk0 st 0 wl q := rfl
  have e2 : hS st = st := hS_id s0 (by omega)
  have e3 : hM wl = wl := hM_id w0 (by omega)
  have e4 : hM q = q := hM_id q0 (by omega)
  have e5 : hM t = t := hM_id t0 (by omega)
  have e6 : hS to = to := hS_id o0 (by omega)
  have e7 : (Sh.mk0 st 0 wl q).last = st := e2
  have ⟨r1, r2⟩ := set_room (S := Sh.mk0 st 0 wl q) (t := hM t) (st := hS to) (show (0 : Nat) ≠ 8 by decide)
  rw [r1, r2, e1]
  refine ⟨rfl, e2, ?_⟩
  show [] ++ [Sh.new _ _ _] = _
  unfold Sh.new
  rw [e7, e5, e6]
  show [(to, t + if to < st then min (hM q) (hM wl) else hM wl)] = _
  rw [e3, e4]

set_option maxHeartbeats 2000000 in
theorem lags_walk (st to wl q t : Int) (s0 : 0 ≤ st) (s1 : st < 4294967296) (w0 : 0 ≤ wl) (w1' : wl < 4294967296) (q0 : 0 ≤ q) (q1 : q < 4294967296) (o0 : 0 ≤ to) (o1 : to < 4294967296) (t0 : 0 ≤ t) (t1 : t < 4294967296) (w : World) :
    Calls Try.prog 6 #[.int .u32 st, .int .u32 to, .int .u32 wl, .int .u32 q, .int .u32 t] w fun e w' => e = .returned (.bool true) ∧ Below w.heap.size w w' := by
  by_cases hz : st = 0 ∨ to = 0
  · rcases hz with rfl | rfl
    · go_enter Try.func6, Try.ntmps6
      go_wp2_with fail
      refine (awake_calls _).mono ?_
      rintro e w1 ⟨rfl, b1⟩
      go_wp2_with fail
      refine (awake_calls _).mono ?_
      rintro e w2 ⟨rfl, b2⟩
      go_wp2
      go_ret
      exact ⟨rfl, b1.trans (b2.mono b1.size)⟩
    · by_cases hs : st = 0
      · subst hs
        go_enter Try.func6, Try.ntmps6
        go_wp2_with fail
        refine (awake_calls _).mono ?_
        rintro e w1 ⟨rfl, b1⟩
        go_wp2_with fail
        refine (awake_calls _).mono ?_
        rintro e w2 ⟨rfl, b2⟩
        go_wp2
        go_ret
        exact ⟨rfl, b1.trans (b2.mono b1.size)⟩
      · have h1 : (st == 0) = false := beq_eq_false_iff_ne.2 hs
        clear hs
        go_enter Try.func6, Try.ntmps6
        go_wp2_with fail
        refine (awake_calls _).mono ?_
        rintro e w1 ⟨rfl, b1⟩
        go_wp2_with fail
        refine (awake_calls _).mono ?_
        rintro e w2 ⟨rfl, b2⟩
        go_wp2
        go_ret
        exact ⟨rfl, b1.trans (b2.mono b1.size)⟩
  · have h1 : (st == 0) = false := beq_eq_false_iff_ne.2 (fun e => hz (.inl e))
    have h2 : (to == 0) = false := beq_eq_false_iff_ne.2 (fun e => hz (.inr e))
    have s0' : 1 ≤ st := by omega
    have o0' : 1 ≤ to := by omega
    have ⟨l1, l2, l3⟩ := lags_set s0' s1 w0 w1' q0 q1 o0' o1 t0 t1
    have H1 : Hid ((Sh.mk0 st 0 wl q).setE (hM t) = 0) := l1
    obtain ⟨S, hSe⟩ : ∃ S, (Sh.mk0 st 0 wl q).set (hM t) (hS to) = S := ⟨_, rfl⟩
    have HS : Hid ((Sh.mk0 st 0 wl q).set (hM t) (hS to) = S) := hSe
    rw [hSe] at l2 l3
    obtain ⟨lag, hlag⟩ : ∃ lag, (if to < st then min q wl else wl) = lag := ⟨_, rfl⟩
    rw [hlag] at l3
    have g0 : 0 ≤ lag := by rw [← hlag]; split <;> omega
    have g1 : lag < 4294967296 := by rw [← hlag]; split <;> omega
    have HL : Hid ((if to < st then min q wl else wl) = lag) := hlag
    have E1 : Hid (stN S.s S.L (hM (t + lag)) = to) := by
      show _ = _
      rw [l2, l3, stN_one (by omega), hM_id (by omega) (by omega), if_neg (by omega)]
    have E2 : Hid (t + lag ≠ 0 → stN S.s S.L (hM (t + lag - 1)) = st) := fun h => by
      rw [l2, l3, stN_one (by omega), hM_id (by omega) (by omega), if_pos (by omega)]
    have E3 : Hid ((S.L.length : Int) = 1) := by show _ = _; rw [l3]; rfl
    clear hSe l1 l2 l3 hlag hz
    go_enter Try.func6, Try.ntmps6
    go_wp2_with fail
    refine (awake_calls _).mono ?_
    rintro e w1 ⟨rfl, b1⟩
    go_wp2_with fail
    refine (snew_calls st 0 wl q _).mono ?_
    rintro e w2 ⟨rfl, h2', b2⟩
    have B2 := b1.trans (b2.mono b1.size)
    go_wp2_with fail
    refine (sset_calls h2' t to).mono ?_
    rintro e w3 ⟨rfl, F3, h3, g3⟩
    have ⟨B3, n3⟩ := ft_new B2 (fun k e => by have := b1.size; omega) (Nat.le_refl _) g3
    rw [H1.out]
    rw [HS.out] at h3
    clear b1 b2 B2 h2' g3
    by_cases hc : to < st
    · have hd : decide (to < st) = true := decide_eq_true hc
      have hm : (if q < wl then q else wl) = lag := by have := HL.out; rw [if_pos hc] at this; split <;> omega
      have hm' : (if wl < q then wl else q) = lag := by have := HL.out; rw [if_pos hc] at this; split <;> omega
      clear hc
      go_wp2_with fail
      refine (sstep_calls h3 (t + lag)).mono ?_
      rintro e w4 ⟨rfl, b4⟩
      rw [E1.out]
      have h4 := h3.below b4 (Nat.le_refl _)
      have B4 := B3.trans (b4.mono B3.size)
      clear h3 b4 B3
      by_cases hz : t + lag = 0
      · have hb : ((t + lag) == 0) = true := beq_iff_eq.2 hz
        clear hz
        go_wp2_with fail
        refine (swait_calls h4).mono ?_
        rintro e w5 ⟨rfl, rfl⟩
        rw [E3.out]
        go_wp2
        go_ret
        exact ⟨rfl, B4⟩
      · have hb : ((t + lag) == 0) = false := beq_eq_false_iff_ne.2 hz
        have E4 : Hid (stN S.s S.L (hM (t + lag - 1)) = st) := E2.out hz
        clear hz
        go_wp2_with fail
        refine (sstep_calls h4 (t + lag - 1)).mono ?_
        rintro e w5 ⟨rfl, b5⟩
        rw [E4.out]
        have h5 := h4.below b5 (Nat.le_refl _)
        have B5 := B4.trans (b5.mono B4.size)
        clear h4 b5 B4
        go_wp2_with fail
        refine (swait_calls h5).mono ?_
        rintro e w6 ⟨rfl, rfl⟩
        rw [E3.out]
        go_wp2
        go_ret
        exact ⟨rfl, B5⟩
    · have hd : decide (to < st) = false := decide_eq_false hc
      obtain rfl : wl = lag := by have := HL.out; rw [if_neg hc] at this; exact this
      clear hc HL
      go_wp2_with fail
      refine (sstep_calls h3 (t + wl)).mono ?_
      rintro e w4 ⟨rfl, b4⟩
      rw [E1.out]
      have h4 := h3.below b4 (Nat.le_refl _)
      have B4 := B3.trans (b4.mono B3.size)
      clear h3 b4 B3
      by_cases hz : t + wl = 0
      · have hb : ((t + wl) == 0) = true := beq_iff_eq.2 hz
        clear hz
        go_wp2_with fail
        refine (swait_calls h4).mono ?_
        rintro e w5 ⟨rfl, rfl⟩
        rw [E3.out]
        go_wp2
        go_ret
        exact ⟨rfl, B4⟩
      · have hb : ((t + wl) == 0) = false := beq_eq_false_iff_ne.2 hz
        have E4 : Hid (stN S.s S.L (hM (t + wl - 1)) = st) := E2.out hz
        clear hz
        go_wp2_with fail
        refine (sstep_calls h4 (t + wl - 1)).mono ?_
        rintro e w5 ⟨rfl, b5⟩
        rw [E4.out]
        have h5 := h4.below b5 (Nat.le_refl _)
        have B5 := B4.trans (b5.mono B4.size)
        clear h4 b5 B4
        go_wp2_with fail
        refine (swait_calls h5).mono ?_
        rintro e w6 ⟨rfl, rfl⟩
        rw [E3.out]
        go_wp2
        go_ret
        exact ⟨rfl, B5⟩
end Go.Proofs.Ytcenipihbmifpaa
