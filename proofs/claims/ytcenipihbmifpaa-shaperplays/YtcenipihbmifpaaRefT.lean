/- Proved here: what the document's Take answers, and what it leaves. Conditions: as each theorem states them. -/
import Derived.Test.YtcenipihbmifpaaRefB
namespace Go.Proofs.Ytcenipihbmifpaa
set_option linter.unusedSimpArgs false
set_option linter.unusedVariables false
open Go.RowKit Go.Shelf

/-- How the document's numbers tell the time at which the level has leaked out. -/
structure Lk (X A : Int) (y : Bool) (T : Int) : Prop where
  x0 : 0 ≤ X
  x1 : X ≤ 2305843009213693952
  a0 : 0 ≤ A
  a1 : A ≤ 1152921504606846976
  yes : y = true → T = A + X
  no : y = false → T = 0
theorem Lk.fit {X A : Int} {y : Bool} {T e m : Int} (h : Lk X A y T) (e0 : 0 ≤ e) (m0 : 0 ≤ m) : (!y || decide (X - (m - A) ≤ e)) = decide (T - e ≤ m) := by
  cases y with
  | false => rw [h.no rfl]; simp; omega
  | true => rw [h.yes rfl]; simp; omega

theorem RB.set {w : World} {r : Nat} {s e X A : Int} {y : Bool} {sl qk : Int} {v : Value} (h : RB w r s e X A y sl qk v) (X' A' : Int) : RB (((w.setCell ⟨r, 2, none⟩ (.int .i64 X')).setCell ⟨r, 3, none⟩ (.int .i64 A')).setCell ⟨r, 4, none⟩ (.bool true)) r s e X' A' true sl qk v := by
  have h1 := ((BK.set h 2 (.int .i64 X')).set 3 (.int .i64 A')).set 4 (.bool true)
  exact h1

theorem but_set3 {r n : Nat} {a w : World} (h : But r n a w) {u1 u2 u3 : Value} : But r n a (((w.setCell ⟨r, 2, none⟩ u1).setCell ⟨r, 3, none⟩ u2).setCell ⟨r, 4, none⟩ u3) :=
  But.set (p := ⟨r, 4, none⟩) (But.set (p := ⟨r, 3, none⟩) (But.set (p := ⟨r, 2, none⟩) h rfl _) rfl _) rfl _
set_option maxHeartbeats 1000000 in
theorem rb_calls {w : World} {r : Nat} {s e X A : Int} {y : Bool} {sl qk : Int} {v : Value} (h : RB w r s e X A y sl qk v) {T : Int} (hk : Lk X A y T) (s0 : 1 ≤ s) (s1 : s ≤ 1152921504606846976) (e0 : 0 ≤ e) (e1 : e ≤ 1152921504606846976) (t : Int) :
    Calls Try.prog 27 #[.pointer (some ⟨r, 0, none⟩), .int .i64 t] w fun z w' => z = .returned (.bool (decide (T - e ≤ hM t))) ∧ (∃ X' A' y', RB w' r s e X' A' y' sl qk v ∧ Lk X' A' y' (if T - e ≤ hM t then max T (hM t) + s else T)) ∧ But r w.heap.size w w' := by
  have ⟨m0, m1⟩ := hM_bound t
  have hfit := hk.fit (e := e) e0 m0
  have HFc := rfits_calls h hk.x0 hk.x1 hk.a0 hk.a1 t
  obtain ⟨m, hm⟩ : ∃ m, hM t = m := ⟨_, rfl⟩
  have HM : Hid (hM t = m) := hm
  rw [hm] at m0 m1 hfit HFc ⊢
  rw [hfit] at HFc
  clear hm hfit
  have rl := BK.lt h
  by_cases hf : T - e ≤ m
  · rw [decide_eq_true hf] at HFc ⊢
    rw [if_pos hf]
    cases y with
    | false =>
      have hT := hk.no rfl
      have HL : Hid (Lk s m true (max T m + s)) := ⟨by omega, by omega, m0, m1, fun _ => by omega, fun h => by cases h⟩
      clear hk hf
      go_enter Try.func27, Try.ntmps27
      go_wp2_with fail
      refine HFc.mono ?_
      rintro z w1 ⟨rfl, b1⟩
      have h1 : RB w1 r s e X A false sl qk v := h.below b1 rl
      obtain ⟨c0, c1, c2, c3, c4, f⟩ := h1.facts
      have f0 := f 2
      have f1 := f 3
      have f2 := f 4
      clear h HFc
      go_wp2_with fail
      refine (rheld_calls t _).mono ?_
      rintro z w2 ⟨rfl, rfl⟩
      rw [HM.out]
      go_wp2
      go_ret
      exact ⟨rfl, ⟨s, m, true, h1.set s m, HL.out⟩, but_set3 (But.of b1)⟩
    | true =>
      have hT := hk.yes rfl
      have x0 := hk.x0
      have x1 := hk.x1
      have a0 := hk.a0
      have a1 := hk.a1
      obtain ⟨u, hu⟩ : ∃ u, X - (m - A) = u := ⟨_, rfl⟩
      have HU : Hid (X - (m - A) = u) := hu
      obtain ⟨q, hq⟩ : ∃ q, (if 0 < u then u else 0) = q := ⟨_, rfl⟩
      have q0 : 0 ≤ q ∧ q ≤ e := by rw [← hq]; split <;> omega
      have HL : Hid (Lk (q + s) m true (max T m + s)) := ⟨by omega, by omega, m0, m1, fun _ => by rw [← hq]; split <;> omega, fun h => by cases h⟩
      obtain ⟨q0, q1⟩ := q0
      clear hk hf hT hu
      go_enter Try.func27, Try.ntmps27
      go_wp2_with fail
      refine HFc.mono ?_
      rintro z w1 ⟨rfl, b1⟩
      have h1 : RB w1 r s e X A true sl qk v := h.below b1 rl
      obtain ⟨c0, c1, c2, c3, c4, f⟩ := h1.facts
      clear h HFc
      go_wp2_with fail
      refine (rlevel_calls h1 x0 x1 a0 a1 t).mono ?_
      rintro z w2 ⟨rfl, b2⟩
      rw [HM.out, HU.out]
      have h2 : RB w2 r s e X A true sl qk v := h1.below b2 (BK.lt h1)
      have B2 := b1.trans (b2.mono b1.size)
      clear c0 c1 c2 c3 c4 f h1 b1 b2
      obtain ⟨c0, c1, c2, c3, c4, f⟩ := h2.facts
      have f0 := f 2
      have f1 := f 3
      have f2 := f 4
      go_wp2_with fail
      refine (rheld_calls t _).mono ?_
      rintro z w3 ⟨rfl, rfl⟩
      rw [HM.out]
      go_wp2
      go_ret
      exact ⟨rfl, ⟨q + s, m, true, h2.set (q + s) m, HL.out⟩, but_set3 (But.of B2)⟩
  · rw [decide_eq_false hf] at HFc ⊢
    rw [if_neg hf]
    have HL : Hid (Lk X A y T) := hk
    clear hk hf
    go_enter Try.func27, Try.ntmps27
    go_wp2_with fail
    refine HFc.mono ?_
    rintro z w1 ⟨rfl, b1⟩
    go_wp2
    go_ret
    exact ⟨rfl, ⟨X, A, y, h.below b1 rl, HL.out⟩, But.of b1⟩

/-- The document's shaper has come to a time. -/
theorem rcome_rv {w w1 : World} {F : Nat → Prop} {r : Nat} {S : Sh} (h : RV w F r S) {m : Int} {a' : Option Addr} {j c' : Nat} (o : CS 66 w.heap.size w1 a' j c' (lfN S.L m)) (b : Below w.heap.size w w1) :
    ∃ F', RV ((w1.setCell ⟨r, 0, none⟩ (.int .i64 (stN S.s S.L m))).setCell ⟨r, 7, none⟩ (.slice a' j c')) F' r (S.come m) ∧ Ft F F' w ((w1.setCell ⟨r, 0, none⟩ (.int .i64 (stN S.s S.L m))).setCell ⟨r, 7, none⟩ (.slice a' j c')) := by
  obtain ⟨⟨X, A, y, a, n, c, hb, hc, hy, q⟩, hr, hl, ok⟩ := h
  have rl := hb.lt
  have hb1 := ((hb.below b rl).set 0 (.int .i64 (stN S.s S.L m))).set 7 (.slice a' j c')
  have hne : ∀ z, a' = some z → z.block ≠ r := fun z e => by subst e; have := o.lt.1; omega
  have F2 : Ft F F w ((w1.setCell ⟨r, 0, none⟩ (.int .i64 (stN S.s S.L m))).setCell ⟨r, 7, none⟩ (.slice a' j c')) := ((Ft.of b (Nat.le_refl _)).trans (Ft.set w1 (p := ⟨r, 0, none⟩) hr _)).trans (Ft.set _ (p := ⟨r, 7, none⟩) hr _)
  refine ⟨fun k => F k ∨ ∃ z, a' = some z ∧ z.block = k, ⟨⟨X, A, y, a', j, c', hb1, (CS.mono (Nat.zero_le _) o).keep (fun z e => ?_), fun z e => ⟨.inr ⟨z, e, rfl⟩, hne z e⟩, q⟩, .inl hr, fun k hk => ?_, ok.come m⟩, ⟨F2.os, F2.tape, F2.output, F2.size, F2.block, fun k hk => ?_⟩⟩
  · rw [Below.heap_setCell _ _ _ _ (by exact hne z e), Below.heap_setCell _ _ _ _ (by exact hne z e)]
  · rcases hk with hk | ⟨z, rfl, rfl⟩
    · exact Nat.lt_of_lt_of_le (hl k hk) F2.size
    · have := o.lt.2; simp [World.setCell]; omega
  · rcases hk with hk | ⟨z, rfl, rfl⟩
    · exact .inl hk
    · exact .inr o.lt.1

theorem ft_but' {F : Nat → Prop} {b : Nat} {w w' : World} (h : But b w.heap.size w w') (hb : F b) : Ft F F w w' := ⟨h.os, h.tape, h.output, h.size, fun k hk hF => h.block k hk (fun e => hF (e ▸ hb)), fun _ hk => .inl hk⟩
theorem take_rv {w : World} {F : Nat → Prop} {r : Nat} {S : Sh} {m : Int} {X A : Int} {y : Bool} (hk : Lk X A y (if S.T - S.e ≤ m then max S.T m + (S.come m).s else S.T)) (HO : (S.take m).Ok) {a : Option Addr} {n c : Nat}
    (hb : RB w r (S.come m).s S.e X A y S.slow S.quick (.slice a n c)) (hc : CS 66 0 w a n c (S.come m).L) (hy : ∀ z, a = some z → F z.block ∧ z.block ≠ r) (hr : F r) (hl : ∀ k, F k → k < w.heap.size) : RV w F r (S.take m) := by
  have e1 : (S.take m).s = (S.come m).s ∧ (S.take m).e = S.e ∧ (S.take m).slow = S.slow ∧ (S.take m).quick = S.quick ∧ (S.take m).L = (S.come m).L ∧ (S.take m).T = (if S.T - S.e ≤ m then max S.T m + (S.come m).s else S.T) := by
    unfold Sh.take
    by_cases hf : S.T - S.e ≤ m
    · rw [if_pos (show (S.come m).fit m = true from decide_eq_true hf), if_pos hf]; exact ⟨rfl, rfl, rfl, rfl, rfl, rfl⟩
    · rw [if_neg (show ¬ (S.come m).fit m = true by show ¬ S.fit m = true; unfold Sh.fit; simpa using hf), if_neg hf]; exact ⟨rfl, rfl, rfl, rfl, rfl, rfl⟩
  obtain ⟨e1, e2, e3, e4, e5, e6⟩ := e1
  exact ⟨⟨X, A, y, a, n, c, by rw [e1, e2, e3, e4]; exact hb, by rw [e5]; exact hc, hy, hk.x0, hk.x1, hk.a0, hk.a1, by rw [e6]; exact hk.yes, by rw [e6]; exact hk.no⟩, hr, hl, HO⟩

set_option maxHeartbeats 1000000 in
theorem rtake_calls {w : World} {F : Nat → Prop} {r : Nat} {S : Sh} (h : RV w F r S) (t : Int) : Calls Try.prog 15 #[.pointer (some ⟨r, 0, none⟩), .int .i64 t] w fun x w' => x = .returned (.bool (S.fit (hM t))) ∧ ∃ F', RV w' F' r (S.take (hM t)) ∧ Ft F F' w w' := by
  have H : Hid (RV w F r S) := h
  have ⟨m0, m1⟩ := hM_bound t
  have HO : Hid ((S.take (hM t)).Ok) := h.ok.take m0 m1
  have hcm := rcome_calls h t
  obtain ⟨⟨X, A, y, a, n, c, hb, hc, hy, q⟩, hr, hl, ok⟩ := h
  have rl := hb.lt
  clear hc hy q hl ok
  go_enter Try.func15, Try.ntmps15
  go_wp2_with fail
  refine hcm.mono ?_
  rintro x w1 ⟨a', j, c', rfl, o1, b1⟩
  have hb1 := hb.below b1 rl
  have c0 := hb1.cell 0 _ rfl
  have f0 := hb1.frozen 0
  have c7 := hb1.cell 7 _ rfl
  have f7 := hb1.frozen 7
  obtain ⟨F2, h2, g2⟩ := rcome_rv H.out o1 b1
  clear hcm hb hb1
  have hcok := h2.ok
  obtain ⟨⟨X2, A2, y2, a2, n2, c2, hb2, hc2, hy2, q1, q2, q3, q4, q5, q6⟩, hr2, hl2, _⟩ := h2
  have HR := rb_calls (show RB _ r (S.come (hM t)).s S.e X2 A2 y2 S.slow S.quick (.slice a2 n2 c2) from hb2) (T := S.T) ⟨q1, q2, q3, q4, q5, q6⟩ hcok.s0 hcok.s1 hcok.e0 hcok.e1 t
  clear hb2 q1 q2 q3 q4 q5 q6 hcok o1 b1
  go_wp2_with fail
  refine HR.mono ?_
  rintro x w3 ⟨rfl, ⟨X3, A3, y3, hb3, lk3⟩, bu3⟩
  have HLk : Hid (Lk X3 A3 y3 (if S.T - S.e ≤ hM t then max S.T (hM t) + (S.come (hM t)).s else S.T)) := lk3
  clear HR lk3 c0 f0 c7 f7
  go_wp2
  go_ret
  exact ⟨rfl, F2, take_rv HLk.out HO.out hb3 (hc2.keep (fun z e => bu3.block _ (hl2 _ (hy2 z e).1) (hy2 z e).2)) hy2 hr2 (fun k hk => Nat.lt_of_lt_of_le (hl2 k hk) bu3.size), g2.trans (ft_but' bu3 hr2)⟩
end Go.Proofs.Ytcenipihbmifpaa
