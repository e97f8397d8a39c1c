/- Proved here: what the document's Set and New answer, and what they leave. Conditions: as each theorem states them. -/
import Derived.Test.YtcenipihbmifpaaRefT
namespace Go.Proofs.Ytcenipihbmifpaa
set_option linter.unusedSimpArgs false
set_option linter.unusedVariables false
open Go.RowKit Go.Shelf

/-- The document's shaper has come to a time: all of it. -/
theorem rcome_all {w w1 W : World} {F : Nat → Prop} {r : Nat} {S : Sh} (h : RV w F r S) {m : Int} {a' : Option Addr} {j c' : Nat} (o : CS 66 w.heap.size w1 a' j c' (lfN S.L m)) (b : Below w.heap.size w w1)
    (hW : (w1.setCell ⟨r, 0, none⟩ (.int .i64 (stN S.s S.L m))).setCell ⟨r, 7, none⟩ (.slice a' j c') = W) :
    (∃ X A y, RB W r (stN S.s S.L m) S.e X A y S.slow S.quick (.slice a' j c') ∧ Lk X A y S.T) ∧ CS 66 w.heap.size W a' j c' (lfN S.L m) ∧ Ft F F w W := by
  obtain ⟨⟨X, A, y, a, n, c, hb, hc, hy, q1, q2, q3, q4, q5, q6⟩, hr, hl, ok⟩ := h
  have rl := hb.lt
  have hb1 := ((hb.below b rl).set 0 (.int .i64 (stN S.s S.L m))).set 7 (.slice a' j c')
  have hne : ∀ z, a' = some z → z.block ≠ r := fun z e => by subst e; have := o.lt.1; omega
  subst hW
  refine ⟨⟨X, A, y, hb1, ⟨q1, q2, q3, q4, q5, q6⟩⟩, o.keep (fun z e => ?_), ((Ft.of b (Nat.le_refl _)).trans (Ft.set w1 (p := ⟨r, 0, none⟩) hr _)).trans (Ft.set _ (p := ⟨r, 7, none⟩) hr _)⟩
  rw [Below.heap_setCell _ _ _ _ (by exact hne z e), Below.heap_setCell _ _ _ _ (by exact hne z e)]

/-- A change set: the appends, and what they leave. -/
theorem set_rv {w W : World} {F : Nat → Prop} {r : Nat} {S : Sh} {m v lag : Int} {a : Option Addr} {n c : Nat} {X A : Int} {y : Bool} (hb : RB W r (S.come m).s S.e X A y S.slow S.quick (.slice a n c)) (hk : Lk X A y S.T) (hc : CS 66 w.heap.size W a n c (S.come m).L) (hF : Ft F F w W) (hr : F r) (hl : ∀ k, F k → k < w.heap.size)
    (hn : n ≤ 8) (HE : S.set m v = { S.come m with L := (S.come m).L ++ [(S.come m).new m v] }) (HN : (S.come m).new m v = (v, m + lag)) (HO : (S.set m v).Ok) :
    ∃ a4 c4 w4, (Builtin.append_ #[34, 34] 34 #[.slice (some ⟨W.heap.size, 0, none⟩) 0 0, .slice a n c]).run Try.prog (W.alloc (.cells #[] 66)) = .ok (.slice a4 n c4) w4 ∧ w4.cell? ⟨r, 7, none⟩ = some (.slice a n c) ∧
      ∃ g5 c5 w5, (Builtin.append_ #[34, 34] 34 #[.slice a4 n c4, .slice (some ⟨w4.heap.size, 0, none⟩) 1 1]).run Try.prog (w4.alloc (.cells #[.int .i64 v, .int .i64 (m + lag)] 66)) = .ok (.slice (some ⟨g5, 0, none⟩) (n + 1) c5) w5 ∧
        w5.cell? ⟨r, 7, none⟩ = some (.slice a n c) ∧ w5.frozen? ⟨r, 7, none⟩ = false ∧ ∃ F', RV (w5.setCell ⟨r, 7, none⟩ (.slice (some ⟨g5, 0, none⟩) (n + 1) c5)) F' r (S.set m v) ∧ Ft F F' w (w5.setCell ⟨r, 7, none⟩ (.slice (some ⟨g5, 0, none⟩) (n + 1) c5)) := by
  have rl : r < W.heap.size := BK.lt hb
  have sz := hF.size
  have hrw := hl r hr
  have bel := (Below.refl _ W).alloc (Nat.le_refl _) (.cells #[] 66)
  obtain ⟨a4, c4, w4, run1, o4, b4⟩ := run_app_cs Try.underlying34 info_rc (W.alloc (.cells #[] 66)) W.heap.size (by simp) (some ⟨W.heap.size, 0, none⟩) 0 0 [] (cs_new _ _ W (Nat.le_refl _)) 34 a n c (S.come m).L (hc.below bel (Nat.le_refl _)) (by omega)
  rw [Nat.zero_add] at run1 o4
  rw [List.nil_append] at o4
  have B4 : Below W.heap.size W w4 := bel.trans b4
  have K4 : RB w4 r (S.come m).s S.e X A y S.slow S.quick (.slice a n c) := BK.below hb B4 rl
  have bel5 := (Below.refl _ w4).alloc (Nat.le_refl _) (.cells #[.int .i64 v, .int .i64 (m + lag)] 66)
  have o4' := o4.below bel5 (Nat.le_refl _)
  obtain ⟨g5, c5, w5, run2, o5, gr5, _⟩ := run_app_c Try.underlying34 info_rc (w4.alloc (.cells #[.int .i64 v, .int .i64 (m + lag)] 66)) W.heap.size (by have := B4.size; simp; omega) a4 n c4 (S.come m).L o4' (by omega) 34 (v, m + lag) w4.heap.size (bk_new _ _ _)
  have B5 : Below W.heap.size W w5 := (B4.trans (bel5.mono B4.size)).trans ((Below.refl _ _).grown gr5 (by have := B4.size; simp; omega) (fun k e => (o4'.2.lt k e).1))
  have K5 : RB w5 r (S.come m).s S.e X A y S.slow S.quick (.slice a n c) := BK.below hb B5 rl
  have hg5 := o5.lt
  simp only at hg5
  have K6 := BK.set K5 7 (.slice (some ⟨g5, 0, none⟩) (n + 1) c5)
  have F2 : Ft F F w (w5.setCell ⟨r, 7, none⟩ (.slice (some ⟨g5, 0, none⟩) (n + 1) c5)) := (hF.trans (Ft.of B5 (Nat.le_refl _))).trans (Ft.set _ (p := ⟨r, 7, none⟩) hr _)
  refine ⟨a4, c4, w4, run1, BK.cell K4 7 _ rfl, g5, c5, w5, run2, BK.cell K5 7 _ rfl, BK.frozen K5 7, fun k => F k ∨ k = g5, ⟨?_, .inl hr, fun k hk' => ?_, HO⟩, F2.wide (G := F) (.inl (by omega))⟩
  · rw [HE, HN]
    exact ⟨X, A, y, some ⟨g5, 0, none⟩, n + 1, c5, K6, (CS.mono (Nat.zero_le _) o5).keep (fun z e => by cases e; exact Below.heap_setCell _ _ _ _ (by show g5 ≠ r; omega)), fun z e => by cases e; exact ⟨.inr rfl, by show g5 ≠ r; omega⟩, hk.x0, hk.x1, hk.a0, hk.a1, hk.yes, hk.no⟩
  · rcases hk' with hk' | rfl
    · exact Nat.lt_of_lt_of_le (hl k hk') F2.size
    · have := hg5.2; simp [World.setCell]; omega

theorem hS_max (x : Int) : (if 1 < hM x then hM x else 1) = hS x := by unfold hM hS; split <;> omega
theorem last_at {S : Sh} {k : Nat} {x : Int × Int} (hl : S.L.length = k + 1) (hx : S.L[k]? = some x) : S.last = x.1 := by
  unfold Sh.last
  rw [List.getLast?_eq_getElem?, hl, Nat.add_sub_cancel, hx]

set_option maxHeartbeats 2000000 in
theorem rset_calls {w : World} {F : Nat → Prop} {r : Nat} {S : Sh} (h : RV w F r S) (t st : Int) : Calls Try.prog 13 #[.pointer (some ⟨r, 0, none⟩), .int .i64 t, .int .i64 st] w fun x w' => x = .returned (.int .i64 (S.setE (hM t))) ∧ ∃ F', RV w' F' r (S.set (hM t) (hS st)) ∧ Ft F F' w w' := by
  have H : Hid (RV w F r S) := h
  have ⟨m0, m1⟩ := hM_bound t
  have ⟨v0, v1⟩ := hS_bound st
  have HO : Hid ((S.set (hM t) (hS st)).Ok) := h.ok.set m0 m1 v0 v1
  have hcm := rcome_calls h t
  have hmx := hS_max st
  obtain ⟨m, hm⟩ : ∃ m, hM t = m := ⟨_, rfl⟩
  have HM : Hid (hM t = m) := hm
  obtain ⟨v, hv⟩ : ∃ v, hS st = v := ⟨_, rfl⟩
  rw [hm] at m0 m1 HO hcm ⊢
  rw [hv] at v0 v1 HO hmx ⊢
  have hcok := h.ok.come m
  obtain ⟨⟨_, _, _, _, _, _, hb, _⟩, hr, hl, ok⟩ := h
  have rl := hb.lt
  clear hm hv ok
  go_enter Try.func13, Try.ntmps13
  go_wp2_with fail
  refine hcm.mono ?_
  rintro x w1 ⟨a', j, c', rfl, o1, b1⟩
  have hb1 := hb.below b1 rl
  have c0 := hb1.cell 0 _ rfl
  have f0 := hb1.frozen 0
  have c7 := hb1.cell 7 _ rfl
  have f7 := hb1.frozen 7
  obtain ⟨W, hW⟩ : ∃ W, (w1.setCell ⟨r, 0, none⟩ (.int .i64 (stN S.s S.L m))).setCell ⟨r, 7, none⟩ (.slice a' j c') = W := ⟨_, rfl⟩
  obtain ⟨⟨X, A, y, hRB, hLk⟩, hCS, hFt⟩ := rcome_all H.out o1 b1 hW
  have HLk : Hid (Lk X A y S.T) := hLk
  have hj8 : j ≤ 8 := by rw [hCS.1]; exact hcok.len
  have Hj : Hid (j = (S.come m).L.length) := hCS.1
  clear hcm hb hb1 hLk
  by_cases hfull : j = 8
  · subst hfull
    have ⟨E1, E2⟩ := set_full (S := S) (t := m) (st := v) Hj.out.symm
    have HE1 : Hid (S.set m v = S.come m) := E1
    have HE2 : Hid (S.setE m = 9) := E2
    have HF : Hid (∃ F', RV W F' r (S.come m) ∧ Ft F F' w W) := by subst hW; exact rcome_rv H.out o1 b1
    have k7 := BK.cell hRB 7 _ rfl
    clear E1 E2 hRB hCS hFt
    go_wp2
    go_ret
    obtain ⟨F', h6, h7⟩ := HF.out
    exact ⟨sret_int HE2.out.symm, F', by rw [HE1.out]; exact h6, h7⟩
  · have ⟨E1, E2⟩ := set_room (S := S) (t := m) (st := v) (by rw [← Hj.out]; exact hfull)
    have HE1 : Hid (S.set m v = { S.come m with L := (S.come m).L ++ [(S.come m).new m v] }) := E1
    have HE2 : Hid (S.setE m = 0) := E2
    have hne : ((j : Int) == 8) = false := beq_eq_false_iff_ne.2 (by omega)
    have hla := hcok.last
    obtain ⟨lst, hlst⟩ : ∃ lst, (S.come m).last = lst := ⟨_, rfl⟩
    have HLs : Hid ((S.come m).last = lst) := hlst
    rw [hlst] at hla
    clear E1 E2 hfull hlst o1 b1
    have sl0 : 0 ≤ S.slow := hcok.w0
    have sl1 : S.slow ≤ 1152921504606846976 := hcok.w1
    have qk0 : 0 ≤ S.quick := hcok.q0
    have qk1 : S.quick ≤ 1152921504606846976 := hcok.q1
    have HR0 : Hid (RB W r (S.come m).s S.e X A y S.slow S.quick (.slice a' j c')) := hRB
    have HC0 : Hid (CS 66 w.heap.size W a' j c' (S.come m).L) := hCS
    have HF0 : Hid (Ft F F w W) := hFt
    clear hcok hCS hFt hRB
    by_cases hj0 : j = 0
    · have hls : stN S.s S.L m = lst := by
        rw [← HLs.out]
        unfold Sh.last
        rw [List.eq_nil_of_length_eq_zero (show (S.come m).L.length = 0 by rw [← Hj.out]; exact hj0)]
        rfl
      subst hj0
      rw [hls] at hW ⊢
      have k0 : W.cell? ⟨r, 0, none⟩ = some (.int .i64 lst) := by rw [← hls]; exact BK.cell HR0.out 0 _ rfl
      have k7 := BK.cell HR0.out 7 _ rfl
      have HR : Hid (RB W r (S.come m).s S.e X A y S.slow S.quick (.slice a' 0 c')) := HR0.out
      have HC : Hid (CS 66 w.heap.size W a' 0 c' (S.come m).L) := HC0.out
      have HFt : Hid (Ft F F w W) := HF0.out
      clear hls HR0 HC0 HF0
      go_wp2_with fail
      refine (rheld_calls st _).mono ?_
      rintro x w3 ⟨rfl, e3⟩
      rw [e3]
      clear e3
      have k5 := BK.cell HR.out 5 _ rfl
      go_wp2
      refine wp_region_held_drew (S := (fun w' => w'.cell? ⟨r, 5, none⟩ = some (.int .i64 S.slow))) (by kernel_rfl) k5 (fun hHeld => ?_)
      refine wpAnyH_take (i := 0) (oi := ({ dst := some 55, op := Op.move (Operand.tmp 1), type := 3, pos := _, after := #[], guard := none } : Oper)) (v := ?_) rfl (by kernel_rfl) (by kernel_rfl) (by kernel_rfl) (fun _ _ _ h => h) (Or.inl ⟨by rfl, ?_⟩) hHeld ?_
      rotate_left
      · (intro w hS; go_simp; try with_reducible rfl)
      try simp only [Act.put, List.setIfInBounds_toArray, List.set_cons_zero, List.set_cons_succ]
      refine wpAnyH_take (i := 2) (oi := ({ dst := some 57, op := Op.move (Operand.tmp 0), type := 26, pos := _, after := #[], guard := none } : Oper)) (v := ?_) rfl (by kernel_rfl) (by kernel_rfl) (by kernel_rfl) (fun _ _ _ h => h) (Or.inl ⟨by rfl, ?_⟩) hHeld ?_
      rotate_left
      · (intro w hS; go_simp; try with_reducible rfl)
      try simp only [Act.put, List.setIfInBounds_toArray, List.set_cons_zero, List.set_cons_succ]
      refine wpAnyH_take (i := 3) (oi := ({ dst := some 58, op := Op.nilCheck (Operand.tmp 57), type := 0, pos := _, after := #[{ on := 2, ground := Ground.data }], guard := none } : Oper)) (v := ?_) rfl (by kernel_rfl) (by kernel_rfl) (by kernel_rfl) (fun _ _ _ h => h) (Or.inl ⟨by rfl, ?_⟩) hHeld ?_
      rotate_left
      · (intro w hS; go_simp; try with_reducible rfl)
      try simp only [Act.put, List.setIfInBounds_toArray, List.set_cons_zero, List.set_cons_succ]
      refine wpAnyH_take (i := 4) (oi := ({ dst := some 59, op := Op.fieldAddr 41 (Operand.tmp 58) 1, type := 0, pos := _, after := #[{ on := 3, ground := Ground.data }], guard := none } : Oper)) (v := ?_) rfl (by kernel_rfl) (by kernel_rfl) (by kernel_rfl) (fun _ _ _ h => h) (Or.inl ⟨by rfl, ?_⟩) hHeld ?_
      rotate_left
      · (intro w hS; go_simp; try with_reducible rfl)
      try simp only [Act.put, List.setIfInBounds_toArray, List.set_cons_zero, List.set_cons_succ]
      refine wpAnyH_take (i := 5) (oi := ({ dst := some 60, op := Op.load 3 (Operand.tmp 59), type := 3, pos := _, after := #[{ on := 4, ground := Ground.data }], guard := none } : Oper)) (v := ?_) rfl (by kernel_rfl) (by kernel_rfl) (by kernel_rfl) (fun _ _ _ h => h) (Or.inl ⟨by rfl, ?_⟩) hHeld ?_
      rotate_left
      · (intro w hS; go_simp; try with_reducible rfl)
      try simp only [Act.put, List.setIfInBounds_toArray, List.set_cons_zero, List.set_cons_succ]
      refine wpAnyH_ready (rs := [1]) (by kernel_rfl) (by simp) ?_
      refine AllReadyH.cons (o := ({ dst := some 56, op := Op.call { callee := Callee.value (Operand.func 23), args := #[Operand.tmp 55], argTypes := #[3] }, type := 3, pos := _, after := #[{ on := 0, ground := Ground.data }], guard := none } : Oper)) rfl (fun K hK => ?_) AllReadyH.nil
      refine step_call (rheld_calls t _) (enters_of Try.func23 (by kernel_rfl) rfl) _ _ rfl rfl rfl ?_
      rintro e w4 ⟨rfl, rfl⟩
      rw [HM.out]
      refine ⟨_, rfl, hK.out _ _ k5 (fun hHeld => ?_)⟩
      clear hK K
      try simp only [Act.put, List.setIfInBounds_toArray, List.set_cons_zero, List.set_cons_succ]
      refine wpAnyH_take (i := 6) (oi := ({ dst := some 61, op := Op.binOp BinOp.add 3 (Operand.tmp 56) (Operand.tmp 60) 3, type := 3, pos := _, after := #[{ on := 1, ground := Ground.data }, { on := 5, ground := Ground.data }], guard := none } : Oper)) (v := ?_) rfl (by kernel_rfl) (by kernel_rfl) (by kernel_rfl) (fun _ _ _ h => h) (Or.inl ⟨by rfl, ?_⟩) hHeld ?_
      rotate_left
      · (intro w hS; go_simp; try with_reducible rfl)
      try simp only [Act.put, List.setIfInBounds_toArray, List.set_cons_zero, List.set_cons_succ]
      rw [swrap_id (x := m + S.slow) (by omega) (by omega)]
      refine wpAnyH_take (i := 7) (oi := ({ dst := some 8, op := Op.assign (Operand.tmp 61), type := 3, pos := _, after := #[{ on := 6, ground := Ground.data }, { on := 1, ground := Ground.chain }, { on := 0, ground := Ground.phase }, { on := 1, ground := Ground.phase }, { on := 2, ground := Ground.phase }, { on := 3, ground := Ground.phase }, { on := 4, ground := Ground.phase }, { on := 5, ground := Ground.phase }, { on := 6, ground := Ground.phase }], guard := none } : Oper)) (v := ?_) rfl (by kernel_rfl) (by kernel_rfl) (by kernel_rfl) (fun _ _ _ h => h) (Or.inl ⟨by rfl, ?_⟩) hHeld ?_
      rotate_left
      · (intro w hS; go_simp; try with_reducible rfl)
      try simp only [Act.put, List.setIfInBounds_toArray, List.set_cons_zero, List.set_cons_succ]
      refine wpAnyH_done (by kernel_rfl) ?_ _
      skip
      have HR2 : Hid (RB W.drew r (S.come m).s S.e X A y S.slow S.quick (.slice a' 0 c')) := HR.out
      have HC2 : Hid (CS 66 w.heap.size W.drew a' 0 c' (S.come m).L) := HC.out
      have HFt2 : Hid (Ft F F w W.drew) := HFt.out.drew
      clear k5 k7 HR HC HFt
      generalize W.drew = We at *
      have k7 := BK.cell HR2.out 7 _ rfl
      by_cases hvl : v < lst
      · have hd : decide (v < lst) = true := decide_eq_true hvl
        have HN : Hid ((S.come m).new m v = (v, m + S.quick)) := by show (S.come m).new m v = _; unfold Sh.new; rw [HLs.out, if_pos hvl]; rfl
        have k6 := BK.cell HR2.out 6 _ rfl
        clear hvl
        go_wp2
        refine wp_region_held_drew (S := (fun w' => w'.cell? ⟨r, 6, none⟩ = some (.int .i64 S.quick))) (by kernel_rfl) k6 (fun hHeld => ?_)
        refine wpAnyH_take (i := 0) (oi := ({ dst := some 65, op := Op.move (Operand.tmp 1), type := 3, pos := _, after := #[], guard := none } : Oper)) (v := ?_) rfl (by kernel_rfl) (by kernel_rfl) (by kernel_rfl) (fun _ _ _ h => h) (Or.inl ⟨by rfl, ?_⟩) hHeld ?_
        rotate_left
        · (intro w hS; go_simp; try with_reducible rfl)
        try simp only [Act.put, List.setIfInBounds_toArray, List.set_cons_zero, List.set_cons_succ]
        refine wpAnyH_take (i := 2) (oi := ({ dst := some 67, op := Op.move (Operand.tmp 0), type := 26, pos := _, after := #[], guard := none } : Oper)) (v := ?_) rfl (by kernel_rfl) (by kernel_rfl) (by kernel_rfl) (fun _ _ _ h => h) (Or.inl ⟨by rfl, ?_⟩) hHeld ?_
        rotate_left
        · (intro w hS; go_simp; try with_reducible rfl)
        try simp only [Act.put, List.setIfInBounds_toArray, List.set_cons_zero, List.set_cons_succ]
        refine wpAnyH_take (i := 3) (oi := ({ dst := some 68, op := Op.nilCheck (Operand.tmp 67), type := 0, pos := _, after := #[{ on := 2, ground := Ground.data }], guard := none } : Oper)) (v := ?_) rfl (by kernel_rfl) (by kernel_rfl) (by kernel_rfl) (fun _ _ _ h => h) (Or.inl ⟨by rfl, ?_⟩) hHeld ?_
        rotate_left
        · (intro w hS; go_simp; try with_reducible rfl)
        try simp only [Act.put, List.setIfInBounds_toArray, List.set_cons_zero, List.set_cons_succ]
        refine wpAnyH_take (i := 4) (oi := ({ dst := some 69, op := Op.fieldAddr 41 (Operand.tmp 68) 2, type := 0, pos := _, after := #[{ on := 3, ground := Ground.data }], guard := none } : Oper)) (v := ?_) rfl (by kernel_rfl) (by kernel_rfl) (by kernel_rfl) (fun _ _ _ h => h) (Or.inl ⟨by rfl, ?_⟩) hHeld ?_
        rotate_left
        · (intro w hS; go_simp; try with_reducible rfl)
        try simp only [Act.put, List.setIfInBounds_toArray, List.set_cons_zero, List.set_cons_succ]
        refine wpAnyH_take (i := 5) (oi := ({ dst := some 70, op := Op.load 3 (Operand.tmp 69), type := 3, pos := _, after := #[{ on := 4, ground := Ground.data }], guard := none } : Oper)) (v := ?_) rfl (by kernel_rfl) (by kernel_rfl) (by kernel_rfl) (fun _ _ _ h => h) (Or.inl ⟨by rfl, ?_⟩) hHeld ?_
        rotate_left
        · (intro w hS; go_simp; try with_reducible rfl)
        try simp only [Act.put, List.setIfInBounds_toArray, List.set_cons_zero, List.set_cons_succ]
        refine wpAnyH_ready (rs := [1]) (by kernel_rfl) (by simp) ?_
        refine AllReadyH.cons (o := ({ dst := some 66, op := Op.call { callee := Callee.value (Operand.func 23), args := #[Operand.tmp 65], argTypes := #[3] }, type := 3, pos := _, after := #[{ on := 0, ground := Ground.data }], guard := none } : Oper)) rfl (fun K hK => ?_) AllReadyH.nil
        refine step_call (rheld_calls t _) (enters_of Try.func23 (by kernel_rfl) rfl) _ _ rfl rfl rfl ?_
        rintro e w4 ⟨rfl, rfl⟩
        rw [HM.out]
        refine ⟨_, rfl, hK.out _ _ k6 (fun hHeld => ?_)⟩
        clear hK K
        try simp only [Act.put, List.setIfInBounds_toArray, List.set_cons_zero, List.set_cons_succ]
        refine wpAnyH_take (i := 6) (oi := ({ dst := some 71, op := Op.binOp BinOp.add 3 (Operand.tmp 66) (Operand.tmp 70) 3, type := 3, pos := _, after := #[{ on := 1, ground := Ground.data }, { on := 5, ground := Ground.data }], guard := none } : Oper)) (v := ?_) rfl (by kernel_rfl) (by kernel_rfl) (by kernel_rfl) (fun _ _ _ h => h) (Or.inl ⟨by rfl, ?_⟩) hHeld ?_
        rotate_left
        · (intro w hS; go_simp; try with_reducible rfl)
        try simp only [Act.put, List.setIfInBounds_toArray, List.set_cons_zero, List.set_cons_succ]
        rw [swrap_id (x := m + S.quick) (by omega) (by omega)]
        refine wpAnyH_take (i := 7) (oi := ({ dst := some 8, op := Op.assign (Operand.tmp 71), type := 3, pos := _, after := #[{ on := 6, ground := Ground.data }, { on := 1, ground := Ground.chain }, { on := 0, ground := Ground.phase }, { on := 1, ground := Ground.phase }, { on := 2, ground := Ground.phase }, { on := 3, ground := Ground.phase }, { on := 4, ground := Ground.phase }, { on := 5, ground := Ground.phase }, { on := 6, ground := Ground.phase }], guard := none } : Oper)) (v := ?_) rfl (by kernel_rfl) (by kernel_rfl) (by kernel_rfl) (fun _ _ _ h => h) (Or.inl ⟨by rfl, ?_⟩) hHeld ?_
        rotate_left
        · (intro w hS; go_simp; try with_reducible rfl)
        try simp only [Act.put, List.setIfInBounds_toArray, List.set_cons_zero, List.set_cons_succ]
        refine wpAnyH_done (by kernel_rfl) ?_ _
        skip
        have HR : Hid (RB We.drew r (S.come m).s S.e X A y S.slow S.quick (.slice a' 0 c')) := HR2.out
        have HC : Hid (CS 66 w.heap.size We.drew a' 0 c' (S.come m).L) := HC2.out
        have HFt : Hid (Ft F F w We.drew) := HFt2.out.drew
        clear k6 k7 HR2 HC2 HFt2
        generalize We.drew = Wf at *
        have k7 := BK.cell HR.out 7 _ rfl
        have rlW := BK.lt HR.out
        obtain ⟨a4, c4, w4, run1, cl4, g5, c5, w5, run2, cl5, fr5, HF⟩ := set_rv HR.out HLk.out HC.out HFt.out hr hl hj8 HE1.out HN.out HO.out
        have HHF : Hid _ := HF
        clear HF
        go_wp2_with (first | (at_builtin; refine wpList_app run1 _ _ rfl rfl rfl rfl rfl ?_) | (at_builtin; refine wpList_app run2 _ _ rfl rfl rfl rfl rfl ?_))
        go_ret
        obtain ⟨F', h6, h7⟩ := HHF.out
        exact ⟨sret_int HE2.out.symm, F', h6, h7⟩
      · have hd : decide (v < lst) = false := decide_eq_false hvl
        have HN : Hid ((S.come m).new m v = (v, m + S.slow)) := by show (S.come m).new m v = _; unfold Sh.new; rw [HLs.out, if_neg hvl]; rfl
        have HR : Hid (RB We r (S.come m).s S.e X A y S.slow S.quick (.slice a' 0 c')) := HR2.out
        have HC : Hid (CS 66 w.heap.size We a' 0 c' (S.come m).L) := HC2.out
        have HFt : Hid (Ft F F w We) := HFt2.out
        clear hvl HR2 HC2 HFt2
        have rlW := BK.lt HR.out
        obtain ⟨a4, c4, w4, run1, cl4, g5, c5, w5, run2, cl5, fr5, HF⟩ := set_rv HR.out HLk.out HC.out HFt.out hr hl hj8 HE1.out HN.out HO.out
        have HHF : Hid _ := HF
        clear HF
        go_wp2_with (first | (at_builtin; refine wpList_app run1 _ _ rfl rfl rfl rfl rfl ?_) | (at_builtin; refine wpList_app run2 _ _ rfl rfl rfl rfl rfl ?_))
        go_ret
        obtain ⟨F', h6, h7⟩ := HHF.out
        exact ⟨sret_int HE2.out.symm, F', h6, h7⟩
    · obtain ⟨k, rfl⟩ : ∃ k, j = k + 1 := ⟨j - 1, by omega⟩
      obtain ⟨x, hx⟩ : ∃ x, (S.come m).L[k]? = some x := ⟨_, List.getElem?_eq_getElem (by have := Hj.out; omega)⟩
      have hlx : lst = x.1 := by rw [← HLs.out]; exact last_at Hj.out.symm hx
      obtain ⟨g, rfl, d1, d2⟩ := HC0.out.cell hx
      rw [← hlx] at d1
      have k0 : W.cell? ⟨r, 0, none⟩ = some (.int .i64 (stN S.s S.L m)) := BK.cell HR0.out 0 _ rfl
      have k7 := BK.cell HR0.out 7 _ rfl
      have hk1 : IntKind.i64.wrap (((k + 1 : Nat) : Int) - 1) = (k : Int) := by rw [IntKind.wrap_i64]; omega
      have hk2 : IntKind.i64.wrap ((k : Int) + 1 - 1) = (k : Int) := by rw [IntKind.wrap_i64]; omega
      clear hx hlx hj0
      go_wp2
      refine wp_region_held_drew (S := (fun w' => w'.cell? ⟨r, 7, none⟩ = some (.slice (some ⟨g, 0, none⟩) (k + 1) c') ∧ w'.cell? ⟨g, k * 2, none⟩ = some (.int .i64 lst))) (by kernel_rfl) ⟨k7, d1⟩ (fun hHeld => ?_)
      refine wpAnyH_take (i := 0) (oi := ({ dst := some 39, op := Op.move (Operand.tmp 0), type := 26, pos := _, after := #[], guard := none } : Oper)) (v := ?_) rfl (by kernel_rfl) (by kernel_rfl) (by kernel_rfl) (fun _ _ _ h => h) (Or.inl ⟨by rfl, ?_⟩) hHeld ?_
      rotate_left
      · (intro w hS; go_simp; try with_reducible rfl)
      try simp only [Act.put, List.setIfInBounds_toArray, List.set_cons_zero, List.set_cons_succ]
      refine wpAnyH_take (i := 1) (oi := ({ dst := some 40, op := Op.nilCheck (Operand.tmp 39), type := 0, pos := _, after := #[{ on := 0, ground := Ground.data }], guard := none } : Oper)) (v := ?_) rfl (by kernel_rfl) (by kernel_rfl) (by kernel_rfl) (fun _ _ _ h => h) (Or.inl ⟨by rfl, ?_⟩) hHeld ?_
      rotate_left
      · (intro w hS; go_simp; try with_reducible rfl)
      try simp only [Act.put, List.setIfInBounds_toArray, List.set_cons_zero, List.set_cons_succ]
      refine wpAnyH_take (i := 2) (oi := ({ dst := some 41, op := Op.fieldAddr 41 (Operand.tmp 40) 3, type := 0, pos := _, after := #[{ on := 1, ground := Ground.data }], guard := none } : Oper)) (v := ?_) rfl (by kernel_rfl) (by kernel_rfl) (by kernel_rfl) (fun _ _ _ h => h) (Or.inl ⟨by rfl, ?_⟩) hHeld ?_
      rotate_left
      · (intro w hS; go_simp; try with_reducible rfl)
      try simp only [Act.put, List.setIfInBounds_toArray, List.set_cons_zero, List.set_cons_succ]
      refine wpAnyH_take (i := 3) (oi := ({ dst := some 42, op := Op.load 34 (Operand.tmp 41), type := 34, pos := _, after := #[{ on := 2, ground := Ground.data }], guard := none } : Oper)) (v := ?_) rfl (by kernel_rfl) (by kernel_rfl) (by kernel_rfl) (fun _ _ _ h => h) (Or.inl ⟨by rfl, ?_⟩) hHeld ?_
      rotate_left
      · (intro w hS; go_simp; try with_reducible rfl)
      try simp only [Act.put, List.setIfInBounds_toArray, List.set_cons_zero, List.set_cons_succ]
      refine wpAnyH_take (i := 4) (oi := ({ dst := some 43, op := Op.move (Operand.tmp 0), type := 26, pos := _, after := #[], guard := none } : Oper)) (v := ?_) rfl (by kernel_rfl) (by kernel_rfl) (by kernel_rfl) (fun _ _ _ h => h) (Or.inl ⟨by rfl, ?_⟩) hHeld ?_
      rotate_left
      · (intro w hS; go_simp; try with_reducible rfl)
      try simp only [Act.put, List.setIfInBounds_toArray, List.set_cons_zero, List.set_cons_succ]
      refine wpAnyH_take (i := 5) (oi := ({ dst := some 44, op := Op.nilCheck (Operand.tmp 43), type := 0, pos := _, after := #[{ on := 4, ground := Ground.data }], guard := none } : Oper)) (v := ?_) rfl (by kernel_rfl) (by kernel_rfl) (by kernel_rfl) (fun _ _ _ h => h) (Or.inl ⟨by rfl, ?_⟩) hHeld ?_
      rotate_left
      · (intro w hS; go_simp; try with_reducible rfl)
      try simp only [Act.put, List.setIfInBounds_toArray, List.set_cons_zero, List.set_cons_succ]
      refine wpAnyH_take (i := 6) (oi := ({ dst := some 45, op := Op.fieldAddr 41 (Operand.tmp 44) 3, type := 0, pos := _, after := #[{ on := 5, ground := Ground.data }], guard := none } : Oper)) (v := ?_) rfl (by kernel_rfl) (by kernel_rfl) (by kernel_rfl) (fun _ _ _ h => h) (Or.inl ⟨by rfl, ?_⟩) hHeld ?_
      rotate_left
      · (intro w hS; go_simp; try with_reducible rfl)
      try simp only [Act.put, List.setIfInBounds_toArray, List.set_cons_zero, List.set_cons_succ]
      refine wpAnyH_take (i := 7) (oi := ({ dst := some 46, op := Op.load 34 (Operand.tmp 45), type := 34, pos := _, after := #[{ on := 6, ground := Ground.data }], guard := none } : Oper)) (v := ?_) rfl (by kernel_rfl) (by kernel_rfl) (by kernel_rfl) (fun _ _ _ h => h) (Or.inl ⟨by rfl, ?_⟩) hHeld ?_
      rotate_left
      · (intro w hS; go_simp; try with_reducible rfl)
      try simp only [Act.put, List.setIfInBounds_toArray, List.set_cons_zero, List.set_cons_succ]
      refine wpAnyH_take (i := 8) (oi := ({ dst := some 47, op := Op.call { callee := Callee.builtin Builtin.len, args := #[Operand.tmp 46], argTypes := #[34] }, type := 3, pos := _, after := #[{ on := 7, ground := Ground.data }], guard := none } : Oper)) (v := ?_) rfl (by kernel_rfl) (by kernel_rfl) (by kernel_rfl) (fun _ _ _ h => h) (Or.inl ⟨by rfl, ?_⟩) hHeld ?_
      rotate_left
      · (intro w hS; go_simp; try with_reducible rfl)
      try simp only [Act.put, List.setIfInBounds_toArray, List.set_cons_zero, List.set_cons_succ]
      refine wpAnyH_take (i := 9) (oi := ({ dst := some 48, op := Op.binOp BinOp.sub 3 (Operand.tmp 47) (Operand.const (Value.int IntKind.i64 1)) 3, type := 3, pos := _, after := #[{ on := 8, ground := Ground.data }], guard := none } : Oper)) (v := ?_) rfl (by kernel_rfl) (by kernel_rfl) (by kernel_rfl) (fun _ _ _ h => h) (Or.inl ⟨by rfl, ?_⟩) hHeld ?_
      rotate_left
      · (intro w hS; go_simp; try with_reducible rfl)
      try simp only [Act.put, List.setIfInBounds_toArray, List.set_cons_zero, List.set_cons_succ]
      rw [swrap_id (x := (k : Int)) (by omega) (by omega)]
      refine wpAnyH_take (i := 10) (oi := ({ dst := some 49, op := Op.indexAddr 34 (Operand.tmp 42) (Operand.tmp 48), type := 0, pos := _, after := #[{ on := 3, ground := Ground.data }, { on := 9, ground := Ground.data }], guard := none } : Oper)) (v := ?_) rfl (by kernel_rfl) (by kernel_rfl) (by kernel_rfl) (fun _ _ _ h => h) (Or.inl ⟨by rfl, ?_⟩) hHeld ?_
      rotate_left
      · (intro w hS; go_simp; rw [if_pos (by omega)])
      try simp only [Act.put, List.setIfInBounds_toArray, List.set_cons_zero, List.set_cons_succ]
      refine wpAnyH_take (i := 11) (oi := ({ dst := some 50, op := Op.fieldAddr 66 (Operand.tmp 49) 0, type := 0, pos := _, after := #[{ on := 10, ground := Ground.data }], guard := none } : Oper)) (v := ?_) rfl (by kernel_rfl) (by kernel_rfl) (by kernel_rfl) (fun _ _ _ h => h) (Or.inl ⟨by rfl, ?_⟩) hHeld ?_
      rotate_left
      · (intro w hS; go_simp; try with_reducible rfl)
      try simp only [Act.put, List.setIfInBounds_toArray, List.set_cons_zero, List.set_cons_succ]
      refine wpAnyH_take (i := 12) (oi := ({ dst := some 51, op := Op.load 3 (Operand.tmp 50), type := 3, pos := _, after := #[{ on := 11, ground := Ground.data }], guard := none } : Oper)) (v := ?_) rfl (by kernel_rfl) (by kernel_rfl) (by kernel_rfl) (fun _ _ _ h => h) (Or.inl ⟨by rfl, ?_⟩) hHeld ?_
      rotate_left
      · (intro w hS; go_simp; try with_reducible rfl)
      try simp only [Act.put, List.setIfInBounds_toArray, List.set_cons_zero, List.set_cons_succ]
      refine wpAnyH_take (i := 13) (oi := ({ dst := some 7, op := Op.assign (Operand.tmp 51), type := 3, pos := _, after := #[{ on := 12, ground := Ground.data }, { on := 0, ground := Ground.phase }, { on := 1, ground := Ground.phase }, { on := 2, ground := Ground.phase }, { on := 3, ground := Ground.phase }, { on := 4, ground := Ground.phase }, { on := 5, ground := Ground.phase }, { on := 6, ground := Ground.phase }, { on := 7, ground := Ground.phase }, { on := 8, ground := Ground.phase }, { on := 9, ground := Ground.phase }, { on := 10, ground := Ground.phase }, { on := 11, ground := Ground.phase }, { on := 12, ground := Ground.phase }], guard := none } : Oper)) (v := ?_) rfl (by kernel_rfl) (by kernel_rfl) (by kernel_rfl) (fun _ _ _ h => h) (Or.inl ⟨by rfl, ?_⟩) hHeld ?_
      rotate_left
      · (intro w hS; go_simp; try with_reducible rfl)
      try simp only [Act.put, List.setIfInBounds_toArray, List.set_cons_zero, List.set_cons_succ]
      refine wpAnyH_done (by kernel_rfl) ?_ _
      skip
      have HR : Hid (RB W.drew r (S.come m).s S.e X A y S.slow S.quick (.slice (some ⟨g, 0, none⟩) (k + 1) c')) := HR0.out
      have HC : Hid (CS 66 w.heap.size W.drew (some ⟨g, 0, none⟩) (k + 1) c' (S.come m).L) := HC0.out
      have HFt : Hid (Ft F F w W.drew) := HF0.out.drew
      clear k0 k7 d1 d2 HR0 HC0 HF0 hW
      generalize W.drew = Wq at *
      have k7 := BK.cell HR.out 7 _ rfl
      go_wp2_with fail
      refine (rheld_calls st _).mono ?_
      rintro x w3 ⟨rfl, e3⟩
      rw [e3]
      clear e3
      have k5 := BK.cell HR.out 5 _ rfl
      go_wp2
      refine wp_region_held_drew (S := (fun w' => w'.cell? ⟨r, 5, none⟩ = some (.int .i64 S.slow))) (by kernel_rfl) k5 (fun hHeld => ?_)
      refine wpAnyH_take (i := 0) (oi := ({ dst := some 55, op := Op.move (Operand.tmp 1), type := 3, pos := _, after := #[], guard := none } : Oper)) (v := ?_) rfl (by kernel_rfl) (by kernel_rfl) (by kernel_rfl) (fun _ _ _ h => h) (Or.inl ⟨by rfl, ?_⟩) hHeld ?_
      rotate_left
      · (intro w hS; go_simp; try with_reducible rfl)
      try simp only [Act.put, List.setIfInBounds_toArray, List.set_cons_zero, List.set_cons_succ]
      refine wpAnyH_take (i := 2) (oi := ({ dst := some 57, op := Op.move (Operand.tmp 0), type := 26, pos := _, after := #[], guard := none } : Oper)) (v := ?_) rfl (by kernel_rfl) (by kernel_rfl) (by kernel_rfl) (fun _ _ _ h => h) (Or.inl ⟨by rfl, ?_⟩) hHeld ?_
      rotate_left
      · (intro w hS; go_simp; try with_reducible rfl)
      try simp only [Act.put, List.setIfInBounds_toArray, List.set_cons_zero, List.set_cons_succ]
      refine wpAnyH_take (i := 3) (oi := ({ dst := some 58, op := Op.nilCheck (Operand.tmp 57), type := 0, pos := _, after := #[{ on := 2, ground := Ground.data }], guard := none } : Oper)) (v := ?_) rfl (by kernel_rfl) (by kernel_rfl) (by kernel_rfl) (fun _ _ _ h => h) (Or.inl ⟨by rfl, ?_⟩) hHeld ?_
      rotate_left
      · (intro w hS; go_simp; try with_reducible rfl)
      try simp only [Act.put, List.setIfInBounds_toArray, List.set_cons_zero, List.set_cons_succ]
      refine wpAnyH_take (i := 4) (oi := ({ dst := some 59, op := Op.fieldAddr 41 (Operand.tmp 58) 1, type := 0, pos := _, after := #[{ on := 3, ground := Ground.data }], guard := none } : Oper)) (v := ?_) rfl (by kernel_rfl) (by kernel_rfl) (by kernel_rfl) (fun _ _ _ h => h) (Or.inl ⟨by rfl, ?_⟩) hHeld ?_
      rotate_left
      · (intro w hS; go_simp; try with_reducible rfl)
      try simp only [Act.put, List.setIfInBounds_toArray, List.set_cons_zero, List.set_cons_succ]
      refine wpAnyH_take (i := 5) (oi := ({ dst := some 60, op := Op.load 3 (Operand.tmp 59), type := 3, pos := _, after := #[{ on := 4, ground := Ground.data }], guard := none } : Oper)) (v := ?_) rfl (by kernel_rfl) (by kernel_rfl) (by kernel_rfl) (fun _ _ _ h => h) (Or.inl ⟨by rfl, ?_⟩) hHeld ?_
      rotate_left
      · (intro w hS; go_simp; try with_reducible rfl)
      try simp only [Act.put, List.setIfInBounds_toArray, List.set_cons_zero, List.set_cons_succ]
      refine wpAnyH_ready (rs := [1]) (by kernel_rfl) (by simp) ?_
      refine AllReadyH.cons (o := ({ dst := some 56, op := Op.call { callee := Callee.value (Operand.func 23), args := #[Operand.tmp 55], argTypes := #[3] }, type := 3, pos := _, after := #[{ on := 0, ground := Ground.data }], guard := none } : Oper)) rfl (fun K hK => ?_) AllReadyH.nil
      refine step_call (rheld_calls t _) (enters_of Try.func23 (by kernel_rfl) rfl) _ _ rfl rfl rfl ?_
      rintro e w4 ⟨rfl, rfl⟩
      rw [HM.out]
      refine ⟨_, rfl, hK.out _ _ k5 (fun hHeld => ?_)⟩
      clear hK K
      try simp only [Act.put, List.setIfInBounds_toArray, List.set_cons_zero, List.set_cons_succ]
      refine wpAnyH_take (i := 6) (oi := ({ dst := some 61, op := Op.binOp BinOp.add 3 (Operand.tmp 56) (Operand.tmp 60) 3, type := 3, pos := _, after := #[{ on := 1, ground := Ground.data }, { on := 5, ground := Ground.data }], guard := none } : Oper)) (v := ?_) rfl (by kernel_rfl) (by kernel_rfl) (by kernel_rfl) (fun _ _ _ h => h) (Or.inl ⟨by rfl, ?_⟩) hHeld ?_
      rotate_left
      · (intro w hS; go_simp; try with_reducible rfl)
      try simp only [Act.put, List.setIfInBounds_toArray, List.set_cons_zero, List.set_cons_succ]
      rw [swrap_id (x := m + S.slow) (by omega) (by omega)]
      refine wpAnyH_take (i := 7) (oi := ({ dst := some 8, op := Op.assign (Operand.tmp 61), type := 3, pos := _, after := #[{ on := 6, ground := Ground.data }, { on := 1, ground := Ground.chain }, { on := 0, ground := Ground.phase }, { on := 1, ground := Ground.phase }, { on := 2, ground := Ground.phase }, { on := 3, ground := Ground.phase }, { on := 4, ground := Ground.phase }, { on := 5, ground := Ground.phase }, { on := 6, ground := Ground.phase }], guard := none } : Oper)) (v := ?_) rfl (by kernel_rfl) (by kernel_rfl) (by kernel_rfl) (fun _ _ _ h => h) (Or.inl ⟨by rfl, ?_⟩) hHeld ?_
      rotate_left
      · (intro w hS; go_simp; try with_reducible rfl)
      try simp only [Act.put, List.setIfInBounds_toArray, List.set_cons_zero, List.set_cons_succ]
      refine wpAnyH_done (by kernel_rfl) ?_ _
      skip
      have HR2 : Hid (RB Wq.drew r (S.come m).s S.e X A y S.slow S.quick (.slice (some ⟨g, 0, none⟩) (k + 1) c')) := HR.out
      have HC2 : Hid (CS 66 w.heap.size Wq.drew (some ⟨g, 0, none⟩) (k + 1) c' (S.come m).L) := HC.out
      have HFt2 : Hid (Ft F F w Wq.drew) := HFt.out.drew
      clear k5 k7 HR HC HFt
      generalize Wq.drew = We at *
      have k7 := BK.cell HR2.out 7 _ rfl
      by_cases hvl : v < lst
      · have hd : decide (v < lst) = true := decide_eq_true hvl
        have HN : Hid ((S.come m).new m v = (v, m + S.quick)) := by show (S.come m).new m v = _; unfold Sh.new; rw [HLs.out, if_pos hvl]; rfl
        have k6 := BK.cell HR2.out 6 _ rfl
        clear hvl
        go_wp2
        refine wp_region_held_drew (S := (fun w' => w'.cell? ⟨r, 6, none⟩ = some (.int .i64 S.quick))) (by kernel_rfl) k6 (fun hHeld => ?_)
        refine wpAnyH_take (i := 0) (oi := ({ dst := some 65, op := Op.move (Operand.tmp 1), type := 3, pos := _, after := #[], guard := none } : Oper)) (v := ?_) rfl (by kernel_rfl) (by kernel_rfl) (by kernel_rfl) (fun _ _ _ h => h) (Or.inl ⟨by rfl, ?_⟩) hHeld ?_
        rotate_left
        · (intro w hS; go_simp; try with_reducible rfl)
        try simp only [Act.put, List.setIfInBounds_toArray, List.set_cons_zero, List.set_cons_succ]
        refine wpAnyH_take (i := 2) (oi := ({ dst := some 67, op := Op.move (Operand.tmp 0), type := 26, pos := _, after := #[], guard := none } : Oper)) (v := ?_) rfl (by kernel_rfl) (by kernel_rfl) (by kernel_rfl) (fun _ _ _ h => h) (Or.inl ⟨by rfl, ?_⟩) hHeld ?_
        rotate_left
        · (intro w hS; go_simp; try with_reducible rfl)
        try simp only [Act.put, List.setIfInBounds_toArray, List.set_cons_zero, List.set_cons_succ]
        refine wpAnyH_take (i := 3) (oi := ({ dst := some 68, op := Op.nilCheck (Operand.tmp 67), type := 0, pos := _, after := #[{ on := 2, ground := Ground.data }], guard := none } : Oper)) (v := ?_) rfl (by kernel_rfl) (by kernel_rfl) (by kernel_rfl) (fun _ _ _ h => h) (Or.inl ⟨by rfl, ?_⟩) hHeld ?_
        rotate_left
        · (intro w hS; go_simp; try with_reducible rfl)
        try simp only [Act.put, List.setIfInBounds_toArray, List.set_cons_zero, List.set_cons_succ]
        refine wpAnyH_take (i := 4) (oi := ({ dst := some 69, op := Op.fieldAddr 41 (Operand.tmp 68) 2, type := 0, pos := _, after := #[{ on := 3, ground := Ground.data }], guard := none } : Oper)) (v := ?_) rfl (by kernel_rfl) (by kernel_rfl) (by kernel_rfl) (fun _ _ _ h => h) (Or.inl ⟨by rfl, ?_⟩) hHeld ?_
        rotate_left
        · (intro w hS; go_simp; try with_reducible rfl)
        try simp only [Act.put, List.setIfInBounds_toArray, List.set_cons_zero, List.set_cons_succ]
        refine wpAnyH_take (i := 5) (oi := ({ dst := some 70, op := Op.load 3 (Operand.tmp 69), type := 3, pos := _, after := #[{ on := 4, ground := Ground.data }], guard := none } : Oper)) (v := ?_) rfl (by kernel_rfl) (by kernel_rfl) (by kernel_rfl) (fun _ _ _ h => h) (Or.inl ⟨by rfl, ?_⟩) hHeld ?_
        rotate_left
        · (intro w hS; go_simp; try with_reducible rfl)
        try simp only [Act.put, List.setIfInBounds_toArray, List.set_cons_zero, List.set_cons_succ]
        refine wpAnyH_ready (rs := [1]) (by kernel_rfl) (by simp) ?_
        refine AllReadyH.cons (o := ({ dst := some 66, op := Op.call { callee := Callee.value (Operand.func 23), args := #[Operand.tmp 65], argTypes := #[3] }, type := 3, pos := _, after := #[{ on := 0, ground := Ground.data }], guard := none } : Oper)) rfl (fun K hK => ?_) AllReadyH.nil
        refine step_call (rheld_calls t _) (enters_of Try.func23 (by kernel_rfl) rfl) _ _ rfl rfl rfl ?_
        rintro e w4 ⟨rfl, rfl⟩
        rw [HM.out]
        refine ⟨_, rfl, hK.out _ _ k6 (fun hHeld => ?_)⟩
        clear hK K
        try simp only [Act.put, List.setIfInBounds_toArray, List.set_cons_zero, List.set_cons_succ]
        refine wpAnyH_take (i := 6) (oi := ({ dst := some 71, op := Op.binOp BinOp.add 3 (Operand.tmp 66) (Operand.tmp 70) 3, type := 3, pos := _, after := #[{ on := 1, ground := Ground.data }, { on := 5, ground := Ground.data }], guard := none } : Oper)) (v := ?_) rfl (by kernel_rfl) (by kernel_rfl) (by kernel_rfl) (fun _ _ _ h => h) (Or.inl ⟨by rfl, ?_⟩) hHeld ?_
        rotate_left
        · (intro w hS; go_simp; try with_reducible rfl)
        try simp only [Act.put, List.setIfInBounds_toArray, List.set_cons_zero, List.set_cons_succ]
        rw [swrap_id (x := m + S.quick) (by omega) (by omega)]
        refine wpAnyH_take (i := 7) (oi := ({ dst := some 8, op := Op.assign (Operand.tmp 71), type := 3, pos := _, after := #[{ on := 6, ground := Ground.data }, { on := 1, ground := Ground.chain }, { on := 0, ground := Ground.phase }, { on := 1, ground := Ground.phase }, { on := 2, ground := Ground.phase }, { on := 3, ground := Ground.phase }, { on := 4, ground := Ground.phase }, { on := 5, ground := Ground.phase }, { on := 6, ground := Ground.phase }], guard := none } : Oper)) (v := ?_) rfl (by kernel_rfl) (by kernel_rfl) (by kernel_rfl) (fun _ _ _ h => h) (Or.inl ⟨by rfl, ?_⟩) hHeld ?_
        rotate_left
        · (intro w hS; go_simp; try with_reducible rfl)
        try simp only [Act.put, List.setIfInBounds_toArray, List.set_cons_zero, List.set_cons_succ]
        refine wpAnyH_done (by kernel_rfl) ?_ _
        skip
        have HR : Hid (RB We.drew r (S.come m).s S.e X A y S.slow S.quick (.slice (some ⟨g, 0, none⟩) (k + 1) c')) := HR2.out
        have HC : Hid (CS 66 w.heap.size We.drew (some ⟨g, 0, none⟩) (k + 1) c' (S.come m).L) := HC2.out
        have HFt : Hid (Ft F F w We.drew) := HFt2.out.drew
        clear k6 k7 HR2 HC2 HFt2
        generalize We.drew = Wf at *
        have k7 := BK.cell HR.out 7 _ rfl
        have rlW := BK.lt HR.out
        obtain ⟨a4, c4, w4, run1, cl4, g5, c5, w5, run2, cl5, fr5, HF⟩ := set_rv HR.out HLk.out HC.out HFt.out hr hl hj8 HE1.out HN.out HO.out
        have HHF : Hid _ := HF
        clear HF
        go_wp2_with (first | (at_builtin; refine wpList_app run1 _ _ rfl rfl rfl rfl rfl ?_) | (at_builtin; refine wpList_app run2 _ _ rfl rfl rfl rfl rfl ?_))
        go_ret
        obtain ⟨F', h6, h7⟩ := HHF.out
        exact ⟨sret_int HE2.out.symm, F', h6, h7⟩
      · have hd : decide (v < lst) = false := decide_eq_false hvl
        have HN : Hid ((S.come m).new m v = (v, m + S.slow)) := by show (S.come m).new m v = _; unfold Sh.new; rw [HLs.out, if_neg hvl]; rfl
        have HR : Hid (RB We r (S.come m).s S.e X A y S.slow S.quick (.slice (some ⟨g, 0, none⟩) (k + 1) c')) := HR2.out
        have HC : Hid (CS 66 w.heap.size We (some ⟨g, 0, none⟩) (k + 1) c' (S.come m).L) := HC2.out
        have HFt : Hid (Ft F F w We) := HFt2.out
        clear hvl HR2 HC2 HFt2
        have rlW := BK.lt HR.out
        obtain ⟨a4, c4, w4, run1, cl4, g5, c5, w5, run2, cl5, fr5, HF⟩ := set_rv HR.out HLk.out HC.out HFt.out hr hl hj8 HE1.out HN.out HO.out
        have HHF : Hid _ := HF
        clear HF
        go_wp2_with (first | (at_builtin; refine wpList_app run1 _ _ rfl rfl rfl rfl rfl ?_) | (at_builtin; refine wpList_app run2 _ _ rfl rfl rfl rfl rfl ?_))
        go_ret
        obtain ⟨F', h6, h7⟩ := HHF.out
        exact ⟨sret_int HE2.out.symm, F', h6, h7⟩
end Go.Proofs.Ytcenipihbmifpaa
