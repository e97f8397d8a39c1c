/- Proved here: what the document's shaper answers: how a time is held, what is left of its changes at a time. Conditions: as each theorem states them. -/
import Derived.Test.YtcenipihbmifpaaSW
namespace Go.Proofs.Ytcenipihbmifpaa
set_option linter.unusedSimpArgs false
set_option linter.unusedVariables false
open Go.RowKit Go.Shelf

/-- Changes appended to changes. -/
theorem run_app_cs {t e : TypeId} (ht : Try.prog.underlying t = some (.slice e)) (hinf : (Try.prog.info? e).map (fun i => (i.zero, i.size, i.bytes)) = some (some (.agg #[.int .i64 0, .int .i64 0]), 2, 16))
    (w : World) (base : Nat) (hbase : base ≤ w.heap.size) (a : Option Addr) (n c : Nat) (L : List (Int × Int)) (hv : CS e base w a n c L) (ty : TypeId) {base2 : Nat} (a2 : Option Addr) (m c2 : Nat) (M : List (Int × Int)) (hM : CS e base2 w a2 m c2 M) (hn : n + m ≤ 1000) :
    ∃ a' c' w', (Builtin.append_ #[t, t] ty #[.slice a n c, .slice a2 m c2]).run Try.prog w = .ok (.slice a' (n + m) c') w' ∧ CS e base w' a' (n + m) c' (L ++ M) ∧ Below base w w' := by
  obtain ⟨i0, hi, hz0, hz1, hz2⟩ := info_parts hinf
  obtain ⟨rfl, hown⟩ := hv
  have hmM := hM.1
  cases a2 with
  | none =>
    obtain ⟨rfl, rfl, rfl⟩ := hM.none
    exact ⟨a, c, w, run_append_owned_none (P := Try.prog) (w := w) base t ty e i0 2 ht hi _ _ _ hown, ⟨by simp, by simpa using hown⟩, Below.refl _ _⟩
  | some y =>
    obtain ⟨g, cur, rfl, _, hh, _, _, _, h4⟩ := hM.block
    have hnews : ∀ j u, (ccells M)[j]? = some u → w.cell? ((⟨g, 0, none⟩ : Addr).add j) = some u := by
      intro j u hu
      rw [Addr.add_lit, Nat.zero_add]
      rw [← h4, List.getElem?_take] at hu
      split at hu
      · exact hh.cell _ _ (by simpa using hu)
      · cases hu
    obtain ⟨v', w', hrun, ho, hgr, hne⟩ := run_append_own (P := Try.prog) w base t ty e i0 _ 2 16 ht hi hz0 hz1 hz2 rfl (by decide) _ _ _ hown ⟨g, 0, none⟩ m c2 (ccells M) (by rw [ccells_length, hmM]) hnews ccells_one (by unfold maxLen; omega) (by omega) hbase
    have hB : Below base w w' := (Below.refl base w).grown hgr hbase (fun k e => (hown.lt k e).1)
    obtain ⟨hl, h⟩ := ho
    have h' := h
    rcases h with ⟨e1, hn0⟩ | ⟨g', cap, cur', e1, _⟩
    · subst e1
      refine ⟨none, 0, w', by rw [hn0]; exact hrun, ⟨by simp [hmM], ⟨by rw [ccells_append]; exact hl, by rw [ccells_append, hn0]; rw [hn0] at h'; exact h'⟩⟩, hB⟩
    · subst e1
      exact ⟨_, cap, w', hrun, ⟨by simp [hmM], ⟨by rw [ccells_append]; exact hl, by rw [ccells_append]; exact h'⟩⟩, hB⟩

set_option maxHeartbeats 400000 in
theorem rheld_calls (x : Int) (w : World) : Calls Try.prog 23 #[.int .i64 x] w fun e w' => e = .returned (.int .i64 (hM x)) ∧ w' = w := by
  go_enter Try.func23, Try.ntmps23
  go_wp2 <;> (go_ret; exact ⟨sret_int (by unfold hM; omega), rfl⟩)

/-- The document's shaper in block r, of the blocks F. -/
structure RV (w : World) (F : Nat → Prop) (r : Nat) (S : Sh) : Prop where
  ex : ∃ (X A : Int) (y : Bool) (a : Option Addr) (n c : Nat), BK w r #[.int .i64 S.s, .int .i64 S.e, .int .i64 X, .int .i64 A, .bool y, .int .i64 S.slow, .int .i64 S.quick, .slice a n c] 41 ∧ CS 66 0 w a n c S.L ∧ (∀ z, a = some z → F z.block ∧ z.block ≠ r) ∧
    0 ≤ X ∧ X ≤ 2305843009213693952 ∧ 0 ≤ A ∧ A ≤ 1152921504606846976 ∧ (y = true → S.T = A + X) ∧ (y = false → S.T = 0)
  hr : F r
  lt : ∀ k, F k → k < w.heap.size
  ok : S.Ok
theorem RV.frame {F F' G : Nat → Prop} {w w' : World} {r : Nat} {S : Sh} (h : RV w G r S) (k : Ft F F' w w') (hs : ∀ k, F k → ¬ G k) : RV w' G r S := by
  obtain ⟨⟨X, A, y, a, n, c, hb, hc, hy, q⟩, h1, h2, h3⟩ := h
  have key : ∀ j, G j → w'.heap[j]? = w.heap[j]? := fun j hj => k.block j (h2 j hj) (fun hF => hs j hF hj)
  exact ⟨⟨X, A, y, a, n, c, (key r h1).trans hb, hc.keep (fun y e => key _ (hy y e).1), hy, q⟩, h1, fun j hj => Nat.lt_of_lt_of_le (h2 j hj) k.size, h3⟩
theorem RV.below {G : Nat → Prop} {w w' : World} {r : Nat} {S : Sh} (h : RV w G r S) {m : Nat} (hb : Below m w w') (hm : w.heap.size ≤ m) : RV w' G r S := h.frame (F := fun _ => False) (F' := fun _ => False) (Ft.of hb hm) (fun _ h => h.elim)

theorem lfN_snoc' (L : List (Int × Int)) (x : Int × Int) (t : Int) : lfN (L ++ [x]) t = if t < x.2 then lfN L t ++ [x] else lfN L t := by rw [lfN_snoc]; split <;> simp

set_option maxHeartbeats 2000000 in
theorem rcome_calls {w : World} {F : Nat → Prop} {r : Nat} {S : Sh} (h : RV w F r S) (t : Int) : Calls Try.prog 16 #[.pointer (some ⟨r, 0, none⟩), .int .i64 t] w fun x w' => ∃ a' m c', x = .returned (.tuple #[.int .i64 (stN S.s S.L (hM t)), .slice a' m c']) ∧ CS 66 w.heap.size w' a' m c' (lfN S.L (hM t)) ∧ Below w.heap.size w w' := by
  obtain ⟨⟨X, A, y, a, n, c, hb, hc, hy, _⟩, hr, hl, ok⟩ := h
  have rl := hb.lt
  have c0 := hb.cell 0 _ rfl
  have c7 := hb.cell 7 _ rfl
  have hn8 : n ≤ 8 := by rw [hc.1]; exact ok.len
  have HnL : Hid (n = S.L.length) := hc.1
  have HLb : Hid (∀ y ∈ S.L, 1 ≤ y.1 ∧ y.1 ≤ 1152921504606846976 ∧ 0 ≤ y.2 ∧ y.2 ≤ 2305843009213693952) := ok.L0
  obtain ⟨m, hm⟩ : ∃ m, hM t = m := ⟨_, rfl⟩
  have HM : Hid (hM t = m) := hm
  rw [hm]
  clear hm hy hl hr ok
  go_enter Try.func16, Try.ntmps16
  go_wp2
  go_loopw [6, 7, 8, 20] (fun sv av lv iv wr => ∃ (k : Nat) (p : Int × Int) (a' : Option Addr) (j c' : Nat), k ≤ n ∧ sv = .int .i64 p.1 ∧ av = .int .i64 p.2 ∧ lv = .slice a' j c' ∧ iv = .int .i64 k ∧ j ≤ k ∧ (S.L.take k).foldl (pickC m) (S.s, -1) = p ∧ CS 66 w.heap.size wr a' j c' (lfN (S.L.take k) m) ∧ Below w.heap.size w wr) (fun _ _ _ iv _ => n - (intOf iv).toNat)
  case atStart => exact ⟨0, (S.s, -1), none, 0, 0, Nat.zero_le _, rfl, rfl, rfl, rfl, Nat.le_refl _, rfl, cs_nil _ _ _, Below.refl _ _⟩
  case round =>
    obtain ⟨k, p, a', j, c', hk, rfl, rfl, rfl, rfl, hj, hp, o1, b1⟩ := hrel
    have HP : Hid ((S.L.take k).foldl (pickC m) (S.s, -1) = p) := hp
    clear hp
    by_cases hlt : k < n
    · obtain ⟨x, hx⟩ : ∃ x, S.L[k]? = some x := ⟨_, List.getElem?_eq_getElem (by have := HnL.out; omega)⟩
      obtain ⟨g, rfl, d1, d2⟩ := (hc.below b1 (Nat.le_refl _)).cell hx
      have r7 := (hb.below b1 rl).cell 7 _ rfl
      have HT : Hid (S.L.take (k + 1) = S.L.take k ++ [x]) := by show _ = _; rw [List.take_add_one, hx]; rfl
      have hgl := hc.lt.2
      simp at hgl
      clear hx c0 c7
      go_wp2
      refine wp_region_held_drew (S := (fun w' => w'.cell? ⟨r, 7, none⟩ = some (.slice (some ⟨g, 0, none⟩) n c) ∧ w'.cell? ⟨g, k * 2 + 1, none⟩ = some (.int .i64 x.2))) (by kernel_rfl) ⟨r7, d2⟩ (fun hHeld => ?_)
      refine wpAnyH_take (i := 0) (oi := ({ dst := some 23, op := Op.move (Operand.tmp 0), type := 26, pos := _, after := #[], guard := none } : Oper)) (v := ?_) rfl (by kernel_rfl) (by kernel_rfl) (by kernel_rfl) (fun _ _ _ h => h) (Or.inl ⟨by rfl, ?_⟩) hHeld ?_
      rotate_left
      · (intro w hS; go_simp; try with_reducible rfl)
      try simp only [Act.put, List.setIfInBounds_toArray, List.set_cons_zero, List.set_cons_succ]
      refine wpAnyH_take (i := 1) (oi := ({ dst := some 24, op := Op.nilCheck (Operand.tmp 23), type := 0, pos := _, after := #[{ on := 0, ground := Ground.data }], guard := none } : Oper)) (v := ?_) rfl (by kernel_rfl) (by kernel_rfl) (by kernel_rfl) (fun _ _ _ h => h) (Or.inl ⟨by rfl, ?_⟩) hHeld ?_
      rotate_left
      · (intro w hS; go_simp; try with_reducible rfl)
      try simp only [Act.put, List.setIfInBounds_toArray, List.set_cons_zero, List.set_cons_succ]
      refine wpAnyH_take (i := 2) (oi := ({ dst := some 25, op := Op.fieldAddr 41 (Operand.tmp 24) 3, type := 0, pos := _, after := #[{ on := 1, ground := Ground.data }], guard := none } : Oper)) (v := ?_) rfl (by kernel_rfl) (by kernel_rfl) (by kernel_rfl) (fun _ _ _ h => h) (Or.inl ⟨by rfl, ?_⟩) hHeld ?_
      rotate_left
      · (intro w hS; go_simp; try with_reducible rfl)
      try simp only [Act.put, List.setIfInBounds_toArray, List.set_cons_zero, List.set_cons_succ]
      refine wpAnyH_take (i := 3) (oi := ({ dst := some 26, op := Op.load 34 (Operand.tmp 25), type := 34, pos := _, after := #[{ on := 2, ground := Ground.data }], guard := none } : Oper)) (v := ?_) rfl (by kernel_rfl) (by kernel_rfl) (by kernel_rfl) (fun _ _ _ h => h) (Or.inl ⟨by rfl, ?_⟩) hHeld ?_
      rotate_left
      · (intro w hS; go_simp; try with_reducible rfl)
      try simp only [Act.put, List.setIfInBounds_toArray, List.set_cons_zero, List.set_cons_succ]
      refine wpAnyH_take (i := 4) (oi := ({ dst := some 27, op := Op.move (Operand.tmp 9), type := 3, pos := _, after := #[], guard := none } : Oper)) (v := ?_) rfl (by kernel_rfl) (by kernel_rfl) (by kernel_rfl) (fun _ _ _ h => h) (Or.inl ⟨by rfl, ?_⟩) hHeld ?_
      rotate_left
      · (intro w hS; go_simp; try with_reducible rfl)
      try simp only [Act.put, List.setIfInBounds_toArray, List.set_cons_zero, List.set_cons_succ]
      refine wpAnyH_take (i := 5) (oi := ({ dst := some 28, op := Op.indexAddr 34 (Operand.tmp 26) (Operand.tmp 27), type := 0, pos := _, after := #[{ on := 3, ground := Ground.data }, { on := 4, ground := Ground.data }], guard := none } : Oper)) (v := ?_) rfl (by kernel_rfl) (by kernel_rfl) (by kernel_rfl) (fun _ _ _ h => h) (Or.inl ⟨by rfl, ?_⟩) hHeld ?_
      rotate_left
      · (intro w hS; go_simp; try with_reducible rfl)
      try simp only [Act.put, List.setIfInBounds_toArray, List.set_cons_zero, List.set_cons_succ]
      refine wpAnyH_take (i := 6) (oi := ({ dst := some 29, op := Op.fieldAddr 66 (Operand.tmp 28) 1, type := 0, pos := _, after := #[{ on := 5, ground := Ground.data }], guard := none } : Oper)) (v := ?_) rfl (by kernel_rfl) (by kernel_rfl) (by kernel_rfl) (fun _ _ _ h => h) (Or.inl ⟨by rfl, ?_⟩) hHeld ?_
      rotate_left
      · (intro w hS; go_simp; try with_reducible rfl)
      try simp only [Act.put, List.setIfInBounds_toArray, List.set_cons_zero, List.set_cons_succ]
      refine wpAnyH_take (i := 7) (oi := ({ dst := some 30, op := Op.load 3 (Operand.tmp 29), type := 3, pos := _, after := #[{ on := 6, ground := Ground.data }], guard := none } : Oper)) (v := ?_) rfl (by kernel_rfl) (by kernel_rfl) (by kernel_rfl) (fun _ _ _ h => h) (Or.inl ⟨by rfl, ?_⟩) hHeld ?_
      rotate_left
      · (intro w hS; go_simp; try with_reducible rfl)
      try simp only [Act.put, List.setIfInBounds_toArray, List.set_cons_zero, List.set_cons_succ]
      refine wpAnyH_take (i := 8) (oi := ({ dst := some 31, op := Op.move (Operand.tmp 1), type := 3, pos := _, after := #[], guard := none } : Oper)) (v := ?_) rfl (by kernel_rfl) (by kernel_rfl) (by kernel_rfl) (fun _ _ _ h => h) (Or.inl ⟨by rfl, ?_⟩) hHeld ?_
      rotate_left
      · (intro w hS; go_simp; try with_reducible rfl)
      try simp only [Act.put, List.setIfInBounds_toArray, List.set_cons_zero, List.set_cons_succ]
      refine wpAnyH_ready (rs := [9]) (by kernel_rfl) (by simp) ?_
      refine AllReadyH.cons (o := ({ dst := some 32, op := Op.call { callee := Callee.value (Operand.func 23), args := #[Operand.tmp 31], argTypes := #[3] }, type := 3, pos := _, after := #[{ on := 8, ground := Ground.data }], guard := none } : Oper)) rfl (fun K hK => ?_) AllReadyH.nil
      refine step_call (rheld_calls t _) (enters_of Try.func23 (by kernel_rfl) rfl) _ _ rfl rfl rfl ?_
      rintro e w2 ⟨rfl, rfl⟩
      rw [HM.out]
      refine ⟨_, rfl, hK.out _ _ ⟨r7, d2⟩ (fun hHeld => ?_)⟩
      clear hK K
      try simp only [Act.put, List.setIfInBounds_toArray, List.set_cons_zero, List.set_cons_succ]
      refine wpAnyH_take (i := 10) (oi := ({ dst := some 33, op := Op.binOp BinOp.gtr 3 (Operand.tmp 30) (Operand.tmp 32) 3, type := 4, pos := _, after := #[{ on := 7, ground := Ground.data }, { on := 9, ground := Ground.data }], guard := none } : Oper)) (v := ?_) rfl (by kernel_rfl) (by kernel_rfl) (by kernel_rfl) (fun _ _ _ h => h) (Or.inl ⟨by rfl, ?_⟩) hHeld ?_
      rotate_left
      · (intro w hS; go_simp; try with_reducible rfl)
      try simp only [Act.put, List.setIfInBounds_toArray, List.set_cons_zero, List.set_cons_succ]
      refine wpAnyH_done (by kernel_rfl) ?_ _
      skip
      have o1' : CS 66 w.heap.size wr.drew a' j c' (lfN (S.L.take k) m) := o1
      have B1 : Below w.heap.size w wr.drew := b1.drew
      have r7' : wr.drew.cell? ⟨r, 7, none⟩ = some (.slice (some ⟨g, 0, none⟩) n c) := r7
      have d1' : wr.drew.cell? ⟨g, k * 2, none⟩ = some (.int .i64 x.1) := d1
      have d2' : wr.drew.cell? ⟨g, k * 2 + 1, none⟩ = some (.int .i64 x.2) := d2
      clear o1 b1 r7 d1 d2
      generalize wr.drew = wd at *
      by_cases hxt : m < x.2
      · have hdx : decide (m < x.2) = true := decide_eq_true hxt
        have HX : Hid (m < x.2) := hxt
        have bel := (Below.refl _ wd).alloc (Nat.le_refl _) (.cells #[.int .i64 x.1, .int .i64 x.2] 66)
        have o2 := o1'.below bel (Nat.le_refl _)
        obtain ⟨g4, c4, w4, hap, o4, gr4, _⟩ := run_app_c Try.underlying34 info_rc (wd.alloc (.cells #[.int .i64 x.1, .int .i64 x.2] 66)) w.heap.size (by have := B1.size; simp; omega) a' j c' _ o2 (by omega) 34 x wd.heap.size (bk_new _ _ _)
        have B4 : Below w.heap.size w w4 := (B1.alloc B1.size _).grown gr4 (by have := B1.size; simp; omega) (fun k e => (o2.2.lt k e).1)
        rw [hdx]
        clear hxt hdx o1' B1 o2 gr4 bel
        go_wp2_with (at_builtin; refine wpList_app hap _ _ rfl rfl rfl rfl rfl ?_)
        go_roundw
        case rel => exact ⟨k + 1, p, some ⟨g4, 0, none⟩, j + 1, c4, by omega, rfl, rfl, rfl, by go_num, by omega, by rw [HT.out, List.foldl_append, HP.out]; exact if_pos HX.out, by rw [HT.out, lfN_snoc', if_pos HX.out]; exact o4, B4⟩
        case measure => simp [intOf]; omega
      · have hdx : decide (m < x.2) = false := decide_eq_false hxt
        have HX : Hid (¬ m < x.2) := hxt
        rw [hdx]
        clear hxt hdx
        by_cases hpx : p.2 ≤ x.2
        · have hdp : decide (p.2 ≤ x.2) = true := decide_eq_true hpx
          have HPX : Hid (p.2 ≤ x.2) := hpx
          clear hpx
          go_wp2
          refine wp_region_held_drew (S := (fun w' => w'.cell? ⟨r, 7, none⟩ = some (.slice (some ⟨g, 0, none⟩) n c) ∧ w'.cell? ⟨g, k * 2 + 1, none⟩ = some (.int .i64 x.2) ∧ w'.cell? ⟨g, k * 2, none⟩ = some (.int .i64 x.1))) (by kernel_rfl) ⟨r7', d2', d1'⟩ (fun hHeld => ?_)
          refine wpAnyH_take (i := 0) (oi := ({ dst := some 54, op := Op.move (Operand.tmp 0), type := 26, pos := _, after := #[], guard := none } : Oper)) (v := ?_) rfl (by kernel_rfl) (by kernel_rfl) (by kernel_rfl) (fun _ _ _ h => h) (Or.inl ⟨by rfl, ?_⟩) hHeld ?_
          rotate_left
          · (intro w hS; go_simp; try with_reducible rfl)
          try simp only [Act.put, List.setIfInBounds_toArray, List.set_cons_zero, List.set_cons_succ]
          refine wpAnyH_take (i := 1) (oi := ({ dst := some 55, op := Op.nilCheck (Operand.tmp 54), type := 0, pos := _, after := #[{ on := 0, ground := Ground.data }], guard := none } : Oper)) (v := ?_) rfl (by kernel_rfl) (by kernel_rfl) (by kernel_rfl) (fun _ _ _ h => h) (Or.inl ⟨by rfl, ?_⟩) hHeld ?_
          rotate_left
          · (intro w hS; go_simp; try with_reducible rfl)
          try simp only [Act.put, List.setIfInBounds_toArray, List.set_cons_zero, List.set_cons_succ]
          refine wpAnyH_take (i := 2) (oi := ({ dst := some 56, op := Op.fieldAddr 41 (Operand.tmp 55) 3, type := 0, pos := _, after := #[{ on := 1, ground := Ground.data }], guard := none } : Oper)) (v := ?_) rfl (by kernel_rfl) (by kernel_rfl) (by kernel_rfl) (fun _ _ _ h => h) (Or.inl ⟨by rfl, ?_⟩) hHeld ?_
          rotate_left
          · (intro w hS; go_simp; try with_reducible rfl)
          try simp only [Act.put, List.setIfInBounds_toArray, List.set_cons_zero, List.set_cons_succ]
          refine wpAnyH_take (i := 3) (oi := ({ dst := some 57, op := Op.load 34 (Operand.tmp 56), type := 34, pos := _, after := #[{ on := 2, ground := Ground.data }], guard := none } : Oper)) (v := ?_) rfl (by kernel_rfl) (by kernel_rfl) (by kernel_rfl) (fun _ _ _ h => h) (Or.inl ⟨by rfl, ?_⟩) hHeld ?_
          rotate_left
          · (intro w hS; go_simp; try with_reducible rfl)
          try simp only [Act.put, List.setIfInBounds_toArray, List.set_cons_zero, List.set_cons_succ]
          refine wpAnyH_take (i := 4) (oi := ({ dst := some 58, op := Op.move (Operand.tmp 9), type := 3, pos := _, after := #[], guard := none } : Oper)) (v := ?_) rfl (by kernel_rfl) (by kernel_rfl) (by kernel_rfl) (fun _ _ _ h => h) (Or.inl ⟨by rfl, ?_⟩) hHeld ?_
          rotate_left
          · (intro w hS; go_simp; try with_reducible rfl)
          try simp only [Act.put, List.setIfInBounds_toArray, List.set_cons_zero, List.set_cons_succ]
          refine wpAnyH_take (i := 5) (oi := ({ dst := some 59, op := Op.indexAddr 34 (Operand.tmp 57) (Operand.tmp 58), type := 0, pos := _, after := #[{ on := 3, ground := Ground.data }, { on := 4, ground := Ground.data }], guard := none } : Oper)) (v := ?_) rfl (by kernel_rfl) (by kernel_rfl) (by kernel_rfl) (fun _ _ _ h => h) (Or.inl ⟨by rfl, ?_⟩) hHeld ?_
          rotate_left
          · (intro w hS; go_simp; try with_reducible rfl)
          try simp only [Act.put, List.setIfInBounds_toArray, List.set_cons_zero, List.set_cons_succ]
          refine wpAnyH_take (i := 6) (oi := ({ dst := some 60, op := Op.fieldAddr 66 (Operand.tmp 59) 0, type := 0, pos := _, after := #[{ on := 5, ground := Ground.data }], guard := none } : Oper)) (v := ?_) rfl (by kernel_rfl) (by kernel_rfl) (by kernel_rfl) (fun _ _ _ h => h) (Or.inl ⟨by rfl, ?_⟩) hHeld ?_
          rotate_left
          · (intro w hS; go_simp; try with_reducible rfl)
          try simp only [Act.put, List.setIfInBounds_toArray, List.set_cons_zero, List.set_cons_succ]
          refine wpAnyH_take (i := 7) (oi := ({ dst := some 61, op := Op.load 3 (Operand.tmp 60), type := 3, pos := _, after := #[{ on := 6, ground := Ground.data }], guard := none } : Oper)) (v := ?_) rfl (by kernel_rfl) (by kernel_rfl) (by kernel_rfl) (fun _ _ _ h => h) (Or.inl ⟨by rfl, ?_⟩) hHeld ?_
          rotate_left
          · (intro w hS; go_simp; try with_reducible rfl)
          try simp only [Act.put, List.setIfInBounds_toArray, List.set_cons_zero, List.set_cons_succ]
          refine wpAnyH_take (i := 8) (oi := ({ dst := some 62, op := Op.move (Operand.tmp 0), type := 26, pos := _, after := #[{ on := 16, ground := Ground.gcOnly Departure.lateStores }], guard := none } : Oper)) (v := ?_) rfl (by kernel_rfl) (by kernel_rfl) (by kernel_rfl) (fun _ _ _ h => h) (Or.inl ⟨by rfl, ?_⟩) hHeld ?_
          rotate_left
          · (intro w hS; go_simp; try with_reducible rfl)
          try simp only [Act.put, List.setIfInBounds_toArray, List.set_cons_zero, List.set_cons_succ]
          refine wpAnyH_take (i := 9) (oi := ({ dst := some 63, op := Op.nilCheck (Operand.tmp 62), type := 0, pos := _, after := #[{ on := 8, ground := Ground.data }, { on := 16, ground := Ground.gcOnly Departure.lateStores }], guard := none } : Oper)) (v := ?_) rfl (by kernel_rfl) (by kernel_rfl) (by kernel_rfl) (fun _ _ _ h => h) (Or.inl ⟨by rfl, ?_⟩) hHeld ?_
          rotate_left
          · (intro w hS; go_simp; try with_reducible rfl)
          try simp only [Act.put, List.setIfInBounds_toArray, List.set_cons_zero, List.set_cons_succ]
          refine wpAnyH_take (i := 10) (oi := ({ dst := some 64, op := Op.fieldAddr 41 (Operand.tmp 63) 3, type := 0, pos := _, after := #[{ on := 9, ground := Ground.data }, { on := 16, ground := Ground.gcOnly Departure.lateStores }], guard := none } : Oper)) (v := ?_) rfl (by kernel_rfl) (by kernel_rfl) (by kernel_rfl) (fun _ _ _ h => h) (Or.inl ⟨by rfl, ?_⟩) hHeld ?_
          rotate_left
          · (intro w hS; go_simp; try with_reducible rfl)
          try simp only [Act.put, List.setIfInBounds_toArray, List.set_cons_zero, List.set_cons_succ]
          refine wpAnyH_take (i := 11) (oi := ({ dst := some 65, op := Op.load 34 (Operand.tmp 64), type := 34, pos := _, after := #[{ on := 10, ground := Ground.data }, { on := 16, ground := Ground.gcOnly Departure.lateStores }], guard := none } : Oper)) (v := ?_) rfl (by kernel_rfl) (by kernel_rfl) (by kernel_rfl) (fun _ _ _ h => h) (Or.inl ⟨by rfl, ?_⟩) hHeld ?_
          rotate_left
          · (intro w hS; go_simp; try with_reducible rfl)
          try simp only [Act.put, List.setIfInBounds_toArray, List.set_cons_zero, List.set_cons_succ]
          refine wpAnyH_take (i := 12) (oi := ({ dst := some 66, op := Op.move (Operand.tmp 9), type := 3, pos := _, after := #[{ on := 16, ground := Ground.gcOnly Departure.lateStores }], guard := none } : Oper)) (v := ?_) rfl (by kernel_rfl) (by kernel_rfl) (by kernel_rfl) (fun _ _ _ h => h) (Or.inl ⟨by rfl, ?_⟩) hHeld ?_
          rotate_left
          · (intro w hS; go_simp; try with_reducible rfl)
          try simp only [Act.put, List.setIfInBounds_toArray, List.set_cons_zero, List.set_cons_succ]
          refine wpAnyH_take (i := 13) (oi := ({ dst := some 67, op := Op.indexAddr 34 (Operand.tmp 65) (Operand.tmp 66), type := 0, pos := _, after := #[{ on := 11, ground := Ground.data }, { on := 12, ground := Ground.data }, { on := 16, ground := Ground.gcOnly Departure.lateStores }], guard := none } : Oper)) (v := ?_) rfl (by kernel_rfl) (by kernel_rfl) (by kernel_rfl) (fun _ _ _ h => h) (Or.inl ⟨by rfl, ?_⟩) hHeld ?_
          rotate_left
          · (intro w hS; go_simp; try with_reducible rfl)
          try simp only [Act.put, List.setIfInBounds_toArray, List.set_cons_zero, List.set_cons_succ]
          refine wpAnyH_take (i := 14) (oi := ({ dst := some 68, op := Op.fieldAddr 66 (Operand.tmp 67) 1, type := 0, pos := _, after := #[{ on := 13, ground := Ground.data }, { on := 16, ground := Ground.gcOnly Departure.lateStores }], guard := none } : Oper)) (v := ?_) rfl (by kernel_rfl) (by kernel_rfl) (by kernel_rfl) (fun _ _ _ h => h) (Or.inl ⟨by rfl, ?_⟩) hHeld ?_
          rotate_left
          · (intro w hS; go_simp; try with_reducible rfl)
          try simp only [Act.put, List.setIfInBounds_toArray, List.set_cons_zero, List.set_cons_succ]
          refine wpAnyH_take (i := 15) (oi := ({ dst := some 69, op := Op.load 3 (Operand.tmp 68), type := 3, pos := _, after := #[{ on := 14, ground := Ground.data }, { on := 16, ground := Ground.gcOnly Departure.lateStores }], guard := none } : Oper)) (v := ?_) rfl (by kernel_rfl) (by kernel_rfl) (by kernel_rfl) (fun _ _ _ h => h) (Or.inl ⟨by rfl, ?_⟩) hHeld ?_
          rotate_left
          · (intro w hS; go_simp; try with_reducible rfl)
          try simp only [Act.put, List.setIfInBounds_toArray, List.set_cons_zero, List.set_cons_succ]
          refine wpAnyH_take (i := 16) (oi := ({ dst := some 6, op := Op.assign (Operand.tmp 61), type := 3, pos := _, after := #[{ on := 7, ground := Ground.data }, { on := 0, ground := Ground.phase }, { on := 1, ground := Ground.phase }, { on := 2, ground := Ground.phase }, { on := 3, ground := Ground.phase }, { on := 4, ground := Ground.phase }, { on := 5, ground := Ground.phase }, { on := 6, ground := Ground.phase }, { on := 7, ground := Ground.phase }, { on := 8, ground := Ground.textOnly Departure.lateStores }, { on := 9, ground := Ground.textOnly Departure.lateStores }, { on := 10, ground := Ground.textOnly Departure.lateStores }, { on := 11, ground := Ground.textOnly Departure.lateStores }, { on := 12, ground := Ground.textOnly Departure.lateStores }, { on := 13, ground := Ground.textOnly Departure.lateStores }, { on := 14, ground := Ground.textOnly Departure.lateStores }, { on := 15, ground := Ground.textOnly Departure.lateStores }], guard := none } : Oper)) (v := ?_) rfl (by kernel_rfl) (by kernel_rfl) (by kernel_rfl) (fun _ _ _ h => h) (Or.inl ⟨by rfl, ?_⟩) hHeld ?_
          rotate_left
          · (intro w hS; go_simp; try with_reducible rfl)
          try simp only [Act.put, List.setIfInBounds_toArray, List.set_cons_zero, List.set_cons_succ]
          refine wpAnyH_take (i := 17) (oi := ({ dst := some 7, op := Op.assign (Operand.tmp 69), type := 3, pos := _, after := #[{ on := 15, ground := Ground.data }, { on := 16, ground := Ground.chain }, { on := 0, ground := Ground.phase }, { on := 1, ground := Ground.phase }, { on := 2, ground := Ground.phase }, { on := 3, ground := Ground.phase }, { on := 4, ground := Ground.phase }, { on := 5, ground := Ground.phase }, { on := 6, ground := Ground.phase }, { on := 7, ground := Ground.phase }, { on := 8, ground := Ground.phase }, { on := 9, ground := Ground.phase }, { on := 10, ground := Ground.phase }, { on := 11, ground := Ground.phase }, { on := 12, ground := Ground.phase }, { on := 13, ground := Ground.phase }, { on := 14, ground := Ground.phase }, { on := 15, ground := Ground.phase }, { on := 16, ground := Ground.phase }], guard := none } : Oper)) (v := ?_) rfl (by kernel_rfl) (by kernel_rfl) (by kernel_rfl) (fun _ _ _ h => h) (Or.inl ⟨by rfl, ?_⟩) hHeld ?_
          rotate_left
          · (intro w hS; go_simp; try with_reducible rfl)
          try simp only [Act.put, List.setIfInBounds_toArray, List.set_cons_zero, List.set_cons_succ]
          refine wpAnyH_done (by kernel_rfl) ?_ _
          go_wp2
          go_roundw
          case rel => exact ⟨k + 1, x, a', j, c', by omega, rfl, rfl, rfl, by go_num, by omega, by rw [HT.out, List.foldl_append, HP.out]; exact (if_neg (show ¬ m < x.2 by have := HX.out; omega)).trans (if_pos HPX.out), by rw [HT.out, lfN_snoc', if_neg (show ¬ m < x.2 by have := HX.out; omega)]; exact o1', B1.drew⟩
          case measure => simp [intOf]; omega
        · have hdp : decide (p.2 ≤ x.2) = false := decide_eq_false hpx
          have HPX : Hid (¬ p.2 ≤ x.2) := hpx
          clear hpx
          go_wp2
          go_roundw
          case rel => exact ⟨k + 1, p, a', j, c', by omega, rfl, rfl, rfl, by go_num, by omega, by rw [HT.out, List.foldl_append, HP.out]; exact (if_neg (show ¬ m < x.2 by have := HX.out; omega)).trans (if_neg (show ¬ p.2 ≤ x.2 by have := HPX.out; omega)), by rw [HT.out, lfN_snoc', if_neg (show ¬ m < x.2 by have := HX.out; omega)]; exact o1', B1⟩
          case measure => simp [intOf]; omega
    · obtain rfl : k = n := by omega
      go_wp2
      go_returns
      have e1 : S.L.take k = S.L := by rw [HnL.out]; exact List.take_length
      have e2 := HP.out
      rw [e1] at e2 o1
      exact ⟨a', j, c', by unfold stN; rw [e2]; rfl, o1, b1⟩
end Go.Proofs.Ytcenipihbmifpaa
