/- Proved here: how a gatherer lies in memory, and what gather's New, Parts, Lost, late, lose, Tick answer. Conditions: as each theorem states them. -/
import Derived.Deep.RegionHeld
import Derived.Deep.RegionHeldLaw
import Derived.Test.YtfmicnjijcmjaaaFt
import Derived.Test.YtfmicnjijcmjaaaGa
import Derived.Test.YtfmicnjijcmjaaaUp
namespace Go.Proofs.Ytfmicnjijcmjaaa
set_option linter.unusedSimpArgs false
set_option linter.unusedVariables false
open Go.RowKit

theorem gret_int {a b : Int} (h : a = b) : Ending.returned (.int .i64 a) = .returned (.int .i64 b) := by rw [h]
theorem gret_bool {a b : Bool} (h : a = b) : Ending.returned (.bool a) = .returned (.bool b) := by rw [h]

/-- A gatherer's cells. -/
abbrev gcells (S : Ga) (a : Option Addr) (n c : Nat) : Array Value := #[.int .i64 S.w, .slice a n c, .int .i64 S.f, .int .i64 (S.l : Int), .bool S.k]
/-- A gatherer in block r, of the blocks F. -/
structure GX (w : World) (F : Nat → Prop) (r : Nat) (S : Ga) : Prop where
  ex : ∃ a n c, BK w r (gcells S a n c) 58 ∧ OwnB 0 w a n c S.xs ∧ (∀ y, a = some y → F y.block ∧ y.block ≠ r)
  hr : F r
  lt : ∀ k, F k → k < w.heap.size
  ok : S.Ok

theorem ownB_keep {base : Nat} {w w' : World} {a : Option Addr} {n c : Nat} {zs : List UInt8} (h : OwnB base w a n c zs) (k : ∀ y, a = some y → w'.heap[y.block]? = w.heap[y.block]?) : OwnB base w' a n c zs := by
  obtain ⟨hn, hl, h⟩ := h
  refine ⟨hn, hl, ?_⟩
  rcases h with h | ⟨g, cap, cur, e, hg, hh, r⟩
  · exact .inl h
  · refine .inr ⟨g, cap, cur, e, hg, ?_, r⟩
    simp only [Value.slice.injEq] at e
    exact (k _ e.1).trans hh
/-- A gatherer beside what changed. -/
theorem GX.frame {F F' G : Nat → Prop} {w w' : World} {r : Nat} {S : Ga} (h : GX w G r S) (k : Ft F F' w w') (hs : ∀ k, F k → ¬ G k) : GX w' G r S := by
  obtain ⟨⟨a, n, c, hb, hc, hy⟩, h1, h2, h3⟩ := h
  have key : ∀ j, G j → w'.heap[j]? = w.heap[j]? := fun j hj => k.block j (h2 j hj) (fun hF => hs j hF hj)
  exact ⟨⟨a, n, c, (key r h1).trans hb, ownB_keep hc (fun y e => key _ (hy y e).1), hy⟩, h1, fun j hj => Nat.lt_of_lt_of_le (h2 j hj) k.size, h3⟩
theorem GX.below {G : Nat → Prop} {w w' : World} {r : Nat} {S : Ga} (h : GX w G r S) {m : Nat} (hb : Below m w w') (hm : w.heap.size ≤ m) : GX w' G r S := h.frame (F := fun _ => False) (F' := fun _ => False) (Ft.of hb hm) (fun _ h => h.elim)
theorem GX.drew {G : Nat → Prop} {w : World} {r : Nat} {S : Ga} (h : GX w G r S) : GX w.drew G r S := h.below (Below.refl w.heap.size w).drew (Nat.le_refl _)

set_option maxHeartbeats 400000 in
theorem new_calls (wt : Int) (w : World) : Calls Try.prog 10 #[.int .i64 wt] w fun e w' => e = .returned (.pointer (some ⟨w.heap.size, 0, none⟩)) ∧ GX w' (fun k => k = w.heap.size) w.heap.size (Ga.mk0 wt) ∧ Below w.heap.size w w' := by
  go_enter Try.func10, Try.ntmps10
  go_wp2
  go_ret
  exact ⟨rfl, ⟨⟨none, 0, 0, bk_new _ _ _, ownB_nil _ _, fun y e => by cases e⟩, rfl, fun k e => by subst e; simp, Ga.mk0_ok wt⟩, (Below.refl _ _).alloc (Nat.le_refl _) _⟩

theorem parts_calls {w : World} {F : Nat → Prop} {r : Nat} {S : Ga} (h : GX w F r S) : Calls Try.prog 18 #[.pointer (some ⟨r, 0, none⟩)] w fun e w' => e = .returned (.int .i64 ((S.xs.length / 48 : Nat) : Int)) ∧ w' = w := by
  obtain ⟨⟨a, n, c, hb, hc, hy⟩, h1, h2, h3⟩ := h
  have c1 := hb.cell 1 _ rfl
  have Hn : Hid (n = S.xs.length) := hc.1
  have hn : n ≤ 1008 := by rw [hc.1]; exact h3.len
  go_enter Try.func18, Try.ntmps18
  go_wp2
  go_ret
  refine ⟨gret_int ?_, rfl⟩
  have := Hn.out
  omega
theorem lost_calls {w : World} {F : Nat → Prop} {r : Nat} {S : Ga} (h : GX w F r S) : Calls Try.prog 19 #[.pointer (some ⟨r, 0, none⟩)] w fun e w' => e = .returned (.int .i64 (S.l : Int)) ∧ w' = w := by
  obtain ⟨⟨a, n, c, hb, hc, hy⟩, h1, h2, h3⟩ := h
  have c1 := hb.cell 3 _ rfl
  go_enter Try.func19, Try.ntmps19
  go_wp2
  go_ret
  exact ⟨rfl, rfl⟩

set_option maxHeartbeats 1000000 in
theorem late_calls (f t x : Int) (f0 : -9223372036854775808 ≤ f) (f1 : f ≤ 9223372036854775807) (t0 : -9223372036854775808 ≤ t) (t1 : t ≤ 9223372036854775807) (w : World) :
    Calls Try.prog 23 #[.int .i64 f, .int .i64 t, .int .i64 x] w fun e w' => e = .returned (.bool (lateB f t x)) ∧ w' = w := by
  by_cases h : f < t
  · have HB : Hid (lateB f t x = decide (waitN x ≤ t - f)) := lateB_eq
    have HW : Hid (1 ≤ waitN x ∧ waitN x ≤ 1152921504606846976 ∧ waitN x = min (max x 1) 1152921504606846976) := ⟨waitN_ge x, waitN_le x, rfl⟩
    have q : decide (f < t) = true := by simp; omega
    go_enter Try.func23, Try.ntmps23
    go_wp2 <;> go_ret
    all_goals
      refine ⟨gret_bool ?_, rfl⟩
      have HU : IntKind.u64.wrap (IntKind.u64.wrap t - IntKind.u64.wrap f) = t - f := by rw [IntKind.wrap_u64, IntKind.wrap_u64, IntKind.wrap_u64]; omega
      obtain ⟨g1, g2, g3⟩ := HW.out
      rename_i k1 k2
      rw [HB.out]
      show decide (_ ≤ IntKind.u64.wrap (IntKind.u64.wrap t - IntKind.u64.wrap f)) = _
      rw [HU]
      refine decide_eq_decide.2 ?_
      split at k2 <;> omega
  · have HB : Hid (lateB f t x = false) := by show _ = _; simp [lateB, h]
    have q : decide (f < t) = false := by simp; omega
    go_enter Try.func23, Try.ntmps23
    go_wp2
    go_ret
    exact ⟨gret_bool HB.out.symm, rfl⟩

set_option maxHeartbeats 400000 in
theorem lose_calls {w : World} {F : Nat → Prop} {r : Nat} {S : Ga} (h : GX w F r S) (hl : S.l ≤ 1000000) : Calls Try.prog 24 #[.pointer (some ⟨r, 0, none⟩)] w fun e w' => e = .returned (.tuple #[]) ∧ GX w' F r S.lose ∧ Ft F F w w' := by
  obtain ⟨⟨a, n, c, hb, hc, hy⟩, h1, h2, h3⟩ := h
  have f1 := hb.frozen 1
  have f3 := hb.frozen 3
  have c1 := hb.cell 1 _ rfl
  have c3 := hb.cell 3 _ rfl
  go_enter Try.func24, Try.ntmps24
  go_wp2
  refine bodyPost_end (results_none rfl _ _ _) rfl ?_
  refine ⟨rfl, ⟨⟨none, 0, 0, ?_, ownB_nil _ _, fun y e => by cases e⟩, h1, fun k hk => ?_, Ga.Ok.lose h3.f0 h3.f1⟩, (Ft.set _ h1 _).trans (Ft.set _ h1 _)⟩
  · have h5 := (hb.set 1 (.slice none 0 0)).set 3 (.int .i64 ((S.l : Int) + 1))
    show BK _ r #[.int .i64 S.w, .slice none 0 0, .int .i64 S.f, .int .i64 ((S.l + 1 : Nat) : Int), .bool S.k] _
    rw [Int.natCast_add]
    simpa using h5
  · have := h2 k hk; simp [World.setCell]; omega

set_option maxHeartbeats 1000000 in
theorem tick_calls {w : World} {F : Nat → Prop} {r : Nat} {S : Ga} (h : GX w F r S) (hl : S.l ≤ 1000000) (t : Int) (t0 : -9223372036854775808 ≤ t) (t1 : t ≤ 9223372036854775807) :
    Calls Try.prog 13 #[.pointer (some ⟨r, 0, none⟩), .int .i64 t] w fun e w' => e = .returned (.bool (S.late t)) ∧ GX w' F r (S.tick t) ∧ Ft F F w w' := by
  have HG : GX w F r S := h
  obtain ⟨⟨a, n, c, hb, hc, hy⟩, h1, h2, h3⟩ := h
  have f0 := h3.f0
  have f1 := h3.f1
  have hlen := h3.len
  have hdiv := h3.div
  have c0 := hb.cell 0 _ rfl
  have c2 := hb.cell 2 _ rfl
  by_cases hx : S.xs.length = 0
  · have HA : Hid (S.late t = false) := by show _ = _; unfold Ga.late; rw [hx]; rfl
    have HT : Hid (S.tick t = S) := by show _ = _; unfold Ga.tick; rw [HA.out]; rfl
    have HP := parts_calls HG.drew
    rw [hx] at HP
    clear hb hc hx hlen hdiv
    go_enter Try.func13, Try.ntmps13
    go_wp2_with fail
    refine wp_region_held_drew (S := (fun w' => w' = w.drew)) (by kernel_rfl) rfl (fun hHeld => ?_)
    refine wpAnyH_take (i := 0) (oi := ({ dst := some 5, op := Op.move (Operand.tmp 0), type := 24, pos := _, after := #[], guard := none } : Oper)) (v := ?_) rfl (by kernel_rfl) (by kernel_rfl) (by kernel_rfl) (fun _ _ _ h => h) (Or.inl ⟨by rfl, ?_⟩) hHeld ?_
    rotate_left
    · (intro w hS; go_simp; try with_reducible rfl)
    try simp only [Act.put, List.setIfInBounds_toArray, List.set_cons_zero, List.set_cons_succ]
    refine wpAnyH_ready (rs := [1]) (by kernel_rfl) (by simp) ?_
    refine AllReadyH.cons (o := ({ dst := some 6, op := Op.call { callee := Callee.value (Operand.func 18), args := #[Operand.tmp 5], argTypes := #[24] }, type := 3, pos := _, after := #[{ on := 0, ground := Ground.data }], guard := none } : Oper)) rfl (fun K hK => ?_) AllReadyH.nil
    refine step_call (HP) (enters_of Try.func18 (by kernel_rfl) rfl) _ _ rfl rfl rfl ?_
    rintro e w2 ⟨rfl, rfl⟩
    refine ⟨_, rfl, hK.out _ _ rfl (fun hHeld => ?_)⟩
    clear hK K
    try simp only [Act.put, List.setIfInBounds_toArray, List.set_cons_zero, List.set_cons_succ]
    refine wpAnyH_take (i := 2) (oi := ({ dst := some 7, op := Op.binOp BinOp.eql 3 (Operand.tmp 6) (Operand.const (Value.int IntKind.i64 0)) 3, type := 4, pos := _, after := #[{ on := 1, ground := Ground.data }], guard := none } : Oper)) (v := ?_) rfl (by kernel_rfl) (by kernel_rfl) (by kernel_rfl) (fun _ _ _ h => h) (Or.inl ⟨by rfl, ?_⟩) hHeld ?_
    rotate_left
    · (intro w hS; go_simp; try with_reducible rfl)
    try simp only [Act.put, List.setIfInBounds_toArray, List.set_cons_zero, List.set_cons_succ]
    refine wpAnyH_take (i := 3) (oi := ({ dst := some 8, op := Op.move (Operand.tmp 7), type := 4, pos := _, after := #[{ on := 2, ground := Ground.data }, { on := 1, ground := Ground.chain }], guard := none } : Oper)) (v := ?_) rfl (by kernel_rfl) (by kernel_rfl) (by kernel_rfl) (fun _ _ _ h => h) (Or.inl ⟨by rfl, ?_⟩) hHeld ?_
    rotate_left
    · (intro w hS; go_simp; try with_reducible rfl)
    try simp only [Act.put, List.setIfInBounds_toArray, List.set_cons_zero, List.set_cons_succ]
    refine wpAnyH_take (i := 4) (oi := ({ dst := some 9, op := Op.move (Operand.tmp 0), type := 24, pos := _, after := #[{ on := 3, ground := Ground.guard }], guard := some (3, false) } : Oper)) (v := undef) rfl (by kernel_rfl) (by kernel_rfl) (by kernel_rfl) (fun _ _ _ h => h) (Or.inr ⟨by rfl, rfl⟩) hHeld ?_
    try simp only [Act.put, List.setIfInBounds_toArray, List.set_cons_zero, List.set_cons_succ]
    refine wpAnyH_take (i := 5) (oi := ({ dst := some 10, op := Op.nilCheck (Operand.tmp 9), type := 0, pos := _, after := #[{ on := 4, ground := Ground.data }, { on := 3, ground := Ground.guard }], guard := some (3, false) } : Oper)) (v := undef) rfl (by kernel_rfl) (by kernel_rfl) (by kernel_rfl) (fun _ _ _ h => h) (Or.inr ⟨by rfl, rfl⟩) hHeld ?_
    try simp only [Act.put, List.setIfInBounds_toArray, List.set_cons_zero, List.set_cons_succ]
    refine wpAnyH_take (i := 6) (oi := ({ dst := some 11, op := Op.fieldAddr 58 (Operand.tmp 10) 2, type := 0, pos := _, after := #[{ on := 5, ground := Ground.data }, { on := 3, ground := Ground.guard }], guard := some (3, false) } : Oper)) (v := undef) rfl (by kernel_rfl) (by kernel_rfl) (by kernel_rfl) (fun _ _ _ h => h) (Or.inr ⟨by rfl, rfl⟩) hHeld ?_
    try simp only [Act.put, List.setIfInBounds_toArray, List.set_cons_zero, List.set_cons_succ]
    refine wpAnyH_take (i := 7) (oi := ({ dst := some 12, op := Op.load 3 (Operand.tmp 11), type := 3, pos := _, after := #[{ on := 6, ground := Ground.data }, { on := 3, ground := Ground.guard }], guard := some (3, false) } : Oper)) (v := undef) rfl (by kernel_rfl) (by kernel_rfl) (by kernel_rfl) (fun _ _ _ h => h) (Or.inr ⟨by rfl, rfl⟩) hHeld ?_
    try simp only [Act.put, List.setIfInBounds_toArray, List.set_cons_zero, List.set_cons_succ]
    refine wpAnyH_take (i := 8) (oi := ({ dst := some 13, op := Op.move (Operand.tmp 1), type := 3, pos := _, after := #[{ on := 3, ground := Ground.guard }], guard := some (3, false) } : Oper)) (v := undef) rfl (by kernel_rfl) (by kernel_rfl) (by kernel_rfl) (fun _ _ _ h => h) (Or.inr ⟨by rfl, rfl⟩) hHeld ?_
    try simp only [Act.put, List.setIfInBounds_toArray, List.set_cons_zero, List.set_cons_succ]
    refine wpAnyH_take (i := 9) (oi := ({ dst := some 14, op := Op.move (Operand.tmp 0), type := 24, pos := _, after := #[{ on := 3, ground := Ground.guard }], guard := some (3, false) } : Oper)) (v := undef) rfl (by kernel_rfl) (by kernel_rfl) (by kernel_rfl) (fun _ _ _ h => h) (Or.inr ⟨by rfl, rfl⟩) hHeld ?_
    try simp only [Act.put, List.setIfInBounds_toArray, List.set_cons_zero, List.set_cons_succ]
    refine wpAnyH_take (i := 10) (oi := ({ dst := some 15, op := Op.nilCheck (Operand.tmp 14), type := 0, pos := _, after := #[{ on := 9, ground := Ground.data }, { on := 3, ground := Ground.guard }], guard := some (3, false) } : Oper)) (v := undef) rfl (by kernel_rfl) (by kernel_rfl) (by kernel_rfl) (fun _ _ _ h => h) (Or.inr ⟨by rfl, rfl⟩) hHeld ?_
    try simp only [Act.put, List.setIfInBounds_toArray, List.set_cons_zero, List.set_cons_succ]
    refine wpAnyH_take (i := 11) (oi := ({ dst := some 16, op := Op.fieldAddr 58 (Operand.tmp 15) 0, type := 0, pos := _, after := #[{ on := 10, ground := Ground.data }, { on := 3, ground := Ground.guard }], guard := some (3, false) } : Oper)) (v := undef) rfl (by kernel_rfl) (by kernel_rfl) (by kernel_rfl) (fun _ _ _ h => h) (Or.inr ⟨by rfl, rfl⟩) hHeld ?_
    try simp only [Act.put, List.setIfInBounds_toArray, List.set_cons_zero, List.set_cons_succ]
    refine wpAnyH_take (i := 12) (oi := ({ dst := some 17, op := Op.load 3 (Operand.tmp 16), type := 3, pos := _, after := #[{ on := 11, ground := Ground.data }, { on := 3, ground := Ground.guard }], guard := some (3, false) } : Oper)) (v := undef) rfl (by kernel_rfl) (by kernel_rfl) (by kernel_rfl) (fun _ _ _ h => h) (Or.inr ⟨by rfl, rfl⟩) hHeld ?_
    try simp only [Act.put, List.setIfInBounds_toArray, List.set_cons_zero, List.set_cons_succ]
    refine wpAnyH_take (i := 13) (oi := ({ dst := some 18, op := Op.call { callee := Callee.value (Operand.func 23), args := #[Operand.tmp 12, Operand.tmp 13, Operand.tmp 17], argTypes := #[3, 3, 3] }, type := 4, pos := _, after := #[{ on := 7, ground := Ground.data }, { on := 8, ground := Ground.data }, { on := 12, ground := Ground.data }, { on := 3, ground := Ground.chain }, { on := 3, ground := Ground.guard }], guard := some (3, false) } : Oper)) (v := undef) rfl (by kernel_rfl) (by kernel_rfl) (by kernel_rfl) (fun _ _ _ h => h) (Or.inr ⟨by rfl, rfl⟩) hHeld ?_
    try simp only [Act.put, List.setIfInBounds_toArray, List.set_cons_zero, List.set_cons_succ]
    refine wpAnyH_take (i := 14) (oi := ({ dst := some 19, op := Op.unOp UnOp.not 4 (Operand.tmp 18), type := 4, pos := _, after := #[{ on := 13, ground := Ground.data }, { on := 3, ground := Ground.guard }], guard := some (3, false) } : Oper)) (v := undef) rfl (by kernel_rfl) (by kernel_rfl) (by kernel_rfl) (fun _ _ _ h => h) (Or.inr ⟨by rfl, rfl⟩) hHeld ?_
    try simp only [Act.put, List.setIfInBounds_toArray, List.set_cons_zero, List.set_cons_succ]
    refine wpAnyH_take (i := 15) (oi := ({ dst := some 20, op := Op.pick (Operand.tmp 8) (Operand.const (Value.bool true)) (Operand.tmp 19), type := 4, pos := _, after := #[{ on := 3, ground := Ground.data }, { on := 14, ground := Ground.data }], guard := none } : Oper)) (v := ?_) rfl (by kernel_rfl) (by kernel_rfl) (by kernel_rfl) (fun _ _ _ h => h) (Or.inl ⟨by rfl, ?_⟩) hHeld ?_
    rotate_left
    · (intro w hS; go_simp; try with_reducible rfl)
    try simp only [Act.put, List.setIfInBounds_toArray, List.set_cons_zero, List.set_cons_succ]
    refine wpAnyH_done (by kernel_rfl) ?_ _
    go_wp2
    go_ret
    rw [HA.out, HT.out]
    exact ⟨rfl, HG.drew, (Ft.refl F w).drew⟩
  · have hp1 : ((S.xs.length / 48 : Nat) : Int) ≠ 0 := by omega
    obtain ⟨p, hp⟩ : ∃ p, S.xs.length / 48 = p := ⟨_, rfl⟩
    rw [hp] at hp1
    have HP := parts_calls HG.drew
    rw [hp] at HP
    have q1 : ((p : Int) == 0) = false := beq_eq_false_iff_ne.2 hp1
    have HB : Hid (S.late t = lateB S.f t S.w) := by show _ = _; unfold Ga.late; simp [hx]
    have HL := late_calls S.f t S.w f0 f1 t0 t1 w.drew
    obtain ⟨bb, hbb⟩ : ∃ bb, lateB S.f t S.w = bb := ⟨_, rfl⟩
    rw [hbb] at HL HB
    have c0' : w.drew.cell? ⟨r, 0, none⟩ = some (.int .i64 S.w) := c0
    have c2' : w.drew.cell? ⟨r, 2, none⟩ = some (.int .i64 S.f) := c2
    clear hb hc hx hlen hdiv hp hp1 hbb
    go_enter Try.func13, Try.ntmps13
    go_wp2_with fail
    cases bb with
    | false =>
      have HT : Hid (S.tick t = S) := by show _ = _; unfold Ga.tick; rw [HB.out]; rfl
      refine wp_region_held_drew (S := (fun w' => w'.cell? ⟨r, 0, none⟩ = some (.int .i64 S.w) ∧ w'.cell? ⟨r, 2, none⟩ = some (.int .i64 S.f))) (by kernel_rfl) ⟨c0', c2'⟩ (fun hHeld => ?_)
      refine wpAnyH_take (i := 0) (oi := ({ dst := some 5, op := Op.move (Operand.tmp 0), type := 24, pos := _, after := #[], guard := none } : Oper)) (v := ?_) rfl (by kernel_rfl) (by kernel_rfl) (by kernel_rfl) (fun _ _ _ h => h) (Or.inl ⟨by rfl, ?_⟩) hHeld ?_
      rotate_left
      · (intro w hS; go_simp; try with_reducible rfl)
      try simp only [Act.put, List.setIfInBounds_toArray, List.set_cons_zero, List.set_cons_succ]
      refine wpAnyH_ready (rs := [1]) (by kernel_rfl) (by simp) ?_
      refine AllReadyH.cons (o := ({ dst := some 6, op := Op.call { callee := Callee.value (Operand.func 18), args := #[Operand.tmp 5], argTypes := #[24] }, type := 3, pos := _, after := #[{ on := 0, ground := Ground.data }], guard := none } : Oper)) rfl (fun K hK => ?_) AllReadyH.nil
      refine step_call (HP) (enters_of Try.func18 (by kernel_rfl) rfl) _ _ rfl rfl rfl ?_
      rintro e w2 ⟨rfl, rfl⟩
      refine ⟨_, rfl, hK.out _ _ ⟨c0', c2'⟩ (fun hHeld => ?_)⟩
      clear hK K
      try simp only [Act.put, List.setIfInBounds_toArray, List.set_cons_zero, List.set_cons_succ]
      refine wpAnyH_take (i := 2) (oi := ({ dst := some 7, op := Op.binOp BinOp.eql 3 (Operand.tmp 6) (Operand.const (Value.int IntKind.i64 0)) 3, type := 4, pos := _, after := #[{ on := 1, ground := Ground.data }], guard := none } : Oper)) (v := ?_) rfl (by kernel_rfl) (by kernel_rfl) (by kernel_rfl) (fun _ _ _ h => h) (Or.inl ⟨by rfl, ?_⟩) hHeld ?_
      rotate_left
      · (intro w hS; go_simp; try with_reducible rfl)
      try simp only [Act.put, List.setIfInBounds_toArray, List.set_cons_zero, List.set_cons_succ]
      refine wpAnyH_take (i := 3) (oi := ({ dst := some 8, op := Op.move (Operand.tmp 7), type := 4, pos := _, after := #[{ on := 2, ground := Ground.data }, { on := 1, ground := Ground.chain }], guard := none } : Oper)) (v := ?_) rfl (by kernel_rfl) (by kernel_rfl) (by kernel_rfl) (fun _ _ _ h => h) (Or.inl ⟨by rfl, ?_⟩) hHeld ?_
      rotate_left
      · (intro w hS; go_simp; try with_reducible rfl)
      try simp only [Act.put, List.setIfInBounds_toArray, List.set_cons_zero, List.set_cons_succ]
      refine wpAnyH_take (i := 4) (oi := ({ dst := some 9, op := Op.move (Operand.tmp 0), type := 24, pos := _, after := #[{ on := 3, ground := Ground.guard }], guard := some (3, false) } : Oper)) (v := ?_) rfl (by kernel_rfl) (by kernel_rfl) (by kernel_rfl) (fun _ _ _ h => h) (Or.inl ⟨by rfl, ?_⟩) hHeld ?_
      rotate_left
      · (intro w hS; go_simp; try with_reducible rfl)
      try simp only [Act.put, List.setIfInBounds_toArray, List.set_cons_zero, List.set_cons_succ]
      refine wpAnyH_take (i := 5) (oi := ({ dst := some 10, op := Op.nilCheck (Operand.tmp 9), type := 0, pos := _, after := #[{ on := 4, ground := Ground.data }, { on := 3, ground := Ground.guard }], guard := some (3, false) } : Oper)) (v := ?_) rfl (by kernel_rfl) (by kernel_rfl) (by kernel_rfl) (fun _ _ _ h => h) (Or.inl ⟨by rfl, ?_⟩) hHeld ?_
      rotate_left
      · (intro w hS; go_simp; try with_reducible rfl)
      try simp only [Act.put, List.setIfInBounds_toArray, List.set_cons_zero, List.set_cons_succ]
      refine wpAnyH_take (i := 6) (oi := ({ dst := some 11, op := Op.fieldAddr 58 (Operand.tmp 10) 2, type := 0, pos := _, after := #[{ on := 5, ground := Ground.data }, { on := 3, ground := Ground.guard }], guard := some (3, false) } : Oper)) (v := ?_) rfl (by kernel_rfl) (by kernel_rfl) (by kernel_rfl) (fun _ _ _ h => h) (Or.inl ⟨by rfl, ?_⟩) hHeld ?_
      rotate_left
      · (intro w hS; go_simp; try with_reducible rfl)
      try simp only [Act.put, List.setIfInBounds_toArray, List.set_cons_zero, List.set_cons_succ]
      refine wpAnyH_take (i := 7) (oi := ({ dst := some 12, op := Op.load 3 (Operand.tmp 11), type := 3, pos := _, after := #[{ on := 6, ground := Ground.data }, { on := 3, ground := Ground.guard }], guard := some (3, false) } : Oper)) (v := ?_) rfl (by kernel_rfl) (by kernel_rfl) (by kernel_rfl) (fun _ _ _ h => h) (Or.inl ⟨by rfl, ?_⟩) hHeld ?_
      rotate_left
      · (intro w hS; go_simp; try with_reducible rfl)
      try simp only [Act.put, List.setIfInBounds_toArray, List.set_cons_zero, List.set_cons_succ]
      refine wpAnyH_take (i := 8) (oi := ({ dst := some 13, op := Op.move (Operand.tmp 1), type := 3, pos := _, after := #[{ on := 3, ground := Ground.guard }], guard := some (3, false) } : Oper)) (v := ?_) rfl (by kernel_rfl) (by kernel_rfl) (by kernel_rfl) (fun _ _ _ h => h) (Or.inl ⟨by rfl, ?_⟩) hHeld ?_
      rotate_left
      · (intro w hS; go_simp; try with_reducible rfl)
      try simp only [Act.put, List.setIfInBounds_toArray, List.set_cons_zero, List.set_cons_succ]
      refine wpAnyH_take (i := 9) (oi := ({ dst := some 14, op := Op.move (Operand.tmp 0), type := 24, pos := _, after := #[{ on := 3, ground := Ground.guard }], guard := some (3, false) } : Oper)) (v := ?_) rfl (by kernel_rfl) (by kernel_rfl) (by kernel_rfl) (fun _ _ _ h => h) (Or.inl ⟨by rfl, ?_⟩) hHeld ?_
      rotate_left
      · (intro w hS; go_simp; try with_reducible rfl)
      try simp only [Act.put, List.setIfInBounds_toArray, List.set_cons_zero, List.set_cons_succ]
      refine wpAnyH_take (i := 10) (oi := ({ dst := some 15, op := Op.nilCheck (Operand.tmp 14), type := 0, pos := _, after := #[{ on := 9, ground := Ground.data }, { on := 3, ground := Ground.guard }], guard := some (3, false) } : Oper)) (v := ?_) rfl (by kernel_rfl) (by kernel_rfl) (by kernel_rfl) (fun _ _ _ h => h) (Or.inl ⟨by rfl, ?_⟩) hHeld ?_
      rotate_left
      · (intro w hS; go_simp; try with_reducible rfl)
      try simp only [Act.put, List.setIfInBounds_toArray, List.set_cons_zero, List.set_cons_succ]
      refine wpAnyH_take (i := 11) (oi := ({ dst := some 16, op := Op.fieldAddr 58 (Operand.tmp 15) 0, type := 0, pos := _, after := #[{ on := 10, ground := Ground.data }, { on := 3, ground := Ground.guard }], guard := some (3, false) } : Oper)) (v := ?_) rfl (by kernel_rfl) (by kernel_rfl) (by kernel_rfl) (fun _ _ _ h => h) (Or.inl ⟨by rfl, ?_⟩) hHeld ?_
      rotate_left
      · (intro w hS; go_simp; try with_reducible rfl)
      try simp only [Act.put, List.setIfInBounds_toArray, List.set_cons_zero, List.set_cons_succ]
      refine wpAnyH_take (i := 12) (oi := ({ dst := some 17, op := Op.load 3 (Operand.tmp 16), type := 3, pos := _, after := #[{ on := 11, ground := Ground.data }, { on := 3, ground := Ground.guard }], guard := some (3, false) } : Oper)) (v := ?_) rfl (by kernel_rfl) (by kernel_rfl) (by kernel_rfl) (fun _ _ _ h => h) (Or.inl ⟨by rfl, ?_⟩) hHeld ?_
      rotate_left
      · (intro w hS; go_simp; try with_reducible rfl)
      try simp only [Act.put, List.setIfInBounds_toArray, List.set_cons_zero, List.set_cons_succ]
      refine wpAnyH_ready (rs := [13]) (by kernel_rfl) (by simp) ?_
      refine AllReadyH.cons (o := ({ dst := some 18, op := Op.call { callee := Callee.value (Operand.func 23), args := #[Operand.tmp 12, Operand.tmp 13, Operand.tmp 17], argTypes := #[3, 3, 3] }, type := 4, pos := _, after := #[{ on := 7, ground := Ground.data }, { on := 8, ground := Ground.data }, { on := 12, ground := Ground.data }, { on := 3, ground := Ground.chain }, { on := 3, ground := Ground.guard }], guard := some (3, false) } : Oper)) rfl (fun K hK => ?_) AllReadyH.nil
      refine step_call (HL) (enters_of Try.func23 (by kernel_rfl) rfl) _ _ rfl rfl rfl ?_
      rintro e w2 ⟨rfl, rfl⟩
      refine ⟨_, rfl, hK.out _ _ ⟨c0', c2'⟩ (fun hHeld => ?_)⟩
      clear hK K
      try simp only [Act.put, List.setIfInBounds_toArray, List.set_cons_zero, List.set_cons_succ]
      refine wpAnyH_take (i := 14) (oi := ({ dst := some 19, op := Op.unOp UnOp.not 4 (Operand.tmp 18), type := 4, pos := _, after := #[{ on := 13, ground := Ground.data }, { on := 3, ground := Ground.guard }], guard := some (3, false) } : Oper)) (v := ?_) rfl (by kernel_rfl) (by kernel_rfl) (by kernel_rfl) (fun _ _ _ h => h) (Or.inl ⟨by rfl, ?_⟩) hHeld ?_
      rotate_left
      · (intro w hS; go_simp; try with_reducible rfl)
      try simp only [Act.put, List.setIfInBounds_toArray, List.set_cons_zero, List.set_cons_succ]
      refine wpAnyH_take (i := 15) (oi := ({ dst := some 20, op := Op.pick (Operand.tmp 8) (Operand.const (Value.bool true)) (Operand.tmp 19), type := 4, pos := _, after := #[{ on := 3, ground := Ground.data }, { on := 14, ground := Ground.data }], guard := none } : Oper)) (v := ?_) rfl (by kernel_rfl) (by kernel_rfl) (by kernel_rfl) (fun _ _ _ h => h) (Or.inl ⟨by rfl, ?_⟩) hHeld ?_
      rotate_left
      · (intro w hS; go_simp; try with_reducible rfl)
      try simp only [Act.put, List.setIfInBounds_toArray, List.set_cons_zero, List.set_cons_succ]
      refine wpAnyH_done (by kernel_rfl) ?_ _
      go_wp2
      go_ret
      rw [HB.out, HT.out]
      exact ⟨rfl, HG.drew, (Ft.refl F w).drew⟩
    | true =>
      have HT : Hid (S.tick t = S.lose) := by show _ = _; unfold Ga.tick; rw [HB.out]; rfl
      refine wp_region_held_drew (S := (fun w' => w'.cell? ⟨r, 0, none⟩ = some (.int .i64 S.w) ∧ w'.cell? ⟨r, 2, none⟩ = some (.int .i64 S.f))) (by kernel_rfl) ⟨c0', c2'⟩ (fun hHeld => ?_)
      refine wpAnyH_take (i := 0) (oi := ({ dst := some 5, op := Op.move (Operand.tmp 0), type := 24, pos := _, after := #[], guard := none } : Oper)) (v := ?_) rfl (by kernel_rfl) (by kernel_rfl) (by kernel_rfl) (fun _ _ _ h => h) (Or.inl ⟨by rfl, ?_⟩) hHeld ?_
      rotate_left
      · (intro w hS; go_simp; try with_reducible rfl)
      try simp only [Act.put, List.setIfInBounds_toArray, List.set_cons_zero, List.set_cons_succ]
      refine wpAnyH_ready (rs := [1]) (by kernel_rfl) (by simp) ?_
      refine AllReadyH.cons (o := ({ dst := some 6, op := Op.call { callee := Callee.value (Operand.func 18), args := #[Operand.tmp 5], argTypes := #[24] }, type := 3, pos := _, after := #[{ on := 0, ground := Ground.data }], guard := none } : Oper)) rfl (fun K hK => ?_) AllReadyH.nil
      refine step_call (HP) (enters_of Try.func18 (by kernel_rfl) rfl) _ _ rfl rfl rfl ?_
      rintro e w2 ⟨rfl, rfl⟩
      refine ⟨_, rfl, hK.out _ _ ⟨c0', c2'⟩ (fun hHeld => ?_)⟩
      clear hK K
      try simp only [Act.put, List.setIfInBounds_toArray, List.set_cons_zero, List.set_cons_succ]
      refine wpAnyH_take (i := 2) (oi := ({ dst := some 7, op := Op.binOp BinOp.eql 3 (Operand.tmp 6) (Operand.const (Value.int IntKind.i64 0)) 3, type := 4, pos := _, after := #[{ on := 1, ground := Ground.data }], guard := none } : Oper)) (v := ?_) rfl (by kernel_rfl) (by kernel_rfl) (by kernel_rfl) (fun _ _ _ h => h) (Or.inl ⟨by rfl, ?_⟩) hHeld ?_
      rotate_left
      · (intro w hS; go_simp; try with_reducible rfl)
      try simp only [Act.put, List.setIfInBounds_toArray, List.set_cons_zero, List.set_cons_succ]
      refine wpAnyH_take (i := 3) (oi := ({ dst := some 8, op := Op.move (Operand.tmp 7), type := 4, pos := _, after := #[{ on := 2, ground := Ground.data }, { on := 1, ground := Ground.chain }], guard := none } : Oper)) (v := ?_) rfl (by kernel_rfl) (by kernel_rfl) (by kernel_rfl) (fun _ _ _ h => h) (Or.inl ⟨by rfl, ?_⟩) hHeld ?_
      rotate_left
      · (intro w hS; go_simp; try with_reducible rfl)
      try simp only [Act.put, List.setIfInBounds_toArray, List.set_cons_zero, List.set_cons_succ]
      refine wpAnyH_take (i := 4) (oi := ({ dst := some 9, op := Op.move (Operand.tmp 0), type := 24, pos := _, after := #[{ on := 3, ground := Ground.guard }], guard := some (3, false) } : Oper)) (v := ?_) rfl (by kernel_rfl) (by kernel_rfl) (by kernel_rfl) (fun _ _ _ h => h) (Or.inl ⟨by rfl, ?_⟩) hHeld ?_
      rotate_left
      · (intro w hS; go_simp; try with_reducible rfl)
      try simp only [Act.put, List.setIfInBounds_toArray, List.set_cons_zero, List.set_cons_succ]
      refine wpAnyH_take (i := 5) (oi := ({ dst := some 10, op := Op.nilCheck (Operand.tmp 9), type := 0, pos := _, after := #[{ on := 4, ground := Ground.data }, { on := 3, ground := Ground.guard }], guard := some (3, false) } : Oper)) (v := ?_) rfl (by kernel_rfl) (by kernel_rfl) (by kernel_rfl) (fun _ _ _ h => h) (Or.inl ⟨by rfl, ?_⟩) hHeld ?_
      rotate_left
      · (intro w hS; go_simp; try with_reducible rfl)
      try simp only [Act.put, List.setIfInBounds_toArray, List.set_cons_zero, List.set_cons_succ]
      refine wpAnyH_take (i := 6) (oi := ({ dst := some 11, op := Op.fieldAddr 58 (Operand.tmp 10) 2, type := 0, pos := _, after := #[{ on := 5, ground := Ground.data }, { on := 3, ground := Ground.guard }], guard := some (3, false) } : Oper)) (v := ?_) rfl (by kernel_rfl) (by kernel_rfl) (by kernel_rfl) (fun _ _ _ h => h) (Or.inl ⟨by rfl, ?_⟩) hHeld ?_
      rotate_left
      · (intro w hS; go_simp; try with_reducible rfl)
      try simp only [Act.put, List.setIfInBounds_toArray, List.set_cons_zero, List.set_cons_succ]
      refine wpAnyH_take (i := 7) (oi := ({ dst := some 12, op := Op.load 3 (Operand.tmp 11), type := 3, pos := _, after := #[{ on := 6, ground := Ground.data }, { on := 3, ground := Ground.guard }], guard := some (3, false) } : Oper)) (v := ?_) rfl (by kernel_rfl) (by kernel_rfl) (by kernel_rfl) (fun _ _ _ h => h) (Or.inl ⟨by rfl, ?_⟩) hHeld ?_
      rotate_left
      · (intro w hS; go_simp; try with_reducible rfl)
      try simp only [Act.put, List.setIfInBounds_toArray, List.set_cons_zero, List.set_cons_succ]
      refine wpAnyH_take (i := 8) (oi := ({ dst := some 13, op := Op.move (Operand.tmp 1), type := 3, pos := _, after := #[{ on := 3, ground := Ground.guard }], guard := some (3, false) } : Oper)) (v := ?_) rfl (by kernel_rfl) (by kernel_rfl) (by kernel_rfl) (fun _ _ _ h => h) (Or.inl ⟨by rfl, ?_⟩) hHeld ?_
      rotate_left
      · (intro w hS; go_simp; try with_reducible rfl)
      try simp only [Act.put, List.setIfInBounds_toArray, List.set_cons_zero, List.set_cons_succ]
      refine wpAnyH_take (i := 9) (oi := ({ dst := some 14, op := Op.move (Operand.tmp 0), type := 24, pos := _, after := #[{ on := 3, ground := Ground.guard }], guard := some (3, false) } : Oper)) (v := ?_) rfl (by kernel_rfl) (by kernel_rfl) (by kernel_rfl) (fun _ _ _ h => h) (Or.inl ⟨by rfl, ?_⟩) hHeld ?_
      rotate_left
      · (intro w hS; go_simp; try with_reducible rfl)
      try simp only [Act.put, List.setIfInBounds_toArray, List.set_cons_zero, List.set_cons_succ]
      refine wpAnyH_take (i := 10) (oi := ({ dst := some 15, op := Op.nilCheck (Operand.tmp 14), type := 0, pos := _, after := #[{ on := 9, ground := Ground.data }, { on := 3, ground := Ground.guard }], guard := some (3, false) } : Oper)) (v := ?_) rfl (by kernel_rfl) (by kernel_rfl) (by kernel_rfl) (fun _ _ _ h => h) (Or.inl ⟨by rfl, ?_⟩) hHeld ?_
      rotate_left
      · (intro w hS; go_simp; try with_reducible rfl)
      try simp only [Act.put, List.setIfInBounds_toArray, List.set_cons_zero, List.set_cons_succ]
      refine wpAnyH_take (i := 11) (oi := ({ dst := some 16, op := Op.fieldAddr 58 (Operand.tmp 15) 0, type := 0, pos := _, after := #[{ on := 10, ground := Ground.data }, { on := 3, ground := Ground.guard }], guard := some (3, false) } : Oper)) (v := ?_) rfl (by kernel_rfl) (by kernel_rfl) (by kernel_rfl) (fun _ _ _ h => h) (Or.inl ⟨by rfl, ?_⟩) hHeld ?_
      rotate_left
      · (intro w hS; go_simp; try with_reducible rfl)
      try simp only [Act.put, List.setIfInBounds_toArray, List.set_cons_zero, List.set_cons_succ]
      refine wpAnyH_take (i := 12) (oi := ({ dst := some 17, op := Op.load 3 (Operand.tmp 16), type := 3, pos := _, after := #[{ on := 11, ground := Ground.data }, { on := 3, ground := Ground.guard }], guard := some (3, false) } : Oper)) (v := ?_) rfl (by kernel_rfl) (by kernel_rfl) (by kernel_rfl) (fun _ _ _ h => h) (Or.inl ⟨by rfl, ?_⟩) hHeld ?_
      rotate_left
      · (intro w hS; go_simp; try with_reducible rfl)
      try simp only [Act.put, List.setIfInBounds_toArray, List.set_cons_zero, List.set_cons_succ]
      refine wpAnyH_ready (rs := [13]) (by kernel_rfl) (by simp) ?_
      refine AllReadyH.cons (o := ({ dst := some 18, op := Op.call { callee := Callee.value (Operand.func 23), args := #[Operand.tmp 12, Operand.tmp 13, Operand.tmp 17], argTypes := #[3, 3, 3] }, type := 4, pos := _, after := #[{ on := 7, ground := Ground.data }, { on := 8, ground := Ground.data }, { on := 12, ground := Ground.data }, { on := 3, ground := Ground.chain }, { on := 3, ground := Ground.guard }], guard := some (3, false) } : Oper)) rfl (fun K hK => ?_) AllReadyH.nil
      refine step_call (HL) (enters_of Try.func23 (by kernel_rfl) rfl) _ _ rfl rfl rfl ?_
      rintro e w2 ⟨rfl, rfl⟩
      refine ⟨_, rfl, hK.out _ _ ⟨c0', c2'⟩ (fun hHeld => ?_)⟩
      clear hK K
      try simp only [Act.put, List.setIfInBounds_toArray, List.set_cons_zero, List.set_cons_succ]
      refine wpAnyH_take (i := 14) (oi := ({ dst := some 19, op := Op.unOp UnOp.not 4 (Operand.tmp 18), type := 4, pos := _, after := #[{ on := 13, ground := Ground.data }, { on := 3, ground := Ground.guard }], guard := some (3, false) } : Oper)) (v := ?_) rfl (by kernel_rfl) (by kernel_rfl) (by kernel_rfl) (fun _ _ _ h => h) (Or.inl ⟨by rfl, ?_⟩) hHeld ?_
      rotate_left
      · (intro w hS; go_simp; try with_reducible rfl)
      try simp only [Act.put, List.setIfInBounds_toArray, List.set_cons_zero, List.set_cons_succ]
      refine wpAnyH_take (i := 15) (oi := ({ dst := some 20, op := Op.pick (Operand.tmp 8) (Operand.const (Value.bool true)) (Operand.tmp 19), type := 4, pos := _, after := #[{ on := 3, ground := Ground.data }, { on := 14, ground := Ground.data }], guard := none } : Oper)) (v := ?_) rfl (by kernel_rfl) (by kernel_rfl) (by kernel_rfl) (fun _ _ _ h => h) (Or.inl ⟨by rfl, ?_⟩) hHeld ?_
      rotate_left
      · (intro w hS; go_simp; try with_reducible rfl)
      try simp only [Act.put, List.setIfInBounds_toArray, List.set_cons_zero, List.set_cons_succ]
      refine wpAnyH_done (by kernel_rfl) ?_ _
      go_wp2_with fail
      refine (lose_calls HG.drew hl).mono ?_
      rintro e w2 ⟨rfl, h4, k4⟩
      go_wp2
      go_ret
      rw [HB.out, HT.out]
      exact ⟨rfl, h4, (Ft.refl F w).drew.trans k4⟩
end Go.Proofs.Ytfmicnjijcmjaaa
