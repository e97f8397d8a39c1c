/- Proved here: what shaper's Set and Take answer, and what they leave. Conditions: as each theorem states them. -/
import Derived.Test.YtcenipihbmifpaaSV
import Derived.Deep.RegionWith
import Derived.BigQuiet
import Derived.Deep.QuietTactic
namespace Go.Proofs.Ytcenipihbmifpaa
set_option linter.unusedSimpArgs false
set_option linter.unusedVariables false
open Go.RowKit Go.Shelf

set_option maxHeartbeats 1000000 in
theorem scome_calls {w : World} {F : Nat → Prop} {r : Nat} {S : Sh} (h : SV w F r S) (t : Int) (t0 : 0 ≤ t) (t1 : t ≤ 1152921504606846976) : Calls Try.prog 25 #[.pointer (some ⟨r, 0, none⟩), .int .i64 t] w fun x w' => x = .returned (.tuple #[]) ∧ SV w' F r (S.come t) ∧ Ft F F w w' := by
  have hcO := h.ok.come t
  have hn8 := h.ok.len
  have hr := h.hr
  have hl := h.lt
  have rl := hl r hr
  have hmt : hM t = t := hM_id t0 t1
  have HO : Hid ((S.come t).Ok) := hcO
  have h1 : SV (w.alloc (.cells #[.int .i64 t] 3)) F r S := h.below ((Below.refl _ w).alloc (Nat.le_refl _) _) (Nat.le_refl _)
  clear hcO h
  go_enter Try.func25, Try.ntmps25
  go_wp2_with fail
  refine (sstep_calls h1 t).mono ?_
  rintro x w1 ⟨rfl, b1⟩
  rw [hmt]
  obtain ⟨⟨a, n, c, hb, hc, hy⟩, _, _, _⟩ := h1.below b1 (Nat.le_refl _)
  have KB := (bk_new w #[.int .i64 t] 3).below b1 (by simp)
  have B1 : Below w.heap.size w w1 := ((Below.refl _ w).alloc (Nat.le_refl _) _).trans (b1.mono (by simp))
  have f0 := hb.frozen 0
  have c0 := hb.cell 0 _ rfl
  have hn : n ≤ 8 := by rw [hc.1]; exact hn8
  obtain ⟨z, hz⟩ : ∃ z, stN S.s S.L t = z := ⟨_, rfl⟩
  have HZ : Hid (stN S.s S.L t = z) := hz
  rw [hz]
  have hb2 := hb.set 0 (.int .i64 z)
  have hc2 : CS 64 0 (w1.setCell ⟨r, 0, none⟩ (.int .i64 z)) a n c S.L := hc.keep (fun y e => Below.heap_setCell _ _ _ _ (hy y e).2)
  have KB2 : BK (w1.setCell ⟨r, 0, none⟩ (.int .i64 z)) w.heap.size #[.int .i64 t] 3 := BK.gb KB (gb_set w1 (g := r) rfl _) (by simp; omega)
  have G2 : Ft F F w (w1.setCell ⟨r, 0, none⟩ (.int .i64 z)) := (Ft.of B1 (Nat.le_refl _)).trans (Ft.set _ hr _)
  have c4 := hb2.cell 4 _ rfl
  have f4 := hb2.frozen 4
  clear hz hb hc KB h1 b1 B1
  go_wp2_with fail
  refine (delete_calls _ a n c S.L hc2 hn w.heap.size t KB2).mono ?_
  rintro x w3 ⟨m, rfl, o3, g3⟩
  have hrow : ∀ k, (Value.slice a n c).ownBlock = some k → F k ∧ k ≠ r := fun k e => by
    cases a with
    | none => simp [Value.ownBlock] at e
    | some y => simp [Value.ownBlock] at e; subst e; exact hy y rfl
  have hb3 := hb2.gb g3 (fun e => (hrow r e.symm).2 rfl)
  have G3 := G2.trans (Ft.gb g3 (fun k e => (hrow k e).1))
  have f4' := hb3.frozen 4
  have c4' := hb3.cell 4 _ rfl
  clear c4 f4 c0 f0 hb2 hc2 KB2 G2 g3
  go_wp2
  refine bodyPost_end (results_none rfl _ _ _) rfl ?_
  refine ⟨rfl, ⟨⟨a, m, c, ?_, o3.keep (fun y e => Below.heap_setCell _ _ _ _ (hy y e).2), hy⟩, hr, fun k hk => ?_, HO.out⟩, G3.trans (Ft.set _ hr _)⟩
  · have h5 := hb3.set 4 (.slice a m c)
    show BK _ r #[.int .i64 (stN S.s S.L t), .int .i64 S.e, .int .i64 S.slow, .int .i64 S.quick, .slice a m c, .int .i64 S.T] _
    rw [HZ.out]
    simpa using h5
  · have h6 := hl k hk; have h7 := G3.size; simp [World.setCell]; omega

theorem slast_calls {w : World} {F : Nat → Prop} {r : Nat} {S : Sh} (h : SV w F r S) : Calls Try.prog 26 #[.pointer (some ⟨r, 0, none⟩)] w fun x w' => x = .returned (.int .i64 S.last) ∧ w' = w := by
  obtain ⟨⟨a, n, c, hb, hc, hy⟩, h1, h2, h3⟩ := h
  have c0 := hb.cell 0 _ rfl
  have c4 := hb.cell 4 _ rfl
  have hn8 : n ≤ 8 := by rw [hc.1]; exact h3.len
  have Hn : Hid (n = S.L.length) := hc.1
  by_cases h0 : n = 0
  · subst h0
    have HL : Hid (S.last = S.s) := by
      show S.last = S.s
      unfold Sh.last
      rw [List.eq_nil_of_length_eq_zero Hn.out.symm]
      rfl
    go_enter Try.func26, Try.ntmps26
    go_wp2
    go_ret
    exact ⟨sret_int HL.out.symm, rfl⟩
  · obtain ⟨k, rfl⟩ : ∃ k, n = k + 1 := ⟨n - 1, by omega⟩
    obtain ⟨x, hx⟩ : ∃ x, S.L[k]? = some x := ⟨_, List.getElem?_eq_getElem (by have := Hn.out; omega)⟩
    have HL : Hid (S.last = x.1) := by
      show S.last = x.1
      unfold Sh.last
      rw [List.getLast?_eq_getElem?, ← Hn.out, Nat.add_sub_cancel, hx]
    obtain ⟨g, rfl, d1, d2⟩ := hc.cell hx
    have hk1 : IntKind.i64.wrap (((k + 1 : Nat) : Int) - 1) = (k : Int) := by rw [IntKind.wrap_i64]; omega
    clear hx
    go_enter Try.func26, Try.ntmps26
    go_wp2
    go_ret
    exact ⟨sret_int HL.out.symm, rfl⟩

theorem Ft.drew {F F' : Nat → Prop} {w w' : World} (h : Ft F F' w w') : Ft F F' w w'.drew := ⟨h.os, h.tape, h.output, h.size, h.block, h.new⟩
theorem take_sv {w : World} {F : Nat → Prop} {r : Nat} {S : Sh} {m z : Int} (HF : S.fit m = true) (HZ : (S.come m).s = z) (HO : (S.take m).Ok) {a : Option Addr} {n c : Nat}
    (hb : BK w r #[.int .i64 z, .int .i64 S.e, .int .i64 S.slow, .int .i64 S.quick, .slice a n c, .int .i64 S.T] 59) (hc : CS 64 0 w a n c (S.come m).L) (hy : ∀ y, a = some y → F y.block ∧ y.block ≠ r) (hr : F r) (hl : ∀ k, F k → k < w.heap.size) :
    SV (w.setCell ⟨r, 5, none⟩ (.int .i64 (max S.T m + z))).drew.drew F r (S.take m) := by
  have hT : S.take m = { S.come m with T := max S.T m + (S.come m).s } := by unfold Sh.take; rw [if_pos (by exact HF)]
  have h5 := hb.set 5 (.int .i64 (max S.T m + z))
  refine ⟨?_, hr, fun k hk => ?_, HO⟩
  · rw [hT]
    refine ⟨a, n, c, ?_, hc.keep (fun y e => Below.heap_setCell _ _ _ _ (hy y e).2), hy⟩
    show BK _ r #[.int .i64 (S.come m).s, .int .i64 S.e, .int .i64 S.slow, .int .i64 S.quick, .slice a n c, .int .i64 (max S.T m + (S.come m).s)] _
    rw [HZ]
    exact h5
  · have := hl k hk; show k < (w.setCell _ _).heap.size; simp [World.setCell]; omega

set_option maxHeartbeats 1000000 in
theorem stake_calls {w : World} {F : Nat → Prop} {r : Nat} {S : Sh} (h : SV w F r S) (t : Int) : Calls Try.prog 14 #[.pointer (some ⟨r, 0, none⟩), .int .i64 t] w fun x w' => x = .returned (.bool (S.fit (hM t))) ∧ SV w' F r (S.take (hM t)) ∧ Ft F F w w' := by
  have ⟨m0, m1⟩ := hM_bound t
  have HO : Hid ((S.take (hM t)).Ok) := h.ok.take m0 m1
  obtain ⟨m, hm⟩ : ∃ m, hM t = m := ⟨_, rfl⟩
  have HM : Hid (hM t = m) := hm
  rw [hm] at m0 m1 HO ⊢
  clear hm
  go_enter Try.func14, Try.ntmps14
  go_wp2_with fail
  refine (smoment_calls t _).mono ?_
  rintro x w1 ⟨rfl, rfl⟩
  rw [HM.out]
  go_wp2_with fail
  refine (scome_calls h m m0 m1).mono ?_
  rintro x w1 ⟨rfl, h1, F1⟩
  have hok := h1.ok
  have H1 : Hid (SV w1 F r (S.come m)) := h1
  obtain ⟨⟨a, n, c, hb, hc, hy⟩, hr, hl, _⟩ := h1
  have T0 : 0 ≤ S.T := hok.T0
  have T1 : S.T ≤ 3458764513820540928 := hok.T1
  have e0 : 0 ≤ S.e := hok.e0
  have e1 : S.e ≤ 1152921504606846976 := hok.e1
  have s0 := hok.s0
  have s1 := hok.s1
  obtain ⟨z, hz⟩ : ∃ z, (S.come m).s = z := ⟨_, rfl⟩
  have HZ : Hid ((S.come m).s = z) := hz
  have hb' : BK w1 r #[.int .i64 z, .int .i64 S.e, .int .i64 S.slow, .int .i64 S.quick, .slice a n c, .int .i64 S.T] 59 := by rw [← hz]; exact hb
  rw [hz] at s0 s1
  have c0 := hb'.cell 0 _ rfl
  have c1 := hb'.cell 1 _ rfl
  have c5 := hb'.cell 5 _ rfl
  have f5 := hb'.frozen 5
  clear hz hb hok h
  by_cases hf : S.T - S.e ≤ m
  · have HF : Hid (S.fit m = true) := decide_eq_true hf
    have hT : S.T ≤ 2305843009213693952 := by omega
    have hd : decide (m < S.T - S.e) = false := decide_eq_false (by omega)
    clear hf
    go_wp2
    refine wp_region_held_drew (S := (fun w' => w'.cell? ⟨r, 5, none⟩ = some (.int .i64 S.T) ∧ w'.cell? ⟨r, 1, none⟩ = some (.int .i64 S.e))) (by kernel_rfl) ⟨c5, c1⟩ (fun hHeld => ?_)
    refine wpAnyH_take (i := 0) (oi := ({ dst := some 12, op := Op.move (Operand.tmp 1), type := 3, pos := _, after := #[], guard := none } : Oper)) (v := ?_) rfl (by kernel_rfl) (by kernel_rfl) (by kernel_rfl) (fun _ _ _ h => h) (Or.inl ⟨by rfl, ?_⟩) hHeld ?_
    rotate_left
    · (intro w hS; go_simp; try with_reducible rfl)
    try simp only [Act.put, List.setIfInBounds_toArray, List.set_cons_zero, List.set_cons_succ]
    refine wpAnyH_take (i := 1) (oi := ({ dst := some 13, op := Op.move (Operand.tmp 0), type := 24, pos := _, after := #[], guard := none } : Oper)) (v := ?_) rfl (by kernel_rfl) (by kernel_rfl) (by kernel_rfl) (fun _ _ _ h => h) (Or.inl ⟨by rfl, ?_⟩) hHeld ?_
    rotate_left
    · (intro w hS; go_simp; try with_reducible rfl)
    try simp only [Act.put, List.setIfInBounds_toArray, List.set_cons_zero, List.set_cons_succ]
    refine wpAnyH_take (i := 2) (oi := ({ dst := some 14, op := Op.nilCheck (Operand.tmp 13), type := 0, pos := _, after := #[{ on := 1, ground := Ground.data }], guard := none } : Oper)) (v := ?_) rfl (by kernel_rfl) (by kernel_rfl) (by kernel_rfl) (fun _ _ _ h => h) (Or.inl ⟨by rfl, ?_⟩) hHeld ?_
    rotate_left
    · (intro w hS; go_simp; try with_reducible rfl)
    try simp only [Act.put, List.setIfInBounds_toArray, List.set_cons_zero, List.set_cons_succ]
    refine wpAnyH_take (i := 3) (oi := ({ dst := some 15, op := Op.fieldAddr 59 (Operand.tmp 14) 5, type := 0, pos := _, after := #[{ on := 2, ground := Ground.data }], guard := none } : Oper)) (v := ?_) rfl (by kernel_rfl) (by kernel_rfl) (by kernel_rfl) (fun _ _ _ h => h) (Or.inl ⟨by rfl, ?_⟩) hHeld ?_
    rotate_left
    · (intro w hS; go_simp; try with_reducible rfl)
    try simp only [Act.put, List.setIfInBounds_toArray, List.set_cons_zero, List.set_cons_succ]
    refine wpAnyH_take (i := 4) (oi := ({ dst := some 16, op := Op.load 3 (Operand.tmp 15), type := 3, pos := _, after := #[{ on := 3, ground := Ground.data }], guard := none } : Oper)) (v := ?_) rfl (by kernel_rfl) (by kernel_rfl) (by kernel_rfl) (fun _ _ _ h => h) (Or.inl ⟨by rfl, ?_⟩) hHeld ?_
    rotate_left
    · (intro w hS; go_simp; try with_reducible rfl)
    try simp only [Act.put, List.setIfInBounds_toArray, List.set_cons_zero, List.set_cons_succ]
    refine wpAnyH_take (i := 5) (oi := ({ dst := some 17, op := Op.move (Operand.tmp 0), type := 24, pos := _, after := #[], guard := none } : Oper)) (v := ?_) rfl (by kernel_rfl) (by kernel_rfl) (by kernel_rfl) (fun _ _ _ h => h) (Or.inl ⟨by rfl, ?_⟩) hHeld ?_
    rotate_left
    · (intro w hS; go_simp; try with_reducible rfl)
    try simp only [Act.put, List.setIfInBounds_toArray, List.set_cons_zero, List.set_cons_succ]
    refine wpAnyH_take (i := 6) (oi := ({ dst := some 18, op := Op.nilCheck (Operand.tmp 17), type := 0, pos := _, after := #[{ on := 5, ground := Ground.data }], guard := none } : Oper)) (v := ?_) rfl (by kernel_rfl) (by kernel_rfl) (by kernel_rfl) (fun _ _ _ h => h) (Or.inl ⟨by rfl, ?_⟩) hHeld ?_
    rotate_left
    · (intro w hS; go_simp; try with_reducible rfl)
    try simp only [Act.put, List.setIfInBounds_toArray, List.set_cons_zero, List.set_cons_succ]
    refine wpAnyH_take (i := 7) (oi := ({ dst := some 19, op := Op.fieldAddr 59 (Operand.tmp 18) 1, type := 0, pos := _, after := #[{ on := 6, ground := Ground.data }], guard := none } : Oper)) (v := ?_) rfl (by kernel_rfl) (by kernel_rfl) (by kernel_rfl) (fun _ _ _ h => h) (Or.inl ⟨by rfl, ?_⟩) hHeld ?_
    rotate_left
    · (intro w hS; go_simp; try with_reducible rfl)
    try simp only [Act.put, List.setIfInBounds_toArray, List.set_cons_zero, List.set_cons_succ]
    refine wpAnyH_take (i := 8) (oi := ({ dst := some 20, op := Op.load 3 (Operand.tmp 19), type := 3, pos := _, after := #[{ on := 7, ground := Ground.data }], guard := none } : Oper)) (v := ?_) rfl (by kernel_rfl) (by kernel_rfl) (by kernel_rfl) (fun _ _ _ h => h) (Or.inl ⟨by rfl, ?_⟩) hHeld ?_
    rotate_left
    · (intro w hS; go_simp; try with_reducible rfl)
    try simp only [Act.put, List.setIfInBounds_toArray, List.set_cons_zero, List.set_cons_succ]
    refine wpAnyH_take (i := 9) (oi := ({ dst := some 21, op := Op.binOp BinOp.sub 3 (Operand.tmp 16) (Operand.tmp 20) 3, type := 3, pos := _, after := #[{ on := 4, ground := Ground.data }, { on := 8, ground := Ground.data }], guard := none } : Oper)) (v := ?_) rfl (by kernel_rfl) (by kernel_rfl) (by kernel_rfl) (fun _ _ _ h => h) (Or.inl ⟨by rfl, ?_⟩) hHeld ?_
    rotate_left
    · (intro w hS; go_simp; try with_reducible rfl)
    try simp only [Act.put, List.setIfInBounds_toArray, List.set_cons_zero, List.set_cons_succ]
    rw [swrap_id (x := S.T - S.e) (by omega) (by omega)]
    refine wpAnyH_take (i := 10) (oi := ({ dst := some 22, op := Op.binOp BinOp.lss 3 (Operand.tmp 12) (Operand.tmp 21) 3, type := 4, pos := _, after := #[{ on := 0, ground := Ground.data }, { on := 9, ground := Ground.data }], guard := none } : Oper)) (v := ?_) rfl (by kernel_rfl) (by kernel_rfl) (by kernel_rfl) (fun _ _ _ h => h) (Or.inl ⟨by rfl, ?_⟩) hHeld ?_
    rotate_left
    · (intro w hS; go_simp; try with_reducible rfl)
    try simp only [Act.put, List.setIfInBounds_toArray, List.set_cons_zero, List.set_cons_succ]
    refine wpAnyH_done (by kernel_rfl) ?_ _
    skip
    go_wp2
    have hw : IntKind.i64.wrap ((if S.T < m then m else S.T) + z) = max S.T m + z := by rw [swrap_id (by split <;> omega) (by split <;> omega)]; split <;> omega
    refine wp_region_held_drew (S := (fun w' => w'.cell? ⟨r, 0, none⟩ = some (.int .i64 z))) (by kernel_rfl) c0 (fun hHeld => ?_)
    refine wpAnyH_take (i := 0) (oi := ({ dst := some 23, op := Op.move (Operand.tmp 0), type := 24, pos := _, after := #[], guard := none } : Oper)) (v := ?_) rfl (by kernel_rfl) (by kernel_rfl) (by kernel_rfl) (fun _ _ _ h => h) (Or.inl ⟨by rfl, ?_⟩) hHeld ?_
    rotate_left
    · (intro w hS; go_simp; try with_reducible rfl)
    try simp only [Act.put, List.setIfInBounds_toArray, List.set_cons_zero, List.set_cons_succ]
    refine wpAnyH_take (i := 1) (oi := ({ dst := some 24, op := Op.move (Operand.tmp 0), type := 24, pos := _, after := #[], guard := none } : Oper)) (v := ?_) rfl (by kernel_rfl) (by kernel_rfl) (by kernel_rfl) (fun _ _ _ h => h) (Or.inl ⟨by rfl, ?_⟩) hHeld ?_
    rotate_left
    · (intro w hS; go_simp; try with_reducible rfl)
    try simp only [Act.put, List.setIfInBounds_toArray, List.set_cons_zero, List.set_cons_succ]
    refine wpAnyH_take (i := 2) (oi := ({ dst := some 25, op := Op.nilCheck (Operand.tmp 24), type := 0, pos := _, after := #[{ on := 1, ground := Ground.data }], guard := none } : Oper)) (v := ?_) rfl (by kernel_rfl) (by kernel_rfl) (by kernel_rfl) (fun _ _ _ h => h) (Or.inl ⟨by rfl, ?_⟩) hHeld ?_
    rotate_left
    · (intro w hS; go_simp; try with_reducible rfl)
    try simp only [Act.put, List.setIfInBounds_toArray, List.set_cons_zero, List.set_cons_succ]
    refine wpAnyH_take (i := 3) (oi := ({ dst := some 26, op := Op.fieldAddr 59 (Operand.tmp 25) 5, type := 0, pos := _, after := #[{ on := 2, ground := Ground.data }], guard := none } : Oper)) (v := ?_) rfl (by kernel_rfl) (by kernel_rfl) (by kernel_rfl) (fun _ _ _ h => h) (Or.inl ⟨by rfl, ?_⟩) hHeld ?_
    rotate_left
    · (intro w hS; go_simp; try with_reducible rfl)
    try simp only [Act.put, List.setIfInBounds_toArray, List.set_cons_zero, List.set_cons_succ]
    refine wpAnyH_take (i := 5) (oi := ({ dst := some 28, op := Op.move (Operand.tmp 1), type := 3, pos := _, after := #[], guard := none } : Oper)) (v := ?_) rfl (by kernel_rfl) (by kernel_rfl) (by kernel_rfl) (fun _ _ _ h => h) (Or.inl ⟨by rfl, ?_⟩) hHeld ?_
    rotate_left
    · (intro w hS; go_simp; try with_reducible rfl)
    try simp only [Act.put, List.setIfInBounds_toArray, List.set_cons_zero, List.set_cons_succ]
    refine wpAnyH_take (i := 7) (oi := ({ dst := some 30, op := Op.move (Operand.tmp 0), type := 24, pos := _, after := #[], guard := none } : Oper)) (v := ?_) rfl (by kernel_rfl) (by kernel_rfl) (by kernel_rfl) (fun _ _ _ h => h) (Or.inl ⟨by rfl, ?_⟩) hHeld ?_
    rotate_left
    · (intro w hS; go_simp; try with_reducible rfl)
    try simp only [Act.put, List.setIfInBounds_toArray, List.set_cons_zero, List.set_cons_succ]
    refine wpAnyH_take (i := 8) (oi := ({ dst := some 31, op := Op.nilCheck (Operand.tmp 30), type := 0, pos := _, after := #[{ on := 7, ground := Ground.data }], guard := none } : Oper)) (v := ?_) rfl (by kernel_rfl) (by kernel_rfl) (by kernel_rfl) (fun _ _ _ h => h) (Or.inl ⟨by rfl, ?_⟩) hHeld ?_
    rotate_left
    · (intro w hS; go_simp; try with_reducible rfl)
    try simp only [Act.put, List.setIfInBounds_toArray, List.set_cons_zero, List.set_cons_succ]
    refine wpAnyH_take (i := 9) (oi := ({ dst := some 32, op := Op.fieldAddr 59 (Operand.tmp 31) 0, type := 0, pos := _, after := #[{ on := 8, ground := Ground.data }], guard := none } : Oper)) (v := ?_) rfl (by kernel_rfl) (by kernel_rfl) (by kernel_rfl) (fun _ _ _ h => h) (Or.inl ⟨by rfl, ?_⟩) hHeld ?_
    rotate_left
    · (intro w hS; go_simp; try with_reducible rfl)
    try simp only [Act.put, List.setIfInBounds_toArray, List.set_cons_zero, List.set_cons_succ]
    refine wpAnyH_take (i := 10) (oi := ({ dst := some 33, op := Op.load 3 (Operand.tmp 32), type := 3, pos := _, after := #[{ on := 9, ground := Ground.data }], guard := none } : Oper)) (v := ?_) rfl (by kernel_rfl) (by kernel_rfl) (by kernel_rfl) (fun _ _ _ h => h) (Or.inl ⟨by rfl, ?_⟩) hHeld ?_
    rotate_left
    · (intro w hS; go_simp; try with_reducible rfl)
    try simp only [Act.put, List.setIfInBounds_toArray, List.set_cons_zero, List.set_cons_succ]
    refine wpAnyH_ready (rs := [4]) (by kernel_rfl) (by simp) ?_
    refine AllReadyH.cons (o := ({ dst := some 27, op := Op.load 3 (Operand.tmp 26), type := 3, pos := _, after := #[{ on := 3, ground := Ground.data }], guard := none } : Oper)) rfl (fun K hK => ?_) AllReadyH.nil
    go_simp
    skip
    refine hK.out _ _ c0 (fun hHeld => ?_)
    clear hK K
    try simp only [Act.put, List.setIfInBounds_toArray, List.set_cons_zero, List.set_cons_succ]
    refine wpAnyH_take (i := 6) (oi := ({ dst := some 29, op := Op.call { callee := Callee.builtin Builtin.max, args := #[Operand.tmp 27, Operand.tmp 28], argTypes := #[3, 3] }, type := 3, pos := _, after := #[{ on := 4, ground := Ground.data }, { on := 5, ground := Ground.data }], guard := none } : Oper)) (v := ?_) rfl (by kernel_rfl) (by kernel_rfl) (by kernel_rfl) (fun _ _ _ h => h) (Or.inl ⟨by rfl, ?_⟩) hHeld ?_
    rotate_left
    · (intro w hS; go_simp; try with_reducible rfl)
    try simp only [Act.put, List.setIfInBounds_toArray, List.set_cons_zero, List.set_cons_succ]
    refine wpAnyH_take (i := 11) (oi := ({ dst := some 34, op := Op.binOp BinOp.add 3 (Operand.tmp 29) (Operand.tmp 33) 3, type := 3, pos := _, after := #[{ on := 6, ground := Ground.data }, { on := 10, ground := Ground.data }], guard := none } : Oper)) (v := ?_) rfl (by kernel_rfl) (by kernel_rfl) (by kernel_rfl) (fun _ _ _ h => h) (Or.inl ⟨by rfl, ?_⟩) hHeld ?_
    rotate_left
    · (intro w hS; go_simp; try with_reducible rfl)
    try simp only [Act.put, List.setIfInBounds_toArray, List.set_cons_zero, List.set_cons_succ]
    refine wpAnyH_take (i := 12) (oi := ({ dst := some 35, op := Op.nilCheck (Operand.tmp 23), type := 0, pos := _, after := #[{ on := 0, ground := Ground.data }, { on := 0, ground := Ground.phase }, { on := 1, ground := Ground.phase }, { on := 2, ground := Ground.phase }, { on := 3, ground := Ground.phase }, { on := 4, ground := Ground.phase }, { on := 5, ground := Ground.phase }, { on := 6, ground := Ground.phase }, { on := 7, ground := Ground.phase }, { on := 8, ground := Ground.phase }, { on := 9, ground := Ground.phase }, { on := 10, ground := Ground.phase }, { on := 11, ground := Ground.phase }], guard := none } : Oper)) (v := ?_) rfl (by kernel_rfl) (by kernel_rfl) (by kernel_rfl) (fun _ _ _ h => h) (Or.inl ⟨by rfl, ?_⟩) hHeld ?_
    rotate_left
    · (intro w hS; go_simp; try with_reducible rfl)
    try simp only [Act.put, List.setIfInBounds_toArray, List.set_cons_zero, List.set_cons_succ]
    refine wpAnyH_take (i := 13) (oi := ({ dst := some 36, op := Op.fieldAddr 59 (Operand.tmp 35) 5, type := 0, pos := _, after := #[{ on := 12, ground := Ground.data }, { on := 0, ground := Ground.phase }, { on := 1, ground := Ground.phase }, { on := 2, ground := Ground.phase }, { on := 3, ground := Ground.phase }, { on := 4, ground := Ground.phase }, { on := 5, ground := Ground.phase }, { on := 6, ground := Ground.phase }, { on := 7, ground := Ground.phase }, { on := 8, ground := Ground.phase }, { on := 9, ground := Ground.phase }, { on := 10, ground := Ground.phase }, { on := 11, ground := Ground.phase }], guard := none } : Oper)) (v := ?_) rfl (by kernel_rfl) (by kernel_rfl) (by kernel_rfl) (fun _ _ _ h => h) (Or.inl ⟨by rfl, ?_⟩) hHeld ?_
    rotate_left
    · (intro w hS; go_simp; try with_reducible rfl)
    try simp only [Act.put, List.setIfInBounds_toArray, List.set_cons_zero, List.set_cons_succ]
    refine wpAnyH_ready (rs := [14]) (by kernel_rfl) (by simp) ?_
    refine AllReadyH.cons (o := ({ dst := none, op := Op.store 3 (Operand.tmp 36) (Operand.tmp 34), type := 0, pos := _, after := #[{ on := 13, ground := Ground.data }, { on := 11, ground := Ground.data }, { on := 0, ground := Ground.phase }, { on := 1, ground := Ground.phase }, { on := 2, ground := Ground.phase }, { on := 3, ground := Ground.phase }, { on := 4, ground := Ground.phase }, { on := 5, ground := Ground.phase }, { on := 6, ground := Ground.phase }, { on := 7, ground := Ground.phase }, { on := 8, ground := Ground.phase }, { on := 9, ground := Ground.phase }, { on := 10, ground := Ground.phase }, { on := 11, ground := Ground.phase }], guard := none } : Oper)) rfl (fun K hK => ?_) AllReadyH.nil
    go_simp
    skip
    refine hK.out _ _ ((World.cell?_setCell_other _ ⟨r, 5, none⟩ ⟨r, 0, none⟩ _ (by simp)).trans c0) (fun hHeld => ?_)
    clear hK K
    try simp only [Act.put, List.setIfInBounds_toArray, List.set_cons_zero, List.set_cons_succ]
    refine wpAnyH_done (by kernel_rfl) ?_ _
    clear hw
    generalize (if S.T < m then m else S.T) = u at *
    go_wp2
    go_ret
    exact ⟨sret_bool HF.out.symm, take_sv HF.out HZ.out HO.out hb' hc hy hr hl, (F1.trans (Ft.set w1 (p := ⟨r, 5, none⟩) hr _)).drew.drew⟩
  · have HF : Hid (S.fit m = false) := decide_eq_false hf
    have hd : decide (m < S.T - S.e) = true := decide_eq_true (by omega)
    have hNF : Hid (¬ S.T - S.e ≤ m) := hf
    clear hf
    go_wp2
    refine wp_region_held_drew (S := (fun w' => w'.cell? ⟨r, 5, none⟩ = some (.int .i64 S.T) ∧ w'.cell? ⟨r, 1, none⟩ = some (.int .i64 S.e))) (by kernel_rfl) ⟨c5, c1⟩ (fun hHeld => ?_)
    refine wpAnyH_take (i := 0) (oi := ({ dst := some 12, op := Op.move (Operand.tmp 1), type := 3, pos := _, after := #[], guard := none } : Oper)) (v := ?_) rfl (by kernel_rfl) (by kernel_rfl) (by kernel_rfl) (fun _ _ _ h => h) (Or.inl ⟨by rfl, ?_⟩) hHeld ?_
    rotate_left
    · (intro w hS; go_simp; try with_reducible rfl)
    try simp only [Act.put, List.setIfInBounds_toArray, List.set_cons_zero, List.set_cons_succ]
    refine wpAnyH_take (i := 1) (oi := ({ dst := some 13, op := Op.move (Operand.tmp 0), type := 24, pos := _, after := #[], guard := none } : Oper)) (v := ?_) rfl (by kernel_rfl) (by kernel_rfl) (by kernel_rfl) (fun _ _ _ h => h) (Or.inl ⟨by rfl, ?_⟩) hHeld ?_
    rotate_left
    · (intro w hS; go_simp; try with_reducible rfl)
    try simp only [Act.put, List.setIfInBounds_toArray, List.set_cons_zero, List.set_cons_succ]
    refine wpAnyH_take (i := 2) (oi := ({ dst := some 14, op := Op.nilCheck (Operand.tmp 13), type := 0, pos := _, after := #[{ on := 1, ground := Ground.data }], guard := none } : Oper)) (v := ?_) rfl (by kernel_rfl) (by kernel_rfl) (by kernel_rfl) (fun _ _ _ h => h) (Or.inl ⟨by rfl, ?_⟩) hHeld ?_
    rotate_left
    · (intro w hS; go_simp; try with_reducible rfl)
    try simp only [Act.put, List.setIfInBounds_toArray, List.set_cons_zero, List.set_cons_succ]
    refine wpAnyH_take (i := 3) (oi := ({ dst := some 15, op := Op.fieldAddr 59 (Operand.tmp 14) 5, type := 0, pos := _, after := #[{ on := 2, ground := Ground.data }], guard := none } : Oper)) (v := ?_) rfl (by kernel_rfl) (by kernel_rfl) (by kernel_rfl) (fun _ _ _ h => h) (Or.inl ⟨by rfl, ?_⟩) hHeld ?_
    rotate_left
    · (intro w hS; go_simp; try with_reducible rfl)
    try simp only [Act.put, List.setIfInBounds_toArray, List.set_cons_zero, List.set_cons_succ]
    refine wpAnyH_take (i := 4) (oi := ({ dst := some 16, op := Op.load 3 (Operand.tmp 15), type := 3, pos := _, after := #[{ on := 3, ground := Ground.data }], guard := none } : Oper)) (v := ?_) rfl (by kernel_rfl) (by kernel_rfl) (by kernel_rfl) (fun _ _ _ h => h) (Or.inl ⟨by rfl, ?_⟩) hHeld ?_
    rotate_left
    · (intro w hS; go_simp; try with_reducible rfl)
    try simp only [Act.put, List.setIfInBounds_toArray, List.set_cons_zero, List.set_cons_succ]
    refine wpAnyH_take (i := 5) (oi := ({ dst := some 17, op := Op.move (Operand.tmp 0), type := 24, pos := _, after := #[], guard := none } : Oper)) (v := ?_) rfl (by kernel_rfl) (by kernel_rfl) (by kernel_rfl) (fun _ _ _ h => h) (Or.inl ⟨by rfl, ?_⟩) hHeld ?_
    rotate_left
    · (intro w hS; go_simp; try with_reducible rfl)
    try simp only [Act.put, List.setIfInBounds_toArray, List.set_cons_zero, List.set_cons_succ]
    refine wpAnyH_take (i := 6) (oi := ({ dst := some 18, op := Op.nilCheck (Operand.tmp 17), type := 0, pos := _, after := #[{ on := 5, ground := Ground.data }], guard := none } : Oper)) (v := ?_) rfl (by kernel_rfl) (by kernel_rfl) (by kernel_rfl) (fun _ _ _ h => h) (Or.inl ⟨by rfl, ?_⟩) hHeld ?_
    rotate_left
    · (intro w hS; go_simp; try with_reducible rfl)
    try simp only [Act.put, List.setIfInBounds_toArray, List.set_cons_zero, List.set_cons_succ]
    refine wpAnyH_take (i := 7) (oi := ({ dst := some 19, op := Op.fieldAddr 59 (Operand.tmp 18) 1, type := 0, pos := _, after := #[{ on := 6, ground := Ground.data }], guard := none } : Oper)) (v := ?_) rfl (by kernel_rfl) (by kernel_rfl) (by kernel_rfl) (fun _ _ _ h => h) (Or.inl ⟨by rfl, ?_⟩) hHeld ?_
    rotate_left
    · (intro w hS; go_simp; try with_reducible rfl)
    try simp only [Act.put, List.setIfInBounds_toArray, List.set_cons_zero, List.set_cons_succ]
    refine wpAnyH_take (i := 8) (oi := ({ dst := some 20, op := Op.load 3 (Operand.tmp 19), type := 3, pos := _, after := #[{ on := 7, ground := Ground.data }], guard := none } : Oper)) (v := ?_) rfl (by kernel_rfl) (by kernel_rfl) (by kernel_rfl) (fun _ _ _ h => h) (Or.inl ⟨by rfl, ?_⟩) hHeld ?_
    rotate_left
    · (intro w hS; go_simp; try with_reducible rfl)
    try simp only [Act.put, List.setIfInBounds_toArray, List.set_cons_zero, List.set_cons_succ]
    refine wpAnyH_take (i := 9) (oi := ({ dst := some 21, op := Op.binOp BinOp.sub 3 (Operand.tmp 16) (Operand.tmp 20) 3, type := 3, pos := _, after := #[{ on := 4, ground := Ground.data }, { on := 8, ground := Ground.data }], guard := none } : Oper)) (v := ?_) rfl (by kernel_rfl) (by kernel_rfl) (by kernel_rfl) (fun _ _ _ h => h) (Or.inl ⟨by rfl, ?_⟩) hHeld ?_
    rotate_left
    · (intro w hS; go_simp; try with_reducible rfl)
    try simp only [Act.put, List.setIfInBounds_toArray, List.set_cons_zero, List.set_cons_succ]
    rw [swrap_id (x := S.T - S.e) (by omega) (by omega)]
    refine wpAnyH_take (i := 10) (oi := ({ dst := some 22, op := Op.binOp BinOp.lss 3 (Operand.tmp 12) (Operand.tmp 21) 3, type := 4, pos := _, after := #[{ on := 0, ground := Ground.data }, { on := 9, ground := Ground.data }], guard := none } : Oper)) (v := ?_) rfl (by kernel_rfl) (by kernel_rfl) (by kernel_rfl) (fun _ _ _ h => h) (Or.inl ⟨by rfl, ?_⟩) hHeld ?_
    rotate_left
    · (intro w hS; go_simp; try with_reducible rfl)
    try simp only [Act.put, List.setIfInBounds_toArray, List.set_cons_zero, List.set_cons_succ]
    refine wpAnyH_done (by kernel_rfl) ?_ _
    skip
    go_wp2
    go_ret
    refine ⟨sret_bool HF.out.symm, ?_, F1.trans (Ft.of (Below.refl w1.heap.size w1).drew (Nat.le_refl _))⟩
    have hT : S.take m = S.come m := by unfold Sh.take; rw [if_neg (by show ¬ (S.fit m = true); rw [HF.out]; decide)]
    rw [hT]
    exact H1.out.below (Below.refl w1.heap.size w1).drew (Nat.le_refl _)

theorem set_full {S : Sh} {t st : Int} (h : (S.come t).L.length = 8) : S.set t st = S.come t ∧ S.setE t = 9 := by unfold Sh.set Sh.setE; rw [if_pos h, if_pos h]; exact ⟨rfl, rfl⟩
theorem set_room {S : Sh} {t st : Int} (h : (S.come t).L.length ≠ 8) : S.set t st = { S.come t with L := (S.come t).L ++ [(S.come t).new t st] } ∧ S.setE t = 0 := by unfold Sh.set Sh.setE; rw [if_neg h, if_neg h]; exact ⟨rfl, rfl⟩

theorem set_sv {w : World} {F : Nat → Prop} {r : Nat} {S : Sh} {m v lag : Int} {a : Option Addr} {n c : Nat} (H1 : SV w F r (S.come m)) (hb : BK w r #[.int .i64 (S.come m).s, .int .i64 (S.come m).e, .int .i64 (S.come m).slow, .int .i64 (S.come m).quick, .slice a n c, .int .i64 (S.come m).T] 59)
    (hc : CS 64 0 w a n c (S.come m).L) (hy : ∀ y, a = some y → F y.block ∧ y.block ≠ r) (hn : n ≤ 8) (HE : S.set m v = { S.come m with L := (S.come m).L ++ [(S.come m).new m v] }) (HN : (S.come m).new m v = (v, m + lag)) (HO : (S.set m v).Ok) :
    ∃ g' c' w', (Builtin.append_ #[57, 57] 57 #[.slice a n c, .slice (some ⟨w.heap.size, 0, none⟩) 1 1]).run Try.prog (w.alloc (.cells #[.int .i64 v, .int .i64 (m + lag)] 64)) = .ok (.slice (some ⟨g', 0, none⟩) (n + 1) c') w' ∧
      w'.cell? ⟨r, 4, none⟩ = some (.slice a n c) ∧ w'.frozen? ⟨r, 4, none⟩ = false ∧ (∃ F', SV (w'.setCell ⟨r, 4, none⟩ (.slice (some ⟨g', 0, none⟩) (n + 1) c')) F' r (S.set m v) ∧ Ft F F' w (w'.setCell ⟨r, 4, none⟩ (.slice (some ⟨g', 0, none⟩) (n + 1) c'))) := by
  have bel := (Below.refl _ w).alloc (Nat.le_refl _) (.cells #[.int .i64 v, .int .i64 (m + lag)] 64)
  obtain ⟨g', c', w', hrun, o1, gr, hd⟩ := run_app_c Try.underlying57 info_c (w.alloc (.cells #[.int .i64 v, .int .i64 (m + lag)] 64)) 0 (Nat.zero_le _) a n c (S.come m).L (hc.below bel (Nat.le_refl _)) (by omega) 57 (v, m + lag) w.heap.size (bk_new _ _ _)
  have hrow : ∀ k, (Value.slice a n c).ownBlock = some k → F k ∧ k ≠ r := fun k e => by
    cases a with
    | none => simp [Value.ownBlock] at e
    | some y => simp [Value.ownBlock] at e; subst e; exact hy y rfl
  have hb2 := (hb.below bel hb.lt).gb gr (fun e => (hrow r e.symm).2 rfl)
  have hg'r : g' ≠ r ∧ (w.heap.size ≤ g' ∨ F g') := by
    have hrl := hb.lt
    rcases hd with ⟨y, hy1, hy2⟩ | h
    · have := hy y hy1; rw [hy2] at this; exact ⟨this.2, .inr this.1⟩
    · simp at h; exact ⟨by omega, .inl (by omega)⟩
  have F2 : Ft F F w (w'.setCell ⟨r, 4, none⟩ (.slice (some ⟨g', 0, none⟩) (n + 1) c')) := ((Ft.of bel (Nat.le_refl _)).trans (Ft.gb gr (fun k e => (hrow k e).1))).trans (Ft.set _ H1.hr _)
  refine ⟨g', c', w', hrun, hb2.cell 4 _ rfl, hb2.frozen 4, fun k => F k ∨ k = g', ?_, F2.wide (G := F) hg'r.2⟩
  have h5 := hb2.set 4 (.slice (some ⟨g', 0, none⟩) (n + 1) c')
  refine ⟨?_, .inl H1.hr, fun k hk => ?_, HO⟩
  · rw [HE, HN]
    refine ⟨some ⟨g', 0, none⟩, n + 1, c', ?_, o1.keep (fun y e => by cases e; exact Below.heap_setCell _ _ _ _ hg'r.1), fun y e => by cases e; exact ⟨.inr rfl, hg'r.1⟩⟩
    exact h5
  · rcases hk with hk | rfl
    · exact Nat.lt_of_lt_of_le (H1.lt k hk) F2.size
    · have := o1.lt.2; simp [World.setCell] at this ⊢; omega

set_option maxHeartbeats 2000000 in
theorem sset_calls {w : World} {F : Nat → Prop} {r : Nat} {S : Sh} (h : SV w F r S) (t st : Int) : Calls Try.prog 12 #[.pointer (some ⟨r, 0, none⟩), .int .i64 t, .int .i64 st] w fun x w' => x = .returned (.int .i64 (S.setE (hM t))) ∧ ∃ F', SV w' F' r (S.set (hM t) (hS st)) ∧ Ft F F' w w' := by
  have ⟨m0, m1⟩ := hM_bound t
  have ⟨v0, v1⟩ := hS_bound st
  have HO : Hid ((S.set (hM t) (hS st)).Ok) := h.ok.set m0 m1 v0 v1
  obtain ⟨m, hm⟩ : ∃ m, hM t = m := ⟨_, rfl⟩
  have HM : Hid (hM t = m) := hm
  obtain ⟨v, hv⟩ : ∃ v, hS st = v := ⟨_, rfl⟩
  have HV : Hid (min (max st 1) 1152921504606846976 = v) := hv
  rw [hm] at m0 m1 HO ⊢
  rw [hv] at v0 v1 HO ⊢
  clear hm hv
  go_enter Try.func12, Try.ntmps12
  go_wp2_with fail
  refine (smoment_calls t _).mono ?_
  rintro x w1 ⟨rfl, rfl⟩
  rw [HM.out]
  go_wp2_with fail
  refine (sheld_calls st 1 1152921504606846976 _).mono ?_
  rintro x w1 ⟨rfl, rfl⟩
  rw [HV.out]
  go_wp2_with fail
  refine (scome_calls h m m0 m1).mono ?_
  rintro x w1 ⟨rfl, h1, F1⟩
  have hok := h1.ok
  have H1 : Hid (SV w1 F r (S.come m)) := h1
  obtain ⟨⟨a, n, c, hb, hc, hy⟩, hr, hl, _⟩ := h1
  have hn8 : n ≤ 8 := by rw [hc.1]; exact hok.len
  have Hn : Hid (n = (S.come m).L.length) := hc.1
  have c4 := hb.cell 4 _ rfl
  by_cases hfull : n = 8
  · subst hfull
    have ⟨E1, E2⟩ := set_full (S := S) (t := m) (st := v) Hn.out.symm
    have HE1 : Hid (S.set m v = S.come m) := E1
    have HE2 : Hid (S.setE m = 9) := E2
    clear E1 E2 hok
    go_wp2
    go_ret
    exact ⟨sret_int HE2.out.symm, F, by rw [HE1.out]; exact H1.out, F1⟩
  · have ⟨E1, E2⟩ := set_room (S := S) (t := m) (st := v) (by rw [← Hn.out]; exact hfull)
    have HE1 : Hid (S.set m v = { S.come m with L := (S.come m).L ++ [(S.come m).new m v] }) := E1
    have HE2 : Hid (S.setE m = 0) := E2
    have hne : ((n : Int) == 8) = false := beq_eq_false_iff_ne.2 (by omega)
    clear E1 E2 hfull
    have w0 := hok.w0
    have w1' := hok.w1
    have q0 := hok.q0
    have q1 := hok.q1
    have c2 := hb.cell 2 _ rfl
    have c3 := hb.cell 3 _ rfl
    obtain ⟨lst, hlst⟩ : ∃ lst, (S.come m).last = lst := ⟨_, rfl⟩
    have HLs : Hid ((S.come m).last = lst) := hlst
    go_wp2_with fail
    refine (slast_calls H1.out).mono ?_
    rintro x w2 ⟨rfl, rfl⟩
    rw [hlst]
    clear hlst
    by_cases hvl : v < lst
    · have hd : decide (v < lst) = true := decide_eq_true hvl
      have HN : (S.come m).new m v = (v, m + (S.come m).quick) := by unfold Sh.new; rw [HLs.out, if_pos hvl]
      obtain ⟨g', c', w3, hap, c4', f4', HF⟩ := set_sv H1.out hb hc hy hn8 HE1.out HN HO.out
      have HHF : Hid _ := HF
      clear hvl HN HF hok
      obtain ⟨lag, hlag⟩ : ∃ lag, (S.come m).quick = lag := ⟨_, rfl⟩
      rw [hlag] at q0 q1 c3 hap
      clear hlag hb
      go_wp2_with (at_builtin; refine wpList_app hap _ _ rfl rfl rfl rfl rfl ?_)
      go_ret
      obtain ⟨F', h6, h7⟩ := HHF.out
      exact ⟨sret_int HE2.out.symm, F', h6, F1.trans h7⟩
    · have hd : decide (v < lst) = false := decide_eq_false hvl
      have HN : (S.come m).new m v = (v, m + (S.come m).slow) := by unfold Sh.new; rw [HLs.out, if_neg hvl]
      obtain ⟨g', c', w3, hap, c4', f4', HF⟩ := set_sv H1.out hb hc hy hn8 HE1.out HN HO.out
      have HHF : Hid _ := HF
      clear hvl HN HF hok
      obtain ⟨lag, hlag⟩ : ∃ lag, (S.come m).slow = lag := ⟨_, rfl⟩
      rw [hlag] at w0 w1' c2 hap ⊢
      clear hlag hb
      go_wp2_with (at_builtin; refine wpList_app hap _ _ rfl rfl rfl rfl rfl ?_)
      go_ret
      obtain ⟨F', h6, h7⟩ := HHF.out
      exact ⟨sret_int HE2.out.symm, F', h6, F1.trans h7⟩
end Go.Proofs.Ytcenipihbmifpaa
