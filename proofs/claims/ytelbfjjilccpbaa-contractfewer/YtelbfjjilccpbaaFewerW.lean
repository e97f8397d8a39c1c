/- Proved here: the walk of ContractFewer. Conditions: as each theorem states them. -/
import Derived.Test.YtelbfjjilccpbaaLd
import Derived.Deep.DeepCutAuto
namespace Go.Proofs.Ytelbfjjilccpbaa
set_option linter.unusedSimpArgs false
set_option linter.unusedVariables false
open Go.RowKit Go.Shelf

/-- Six numbers. -/
structure C6 where
  k : Int
  p : Int
  e : Int
  w : Int
  b : Int
  l : Int
def C6.v (c : C6) : Value := cV c.k c.p c.e c.w c.b c.l
def C6.ok (c : C6) : Bool := okB c.k c.p c.e c.w c.b c.l
def few (c d : C6) : Bool := fewB c.k c.p c.e c.w c.b c.l d.k d.p d.e d.w d.b d.l
theorem few_iff {c d : C6} : few c d = true ↔ c.ok = true ∧ d.ok = true ∧ c.k = d.k ∧ c.l = d.l ∧ d.p ≤ c.p ∧ d.w ≤ c.w ∧ c.e ≤ d.e ∧ c.b ≤ d.b := by
  simp only [few, fewB, C6.ok, Bool.and_eq_true, beq_iff_eq, decide_eq_true_eq, and_assoc]
theorem few_self (c : C6) : few c c = c.ok := by
  cases h : c.ok
  · cases h2 : few c c
    · rfl
    · rw [few_iff] at h2; rw [h] at h2; cases h2.1
  · rw [few_iff]; exact ⟨h, h, rfl, rfl, Int.le_refl _, Int.le_refl _, Int.le_refl _, Int.le_refl _⟩
theorem few_trans {a b c : C6} (h : few a b = true) (h2 : few b c = true) : few a c = true := by
  rw [few_iff] at h h2 ⊢
  refine ⟨h.1, h2.2.1, ?_⟩
  omega
theorem few_anti {a b : C6} (h : few a b = true) (h2 : few b a = true) : a = b := by
  rw [few_iff] at h h2
  cases a; cases b
  simp only [C6.mk.injEq] at *
  omega

theorem few_self' (k p e w b l : Int) : fewB k p e w b l k p e w b l = (errN k p e w b l == 0) := few_self ⟨k, p, e, w, b, l⟩

theorem eql_con (W : World) (k p e w b l k2 p2 e2 w2 b2 l2 : Int) (h : (⟨k, p, e, w, b, l⟩ : C6) = ⟨k2, p2, e2, w2, b2, l2⟩) :
    (binOp .neq 23 (.agg #[.int .i64 k, .int .i64 p, .int .i64 e, .int .i64 w, .int .i64 b, .int .i64 l]) (.agg #[.int .i64 k2, .int .i64 p2, .int .i64 e2, .int .i64 w2, .int .i64 b2, .int .i64 l2])).run Try.prog W = .ok (.bool false) W := by
  simp only [C6.mk.injEq] at h
  obtain ⟨rfl, rfl, rfl, rfl, rfl, rfl⟩ := h
  go_simp

/-- The three contracts in memory. -/
def T3 (W w' : World) (k p e w b l k2 p2 e2 w2 b2 l2 k3 p3 e3 w3 b3 l3 : Int) : Prop :=
  CC w' W.heap.size k p e w b l ∧ CC w' (W.heap.size + 1) k2 p2 e2 w2 b2 l2 ∧ CC w' (W.heap.size + 1 + 1) k3 p3 e3 w3 b3 l3 ∧ Below W.heap.size W w'
theorem T3.below {W w1 w2' : World} {k p e w b l k2 p2 e2 w2 b2 l2 k3 p3 e3 w3 b3 l3 : Int} (h : T3 W w1 k p e w b l k2 p2 e2 w2 b2 l2 k3 p3 e3 w3 b3 l3) (hb : Below w1.heap.size w1 w2') : T3 W w2' k p e w b l k2 p2 e2 w2 b2 l2 k3 p3 e3 w3 b3 l3 :=
  ⟨h.1.below hb h.1.lt, h.2.1.below hb h.2.1.lt, h.2.2.1.below hb h.2.2.1.lt, h.2.2.2.trans (hb.mono h.2.2.2.size)⟩

set_option maxHeartbeats 8000000 in
set_option maxRecDepth 20000 in
theorem fewer_walk (k p e w b l k2 p2 e2 w2 b2 l2 k3 p3 e3 w3 b3 l3 : Int) (W : World) :
    Calls Try.prog 6 #[cV k p e w b l, cV k2 p2 e2 w2 b2 l2, cV k3 p3 e3 w3 b3 l3] W fun e w' => e = .returned (.bool true) ∧ Below W.heap.size W w' := by
  have C0 := cc_new W k p e w b l
  have D0 := cc_new (W.alloc (.cells #[.int .i64 k, .int .i64 p, .int .i64 e, .int .i64 w, .int .i64 b, .int .i64 l] 23)) k2 p2 e2 w2 b2 l2
  have E0 := cc_new ((W.alloc (.cells #[.int .i64 k, .int .i64 p, .int .i64 e, .int .i64 w, .int .i64 b, .int .i64 l] 23)).alloc (.cells #[.int .i64 k2, .int .i64 p2, .int .i64 e2, .int .i64 w2, .int .i64 b2, .int .i64 l2] 23)) k3 p3 e3 w3 b3 l3
  have T0 : T3 W (((W.alloc (.cells #[.int .i64 k, .int .i64 p, .int .i64 e, .int .i64 w, .int .i64 b, .int .i64 l] 23)).alloc (.cells #[.int .i64 k2, .int .i64 p2, .int .i64 e2, .int .i64 w2, .int .i64 b2, .int .i64 l2] 23)).alloc (.cells #[.int .i64 k3, .int .i64 p3, .int .i64 e3, .int .i64 w3, .int .i64 b3, .int .i64 l3] 23)) k p e w b l k2 p2 e2 w2 b2 l2 k3 p3 e3 w3 b3 l3 := by
    rw [size_box] at D0
    rw [size_box, size_box] at E0
    exact ⟨(C0.below (below_box _ _) C0.lt).below (below_box _ _) (by simp; omega), D0.below (below_box _ _) D0.lt, E0, (((Below.refl _ W).alloc (Nat.le_refl _) _).alloc (by simp) _).alloc (by simp; omega) _⟩
  clear C0 D0 E0
  have HT : Hid (T3 W _ k p e w b l k2 p2 e2 w2 b2 l2 k3 p3 e3 w3 b3 l3) := T0
  clear T0
  have few3 : Hid (fewB k p e w b l k2 p2 e2 w2 b2 l2 = true → fewB k2 p2 e2 w2 b2 l2 k3 p3 e3 w3 b3 l3 = true → fewB k p e w b l k3 p3 e3 w3 b3 l3 = true) := fun h h2 => few_trans (a := ⟨k, p, e, w, b, l⟩) (b := ⟨k2, p2, e2, w2, b2, l2⟩) (c := ⟨k3, p3, e3, w3, b3, l3⟩) h h2
  have few2 : Hid (fewB k p e w b l k2 p2 e2 w2 b2 l2 = true → fewB k2 p2 e2 w2 b2 l2 k p e w b l = true → (⟨k, p, e, w, b, l⟩ : C6) = ⟨k2, p2, e2, w2, b2, l2⟩) := fun h h2 => few_anti (a := ⟨k, p, e, w, b, l⟩) (b := ⟨k2, p2, e2, w2, b2, l2⟩) h h2
  go_enter Try.func6, Try.ntmps6
  go_wp2_with fail
  refine (awake_calls _).mono ?_
  rintro x w1 ⟨rfl, b1⟩
  have T1 := HT.out.below b1
  clear b1 HT
  go_upto_region 3 with fail
  go_cut [7] (fun s wx => s = .bool (fewB k p e w b l k2 p2 e2 w2 b2 l2) ∧ T3 W wx k p e w b l k2 p2 e2 w2 b2 l2 k3 p3 e3 w3 b3 l3)
  case first =>
    cases ho : okB k p e w b l
    · obtain ⟨c0, c1, c2, c3, c4, c5⟩ := T1.1.facts
      have H : Hid (okB k p e w b l = false) := ho
      clear ho
      go_wp2_with fail
      refine (right_no H.out _).mono ?_
      rintro x w2 ⟨E, rfl, hE, b2⟩
      have T2 := T1.below b2
      rcases hE with rfl | rfl <;>
      · go_wp2
        go_meet
        exact ⟨congrArg Value.bool (by simp [fewB, H.out]), T2⟩
    · have H : Hid (okB k p e w b l = true) := ho
      clear ho
      cases ho2 : okB k2 p2 e2 w2 b2 l2
      · have H2 : Hid (okB k2 p2 e2 w2 b2 l2 = false) := ho2
        clear ho2
        obtain ⟨c0, c1, c2, c3, c4, c5⟩ := T1.1.facts
        go_wp2_with fail
        refine (right_ok H.out _).mono ?_
        rintro x w2 ⟨rfl, b2⟩
        have T2 := T1.below b2
        clear c0 c1 c2 c3 c4 c5 T1 b2
        obtain ⟨c0, c1, c2, c3, c4, c5⟩ := T2.2.1.facts
        go_wp2_with fail
        refine (right_no H2.out _).mono ?_
        rintro x w3' ⟨E, rfl, hE, b3'⟩
        have T4 := T2.below b3'
        rcases hE with rfl | rfl <;>
        · go_wp2
          go_meet
          exact ⟨congrArg Value.bool (by simp [fewB, H.out, H2.out]), T4⟩
      · have H2 : Hid (okB k2 p2 e2 w2 b2 l2 = true) := ho2
        clear ho2
        obtain ⟨c0, c1, c2, c3, c4, c5⟩ := T1.1.facts
        go_wp2_with fail
        refine (right_ok H.out _).mono ?_
        rintro x w2 ⟨rfl, b2⟩
        have T2 := T1.below b2
        clear c0 c1 c2 c3 c4 c5 T1 b2
        obtain ⟨c0, c1, c2, c3, c4, c5⟩ := T2.2.1.facts
        go_wp2_with fail
        refine (right_ok H2.out _).mono ?_
        rintro x w3' ⟨rfl, b3'⟩
        have T4 := T2.below b3'
        clear c0 c1 c2 c3 c4 c5 T2 b3'
        obtain ⟨c0, c1, c2, c3, c4, c5⟩ := T4.2.1.facts
        obtain ⟨d0, d1, d2, d3, d4, d5⟩ := T4.1.facts
        cases hk : (k == k2) <;>
        (go_wp2; all_goals (go_meet; refine ⟨congrArg Value.bool ?_, T4⟩; first | (simp [fewB, H.out, H2.out, *]; done) | (simp [fewB, H.out, H2.out, *]; intros; omega)))
  case rest =>
  obtain ⟨rfl, T2⟩ := hcut
  clear T1
  obtain ⟨E, hE⟩ : ∃ E, errN k p e w b l = E := ⟨_, rfl⟩
  have hs : Hid (fewB k p e w b l k p e w b l = (E == 0)) := by show _ = _; rw [← hE]; exact few_self' k p e w b l
  have HE : Hid (errN k p e w b l = E) := hE
  obtain ⟨F, hF⟩ : ∃ F, fewB k p e w b l k2 p2 e2 w2 b2 l2 = F := ⟨_, rfl⟩
  have HF : Hid (fewB k p e w b l k2 p2 e2 w2 b2 l2 = F) := hF
  rw [hF]
  clear hE hF
  go_upto_region 4 with fail
  go_cut [73] (fun s wx => s = .bool false ∧ T3 W wx k p e w b l k2 p2 e2 w2 b2 l2 k3 p3 e3 w3 b3 l3)
  case first =>
    refine wp_region_held_drew (S := (fun w' => Below wc.heap.size wc w')) (by kernel_rfl) (Below.refl _ wc).drew (fun hHeld => ?_)
    refine wpAnyH_take (i := 0) (oi := ({ dst := some 60, op := Op.load 23 (Operand.tmp 3), type := 23, pos := _, after := #[], guard := none } : Oper))  rfl (by kernel_rfl) (by kernel_rfl) (by kernel_rfl) (fun _ _ _ h => h) (yields_ld rfl rfl rfl (fun w hS => (T2.below hS).1.load)) hHeld ?_
    try simp only [Act.put, List.setIfInBounds_toArray, List.set_cons_zero, List.set_cons_succ]
    refine wpAnyH_take (i := 1) (oi := ({ dst := some 61, op := Op.load 23 (Operand.tmp 4), type := 23, pos := _, after := #[], guard := none } : Oper))  rfl (by kernel_rfl) (by kernel_rfl) (by kernel_rfl) (fun _ _ _ h => h) (yields_ld rfl rfl rfl (fun w hS => (T2.below hS).2.1.load)) hHeld ?_
    try simp only [Act.put, List.setIfInBounds_toArray, List.set_cons_zero, List.set_cons_succ]
    refine wpAnyH_take (i := 3) (oi := ({ dst := some 63, op := Op.move (Operand.tmp 7), type := 4, pos := _, after := #[], guard := none } : Oper)) (v := ?_) rfl (by kernel_rfl) (by kernel_rfl) (by kernel_rfl) (fun _ _ _ h => h) (Or.inl ⟨by rfl, ?_⟩) hHeld ?_
    rotate_left
    · (intro w hS; go_simp; try with_reducible rfl)
    try simp only [Act.put, List.setIfInBounds_toArray, List.set_cons_zero, List.set_cons_succ]
    refine wpAnyH_ready (rs := [2]) (by kernel_rfl) (by simp) ?_
    refine AllReadyH.cons (o := ({ dst := some 62, op := Op.call { callee := Callee.value (Operand.func 20), args := #[Operand.tmp 60, Operand.tmp 61], argTypes := #[23, 23] }, type := 4, pos := _, after := #[{ on := 0, ground := Ground.data }, { on := 1, ground := Ground.data }], guard := none } : Oper)) rfl (fun K hK => ?_) AllReadyH.nil
    refine step_call (fewer_calls k p e w b l k2 p2 e2 w2 b2 l2 _) (enters_of Try.func20 (by kernel_rfl) rfl) _ _ rfl rfl rfl ?_
    rintro x w5 ⟨rfl, b5⟩
    rw [HF.out]
    refine ⟨_, rfl, hK.out _ _ (hHeld.trans (b5.mono hHeld.size)) (fun hHeld => ?_)⟩
    clear hK K
    try simp only [Act.put, List.setIfInBounds_toArray, List.set_cons_zero, List.set_cons_succ]
    refine wpAnyH_take (i := 4) (oi := ({ dst := some 64, op := Op.binOp BinOp.neq 4 (Operand.tmp 62) (Operand.tmp 63) 4, type := 4, pos := _, after := #[{ on := 2, ground := Ground.data }, { on := 3, ground := Ground.data }], guard := none } : Oper)) (v := ?_) rfl (by kernel_rfl) (by kernel_rfl) (by kernel_rfl) (fun _ _ _ h => h) (Or.inl ⟨by rfl, ?_⟩) hHeld ?_
    rotate_left
    · (intro w hS; go_simp; try with_reducible rfl)
    try simp only [Act.put, List.setIfInBounds_toArray, List.set_cons_zero, List.set_cons_succ]
    try simp only [bne_self_eq_false]
    refine wpAnyH_take (i := 5) (oi := ({ dst := some 65, op := Op.move (Operand.tmp 64), type := 4, pos := _, after := #[{ on := 4, ground := Ground.data }, { on := 2, ground := Ground.chain }], guard := none } : Oper)) (v := ?_) rfl (by kernel_rfl) (by kernel_rfl) (by kernel_rfl) (fun _ _ _ h => h) (Or.inl ⟨by rfl, ?_⟩) hHeld ?_
    rotate_left
    · (intro w hS; go_simp; try with_reducible rfl)
    try simp only [Act.put, List.setIfInBounds_toArray, List.set_cons_zero, List.set_cons_succ]
    refine wpAnyH_take (i := 6) (oi := ({ dst := some 66, op := Op.load 23 (Operand.tmp 3), type := 23, pos := _, after := #[{ on := 5, ground := Ground.guard }], guard := some (5, false) } : Oper))  rfl (by kernel_rfl) (by kernel_rfl) (by kernel_rfl) (fun _ _ _ h => h) (yields_ld rfl rfl rfl (fun w hS => (T2.below hS).1.load)) hHeld ?_
    try simp only [Act.put, List.setIfInBounds_toArray, List.set_cons_zero, List.set_cons_succ]
    refine wpAnyH_take (i := 7) (oi := ({ dst := some 67, op := Op.load 23 (Operand.tmp 3), type := 23, pos := _, after := #[{ on := 5, ground := Ground.guard }], guard := some (5, false) } : Oper))  rfl (by kernel_rfl) (by kernel_rfl) (by kernel_rfl) (fun _ _ _ h => h) (yields_ld rfl rfl rfl (fun w hS => (T2.below hS).1.load)) hHeld ?_
    try simp only [Act.put, List.setIfInBounds_toArray, List.set_cons_zero, List.set_cons_succ]
    refine wpAnyH_take (i := 9) (oi := ({ dst := some 69, op := Op.load 23 (Operand.tmp 3), type := 23, pos := _, after := #[{ on := 5, ground := Ground.guard }], guard := some (5, false) } : Oper))  rfl (by kernel_rfl) (by kernel_rfl) (by kernel_rfl) (fun _ _ _ h => h) (yields_ld rfl rfl rfl (fun w hS => (T2.below hS).1.load)) hHeld ?_
    try simp only [Act.put, List.setIfInBounds_toArray, List.set_cons_zero, List.set_cons_succ]
    refine wpAnyH_ready (rs := [8]) (by kernel_rfl) (by simp) ?_
    refine AllReadyH.cons (o := ({ dst := some 68, op := Op.call { callee := Callee.value (Operand.func 20), args := #[Operand.tmp 66, Operand.tmp 67], argTypes := #[23, 23] }, type := 4, pos := _, after := #[{ on := 6, ground := Ground.data }, { on := 7, ground := Ground.data }, { on := 5, ground := Ground.chain }, { on := 5, ground := Ground.guard }], guard := some (5, false) } : Oper)) rfl (fun K hK => ?_) AllReadyH.nil
    refine step_call (fewer_calls k p e w b l k p e w b l _) (enters_of Try.func20 (by kernel_rfl) rfl) _ _ rfl rfl rfl ?_
    rintro x w6 ⟨rfl, b6⟩
    rw [hs.out]
    refine ⟨_, rfl, hK.out _ _ (hHeld.trans (b6.mono hHeld.size)) (fun hHeld => ?_)⟩
    clear hK K
    try simp only [Act.put, List.setIfInBounds_toArray, List.set_cons_zero, List.set_cons_succ]
    refine wpAnyH_ready (rs := [10]) (by kernel_rfl) (by simp) ?_
    refine AllReadyH.cons (o := ({ dst := some 70, op := Op.call { callee := Callee.value (Operand.func 11), args := #[Operand.tmp 69], argTypes := #[23] }, type := 26, pos := _, after := #[{ on := 9, ground := Ground.data }, { on := 8, ground := Ground.chain }, { on := 5, ground := Ground.guard }], guard := some (5, false) } : Oper)) rfl (fun K hK => ?_) AllReadyH.nil
    refine step_call (right_calls k p e w b l _) (enters_of Try.func11 (by kernel_rfl) rfl) _ _ rfl rfl rfl ?_
    rintro x w7 ⟨rfl, b7⟩
    rw [HE.out]
    refine ⟨_, rfl, hK.out _ _ (hHeld.trans (b7.mono hHeld.size)) (fun hHeld => ?_)⟩
    clear hK K
    try simp only [Act.put, List.setIfInBounds_toArray, List.set_cons_zero, List.set_cons_succ]
    refine wpAnyH_take (i := 11) (oi := ({ dst := some 71, op := Op.binOp BinOp.eql 26 (Operand.tmp 70) (Operand.const (Value.int IntKind.i64 0)) 26, type := 4, pos := _, after := #[{ on := 10, ground := Ground.data }, { on := 5, ground := Ground.guard }], guard := some (5, false) } : Oper)) (v := ?_) rfl (by kernel_rfl) (by kernel_rfl) (by kernel_rfl) (fun _ _ _ h => h) (Or.inl ⟨by rfl, ?_⟩) hHeld ?_
    rotate_left
    · (intro w hS; go_simp; try with_reducible rfl)
    try simp only [Act.put, List.setIfInBounds_toArray, List.set_cons_zero, List.set_cons_succ]
    refine wpAnyH_take (i := 12) (oi := ({ dst := some 72, op := Op.binOp BinOp.neq 4 (Operand.tmp 68) (Operand.tmp 71) 4, type := 4, pos := _, after := #[{ on := 8, ground := Ground.data }, { on := 11, ground := Ground.data }, { on := 5, ground := Ground.guard }], guard := some (5, false) } : Oper)) (v := ?_) rfl (by kernel_rfl) (by kernel_rfl) (by kernel_rfl) (fun _ _ _ h => h) (Or.inl ⟨by rfl, ?_⟩) hHeld ?_
    rotate_left
    · (intro w hS; go_simp; try with_reducible rfl)
    try simp only [Act.put, List.setIfInBounds_toArray, List.set_cons_zero, List.set_cons_succ]
    try simp only [bne_self_eq_false]
    refine wpAnyH_take (i := 13) (oi := ({ dst := some 73, op := Op.pick (Operand.tmp 65) (Operand.const (Value.bool true)) (Operand.tmp 72), type := 4, pos := _, after := #[{ on := 5, ground := Ground.data }, { on := 12, ground := Ground.data }], guard := none } : Oper)) (v := ?_) rfl (by kernel_rfl) (by kernel_rfl) (by kernel_rfl) (fun _ _ _ h => h) (Or.inl ⟨by rfl, ?_⟩) hHeld ?_
    rotate_left
    · (intro w hS; go_simp; try with_reducible rfl)
    try simp only [Act.put, List.setIfInBounds_toArray, List.set_cons_zero, List.set_cons_succ]
    refine wpAnyH_done (by kernel_rfl) ?_ _
    go_wp2_with fail
    go_meet
    exact ⟨rfl, T2.below hHeld⟩
  case rest =>
  obtain ⟨rfl, T4⟩ := hcut
  clear T2 hs HE
  go_upto_region 6 with fail
  go_cut [86] (fun s wx => s = .bool false ∧ T3 W wx k p e w b l k2 p2 e2 w2 b2 l2 k3 p3 e3 w3 b3 l3)
  case first =>
    obtain ⟨c0, c1, c2, c3, c4, c5⟩ := T4.1.facts
    obtain ⟨d0, d1, d2, d3, d4, d5⟩ := T4.2.1.facts
    go_wp2_with fail
    refine (fewer_calls k p e w b l k2 p2 e2 w2 b2 l2 _).mono ?_
    rintro x w5 ⟨rfl, b5⟩
    rw [HF.out]
    have T5 := T4.below b5
    clear c0 c1 c2 c3 c4 c5 d0 d1 d2 d3 d4 d5 T4 b5
    cases F
    · go_wp2
      go_meet
      exact ⟨rfl, T5⟩
    · obtain ⟨c0, c1, c2, c3, c4, c5⟩ := T5.1.facts
      obtain ⟨d0, d1, d2, d3, d4, d5⟩ := T5.2.1.facts
      go_wp2_with fail
      refine (fewer_calls k2 p2 e2 w2 b2 l2 k p e w b l _).mono ?_
      rintro x w6 ⟨rfl, b6⟩
      have T6 := T5.below b6
      clear c0 c1 c2 c3 c4 c5 d0 d1 d2 d3 d4 d5 T5 b6
      cases hG : fewB k2 p2 e2 w2 b2 l2 k p e w b l
      · go_wp2
        go_meet
        exact ⟨rfl, T6⟩
      · have q : ∀ V : World, (binOp .neq 23 (.agg #[.int .i64 k, .int .i64 p, .int .i64 e, .int .i64 w, .int .i64 b, .int .i64 l]) (.agg #[.int .i64 k2, .int .i64 p2, .int .i64 e2, .int .i64 w2, .int .i64 b2, .int .i64 l2])).run Try.prog V = .ok (.bool false) V := fun V => eql_con V _ _ _ _ _ _ _ _ _ _ _ _ (few2.out HF.out hG)
        clear hG
        obtain ⟨c0, c1, c2, c3, c4, c5⟩ := T6.1.facts
        obtain ⟨d0, d1, d2, d3, d4, d5⟩ := T6.2.1.facts
        go_wp2
        go_meet
        exact ⟨rfl, T6⟩
  case rest =>
  obtain ⟨rfl, T7⟩ := hcut
  clear T4 few2
  obtain ⟨c0, c1, c2, c3, c4, c5⟩ := T7.1.facts
  obtain ⟨d0, d1, d2, d3, d4, d5⟩ := T7.2.1.facts
  go_wp2_with fail
  refine (fewer_calls k p e w b l k2 p2 e2 w2 b2 l2 _).mono ?_
  rintro x w5 ⟨rfl, b5⟩
  rw [HF.out]
  have T8 := T7.below b5
  clear c0 c1 c2 c3 c4 c5 d0 d1 d2 d3 d4 d5 T7 b5
  cases F
  · go_wp2
    go_ret
    exact ⟨rfl, T8.2.2.2⟩
  · obtain ⟨c0, c1, c2, c3, c4, c5⟩ := T8.2.2.1.facts
    obtain ⟨d0, d1, d2, d3, d4, d5⟩ := T8.2.1.facts
    go_wp2_with fail
    refine (fewer_calls k2 p2 e2 w2 b2 l2 k3 p3 e3 w3 b3 l3 _).mono ?_
    rintro x w6 ⟨rfl, b6⟩
    have T9 := T8.below b6
    clear c0 c1 c2 c3 c4 c5 d0 d1 d2 d3 d4 d5 T8 b6
    cases hG : fewB k2 p2 e2 w2 b2 l2 k3 p3 e3 w3 b3 l3
    · go_wp2
      go_ret
      exact ⟨rfl, T9.2.2.2⟩
    · have HG : Hid (fewB k p e w b l k3 p3 e3 w3 b3 l3 = true) := few3.out HF.out hG
      clear hG
      obtain ⟨c0, c1, c2, c3, c4, c5⟩ := T9.2.2.1.facts
      obtain ⟨d0, d1, d2, d3, d4, d5⟩ := T9.1.facts
      go_wp2_with fail
      refine (fewer_calls k p e w b l k3 p3 e3 w3 b3 l3 _).mono ?_
      rintro x w7 ⟨rfl, b7⟩
      rw [HG.out]
      have T10 := T9.below b7
      clear c0 c1 c2 c3 c4 c5 d0 d1 d2 d3 d4 d5 T9 b7
      go_wp2
      go_ret
      exact ⟨rfl, T10.2.2.2⟩
end Go.Proofs.Ytelbfjjilccpbaa
