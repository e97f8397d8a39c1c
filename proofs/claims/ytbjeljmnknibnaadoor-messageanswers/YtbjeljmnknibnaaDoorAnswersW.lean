/- Proved here: the law MessageAnswers' walk. Conditions: as each theorem states them. -/
import Derived.Test.YtbjeljmnknibnaaDoorAw
import Derived.Test.YtbjeljmnknibnaaDoorMsm
import Derived.Test.YtbjeljmnknibnaaDoorMc
import Derived.Deep.RegionHeld
import Derived.Deep.RegionHeldLaw
namespace Go.Proofs.YtbjeljmnknibnaaDoor
set_option linter.unusedSimpArgs false
set_option linter.unusedVariables false
set_option maxRecDepth 20000
open Go.RowKit Go.Shelf

theorem clC_six (k : Int) (L : List El) : ∃ c1 c2 c3 c4 c5 c6, clC k L = cC c1 c2 c3 c4 c5 c6 := by
  unfold clC
  split
  · exact rtC_six _
  · exact ⟨_, _, _, _, _, _, rfl⟩
theorem anL_small (c : Int) : ∀ x ∈ anL c, x.body.length ≤ 2 := by
  unfold anL
  split
  · simp [causeE]
  · simp

set_option maxHeartbeats 8000000 in
theorem answers_walk (r : Int) (b : Bool) (k : Int) (a : Option Addr) (n c : Nat) (L : List El) (kind cause : Int) (W : World) (hv : IsI W.heap.size W a n L) (hn : n ≤ maxLen) (ht : Tab W) :
    Calls Tryd.prog 4 #[meV r b k a n c, .int .i64 kind, .int .i64 cause] W fun e w' => e = .returned (.bool true) ∧ Below W.heap.size W w' := by
  have A0 := me_below (w := W) (r := r) (b := b) (k := k) (a := a) (n := n) (c := c)
  have K0 := me_box (w := W) (r := r) (b := b) (k := k) (a := a) (n := n) (c := c)
  go_enter Tryd.func4, Tryd.ntmps4
  go_wp2_with fail
  refine (awake_calls _ (ht.on A0)).mono ?_
  rintro e w1 ⟨rfl, b1⟩
  have B1 := A0.trans (b1.mono A0.size)
  have K1 := K0.below b1 K0.lt
  have HF := mfew_calls r b k a n c L w1 (hv.below B1 (Nat.le_refl _)) B1.size hn
  clear A0 K0 b1
  cases hf : fewB L
  · rw [hf] at HF
    go_wp2_with (with_reducible show wpList _ _ _ (Oper.mk _ (Op.load 24 _) _ _ _ _ :: _) _ _; refine wpList_ld rfl rfl rfl (run_ldM (by with_reducible assumption)) ?_; (try simp only [Act.put, List.setIfInBounds_toArray, List.set_cons_zero, List.set_cons_succ, World.size_alloc]))
    refine HF.mono ?_
    rintro e w2 ⟨rfl, b2⟩
    have B2 := B1.trans (b2.mono B1.size)
    go_wp2_with fail
    refine (awake_calls w2 (ht.on B2)).mono ?_
    rintro e w3 ⟨rfl, b3⟩
    go_wp2
    go_ret
    exact ⟨rfl, B2.trans (b3.mono B2.size)⟩
  rw [hf] at HF
  obtain ⟨h300, h20⟩ := fewB_iff.1 hf
  have hl20 : n ≤ 20 := by have := hv.1; omega
  clear hf h300 h20 hn
  go_wp2_with (with_reducible show wpList _ _ _ (Oper.mk _ (Op.load 24 _) _ _ _ _ :: _) _ _; refine wpList_ld rfl rfl rfl (run_ldM (by with_reducible assumption)) ?_; (try simp only [Act.put, List.setIfInBounds_toArray, List.set_cons_zero, List.set_cons_succ, World.size_alloc]))
  refine HF.mono ?_
  rintro e w2 ⟨rfl, b2⟩
  have B2 := B1.trans (b2.mono B1.size)
  have K2 := K1.below b2 K1.lt
  clear HF b2 B1 K1
  obtain ⟨d1, d2, d3, d4, d5, d6, hd⟩ := clC_six k L
  obtain ⟨y, hy⟩ : ∃ y, clK k L = y := ⟨_, rfl⟩
  obtain ⟨E, hE⟩ : ∃ E, clE k L = E := ⟨_, rfl⟩
  have HC1 : Hid (∀ w, Below W.heap.size W w → Calls Tryd.prog 19 #[meV r b k a n c] w fun e w' => e = .returned (.tuple #[.agg (cC d1 d2 d3 d4 d5 d6), .agg (kC y), .int .i64 E]) ∧ Below w.heap.size w w') := by
    intro w hb
    have := mcall_calls r b k a n c L w (hv.below hb (Nat.le_refl _)) hb.size (by omega)
    unfold ClAll at this
    rwa [hd, hy, hE] at this
  have HC2 : Hid (∀ w, Below W.heap.size W w → Calls Tryd.prog 20 #[meV r b k a n c] w fun e w' => e = .returned (.tuple #[.agg (cC d1 d2 d3 d4 d5 d6), .agg (kC y), .int .i64 E]) ∧ Below w.heap.size w w') := by
    intro w hb
    have := refmcall_calls r b k a n c L w (hv.below hb (Nat.le_refl _)) hb.size (by omega)
    unfold ClAll at this
    rwa [hd, hy, hE] at this
  have heC : ∀ w, (binOp .eql 41 (.agg (cC d1 d2 d3 d4 d5 d6)) (.agg (cC d1 d2 d3 d4 d5 d6))).run Tryd.prog w = .ok (.bool true) w := fun w => by
    have := eql_C d1 d2 d3 d4 d5 d6 d1 d2 d3 d4 d5 d6 w
    rwa [eqC_iff.2 ⟨rfl, rfl, rfl, rfl, rfl, rfl⟩] at this
  have heK : ∀ w, (binOp .eql 43 (.agg (kC y)) (.agg (kC y))).run Tryd.prog w = .ok (.bool true) w := fun w => by
    have := eql_K y y w
    rwa [eqK_iff.2 rfl] at this
  clear hd hy hE
  go_wp2_with (with_reducible show wpList _ _ _ (Oper.mk _ (Op.load 24 _) _ _ _ _ :: _) _ _; refine wpList_ld rfl rfl rfl (run_ldM (by with_reducible assumption)) ?_; (try simp only [Act.put, List.setIfInBounds_toArray, List.set_cons_zero, List.set_cons_succ, World.size_alloc]))
  refine (HC1.out w2 B2).mono ?_
  rintro e w3 ⟨rfl, b3⟩
  have B3 := B2.trans (b3.mono B2.size)
  have K3 := K2.below b3 K2.lt
  have hl3 := K3.lt
  have A4 : Below w3.heap.size w3 ((w3.alloc (.cells (cC 0 0 0 0 0 0) 41)).alloc (.cells (kC (0, 0, 0)) 43)) := ((Below.refl _ w3).alloc (Nat.le_refl _) _).alloc (by simp) _
  have CC2_4 : BK ((w3.alloc (.cells (cC 0 0 0 0 0 0) 41)).alloc (.cells (kC (0, 0, 0)) 43)) w3.heap.size (cC 0 0 0 0 0 0) 41 := (bk_new w3 _ _).alloc _
  have CK2_4 : BK ((w3.alloc (.cells (cC 0 0 0 0 0 0) 41)).alloc (.cells (kC (0, 0, 0)) 43)) (w3.heap.size + 1) (kC (0, 0, 0)) 43 := by
    have := bk_new (w3.alloc (.cells (cC 0 0 0 0 0 0) 41)) (kC (0, 0, 0)) 43
    rwa [World.size_alloc] at this
  have K4 := K3.below A4 K3.lt
  have B4 := B3.trans (A4.mono B3.size)
  have hsz := B3.size
  clear A4 b3
  go_wp2_with (with_reducible show wpList _ _ _ (Oper.mk _ (Op.store 41 _ _) _ _ _ _ :: _) _ _; refine stop_here ?_)
  refine ⟨?_⟩
  refine wpList_st rfl rfl rfl rfl CC2_4 size_C rfl (by simp [Value.oneCell']) ?_
  intro w5 CC2_5 b5 but5 z5
  have CK2_5 := CK2_4.but but5 CK2_4.lt (by omega)
  have K5 := K4.but but5 K4.lt (by omega)
  have B5 := B4.trans (b5 _ (by omega))
  clear but5 b5
  go_wp2_with (with_reducible show wpList _ _ _ (Oper.mk _ (Op.store 43 _ _) _ _ _ _ :: _) _ _; refine stop_here ?_)
  refine ⟨?_⟩
  refine wpList_st rfl rfl rfl rfl CK2_5 size_K rfl (by simp [Value.oneCell']) ?_
  intro w6 CK2_6 b6 but6 z6
  have CC2_6 := CC2_5.but but6 CC2_5.lt (by omega)
  have K6 := K5.but but6 K5.lt (by omega)
  have B6 := B5.trans (b6 _ (by omega))
  clear but6 b6 z6 z5 B3 B4 B5 K3 K4 K5 CC2_4 CC2_5 CK2_4 CK2_5 hl3 hsz HC1
  go_wp2_with (with_reducible show wpList _ _ _ (Oper.mk _ (Op.load 24 _) _ _ _ _ :: _) _ _; refine wpList_ld rfl rfl rfl (run_ldM (by with_reducible assumption)) ?_; (try simp only [Act.put, List.setIfInBounds_toArray, List.set_cons_zero, List.set_cons_succ, World.size_alloc]))
  refine (HC2.out w6 B6).mono ?_
  rintro e w7 ⟨rfl, b7⟩
  have B7 := B6.trans (b7.mono B6.size)
  have K7 := K6.below b7 K6.lt
  have CC2_7 := CC2_6.below b7 CC2_6.lt
  have CK2_7 := CK2_6.below b7 CK2_6.lt
  have hl7 := K7.lt
  have hlCC2_7 := CC2_7.lt
  have hlCK2_7 := CK2_7.lt
  have A8 : Below w7.heap.size w7 ((w7.alloc (.cells (cC 0 0 0 0 0 0) 41)).alloc (.cells (kC (0, 0, 0)) 43)) := ((Below.refl _ w7).alloc (Nat.le_refl _) _).alloc (by simp) _
  have CC6_8 : BK ((w7.alloc (.cells (cC 0 0 0 0 0 0) 41)).alloc (.cells (kC (0, 0, 0)) 43)) w7.heap.size (cC 0 0 0 0 0 0) 41 := (bk_new w7 _ _).alloc _
  have CK6_8 : BK ((w7.alloc (.cells (cC 0 0 0 0 0 0) 41)).alloc (.cells (kC (0, 0, 0)) 43)) (w7.heap.size + 1) (kC (0, 0, 0)) 43 := by
    have := bk_new (w7.alloc (.cells (cC 0 0 0 0 0 0) 41)) (kC (0, 0, 0)) 43
    rwa [World.size_alloc] at this
  have K8 := K7.below A8 K7.lt
  have CC2_8 := CC2_7.below A8 CC2_7.lt
  have CK2_8 := CK2_7.below A8 CK2_7.lt
  have B8 := B7.trans (A8.mono B7.size)
  have hsz := B7.size
  clear A8 b7
  go_wp2_with (with_reducible show wpList _ _ _ (Oper.mk _ (Op.store 41 _ _) _ _ _ _ :: _) _ _; refine stop_here ?_)
  refine ⟨?_⟩
  refine wpList_st rfl rfl rfl rfl CC6_8 size_C rfl (by simp [Value.oneCell']) ?_
  intro w9 CC6_9 b9 but9 z9
  have CK6_9 := CK6_8.but but9 CK6_8.lt (by omega)
  have K9 := K8.but but9 K8.lt (by omega)
  have CC2_9 := CC2_8.but but9 CC2_8.lt (by omega)
  have CK2_9 := CK2_8.but but9 CK2_8.lt (by omega)
  have B9 := B8.trans (b9 _ (by omega))
  clear but9 b9
  go_wp2_with (with_reducible show wpList _ _ _ (Oper.mk _ (Op.store 43 _ _) _ _ _ _ :: _) _ _; refine stop_here ?_)
  refine ⟨?_⟩
  refine wpList_st rfl rfl rfl rfl CK6_9 size_K rfl (by simp [Value.oneCell']) ?_
  intro w10 CK6_10 b10 but10 z10
  have CC6_10 := CC6_9.but but10 CC6_9.lt (by omega)
  have K10 := K9.but but10 K9.lt (by omega)
  have CC2_10 := CC2_9.but but10 CC2_9.lt (by omega)
  have CK2_10 := CK2_9.but but10 CK2_9.lt (by omega)
  have B10 := B9.trans (b10 _ (by omega))
  clear but10 b10 z10 z9 B7 B8 B9 K7 K8 K9 CC6_8 CC6_9 CK6_8 CK6_9 hl7 hsz HC2
  clear CC2_7 CC2_8 CC2_9 hlCC2_7 CK2_7 CK2_8 CK2_9 hlCK2_7
  have HA := anL_small cause
  have HA : Hid (∀ x ∈ anL cause, x.body.length ≤ 2) := HA
  obtain ⟨N, hN⟩ : ∃ N, caN L = N := ⟨_, rfl⟩
  have hEq : (N == N) = true := beq_self_eq_true N
  have hEe : (E == E) = true := beq_self_eq_true E
  have HN : Hid (caN L = N) := hN
  clear hN
  go_upto_region 5 with fail
  refine wp_region_held_drew (S := (fun w' => Below w10.heap.size w10 w')) (by kernel_rfl) (Below.refl _ w10).drew (fun hHeld => ?_)
  refine wpAnyH_take (i := 0) (oi := ({ dst := some 33, op := Op.load 24 (Operand.tmp 3), type := 24, pos := _, after := #[], guard := none } : Oper))  rfl (by kernel_rfl) (by kernel_rfl) (by kernel_rfl) (fun _ _ _ h => h) (yields_ld rfl rfl rfl (fun w hS => run_ldM (K10.below hS K10.lt))) hHeld ?_
  try simp only [Act.put, List.setIfInBounds_toArray, List.set_cons_zero, List.set_cons_succ]
  refine wpAnyH_take (i := 1) (oi := ({ dst := some 34, op := Op.move (Operand.tmp 1), type := 3, pos := _, after := #[], guard := none } : Oper)) (v := ?_) rfl (by kernel_rfl) (by kernel_rfl) (by kernel_rfl) (fun _ _ _ h => h) (Or.inl ⟨by rfl, ?_⟩) hHeld ?_
  rotate_left
  · (intro w hS; go_simp; try with_reducible rfl)
  try simp only [Act.put, List.setIfInBounds_toArray, List.set_cons_zero, List.set_cons_succ]
  refine wpAnyH_take (i := 2) (oi := ({ dst := some 35, op := Op.move (Operand.tmp 2), type := 3, pos := _, after := #[], guard := none } : Oper)) (v := ?_) rfl (by kernel_rfl) (by kernel_rfl) (by kernel_rfl) (fun _ _ _ h => h) (Or.inl ⟨by rfl, ?_⟩) hHeld ?_
  rotate_left
  · (intro w hS; go_simp; try with_reducible rfl)
  try simp only [Act.put, List.setIfInBounds_toArray, List.set_cons_zero, List.set_cons_succ]
  refine wpAnyH_take (i := 4) (oi := ({ dst := some 37, op := Op.load 24 (Operand.tmp 3), type := 24, pos := _, after := #[], guard := none } : Oper))  rfl (by kernel_rfl) (by kernel_rfl) (by kernel_rfl) (fun _ _ _ h => h) (yields_ld rfl rfl rfl (fun w hS => run_ldM (K10.below hS K10.lt))) hHeld ?_
  try simp only [Act.put, List.setIfInBounds_toArray, List.set_cons_zero, List.set_cons_succ]
  refine wpAnyH_take (i := 5) (oi := ({ dst := some 38, op := Op.move (Operand.tmp 1), type := 3, pos := _, after := #[], guard := none } : Oper)) (v := ?_) rfl (by kernel_rfl) (by kernel_rfl) (by kernel_rfl) (fun _ _ _ h => h) (Or.inl ⟨by rfl, ?_⟩) hHeld ?_
  rotate_left
  · (intro w hS; go_simp; try with_reducible rfl)
  try simp only [Act.put, List.setIfInBounds_toArray, List.set_cons_zero, List.set_cons_succ]
  refine wpAnyH_take (i := 6) (oi := ({ dst := some 39, op := Op.move (Operand.tmp 2), type := 3, pos := _, after := #[], guard := none } : Oper)) (v := ?_) rfl (by kernel_rfl) (by kernel_rfl) (by kernel_rfl) (fun _ _ _ h => h) (Or.inl ⟨by rfl, ?_⟩) hHeld ?_
  rotate_left
  · (intro w hS; go_simp; try with_reducible rfl)
  try simp only [Act.put, List.setIfInBounds_toArray, List.set_cons_zero, List.set_cons_succ]
  refine wpAnyH_ready (rs := [3]) (by kernel_rfl) (by simp) ?_
  refine AllReadyH.cons (o := ({ dst := some 36, op := Op.call { callee := Callee.value (Operand.func 21), args := #[Operand.tmp 33, Operand.tmp 34, Operand.tmp 35], argTypes := #[24, 3, 3] }, type := 24, pos := _, after := #[{ on := 0, ground := Ground.data }, { on := 1, ground := Ground.data }, { on := 2, ground := Ground.data }], guard := none } : Oper)) rfl (fun K hK => ?_) AllReadyH.nil
  refine step_call (answer_calls r b k a n c kind cause _) (enters_of Tryd.func21 (by kernel_rfl) rfl) _ _ rfl rfl rfl ?_
  rintro e w11 ⟨a11, n11, c11, rfl, o11, h11, b11⟩
  skip
  refine ⟨_, rfl, hK.out _ _ (hHeld.trans (b11.mono hHeld.size)) (fun hHeld => ?_)⟩
  clear hK K
  try simp only [Act.put, List.setIfInBounds_toArray, List.set_cons_zero, List.set_cons_succ]
  refine wpAnyH_ready (rs := [7]) (by kernel_rfl) (by simp) ?_
  refine AllReadyH.cons (o := ({ dst := some 40, op := Op.call { callee := Callee.value (Operand.func 22), args := #[Operand.tmp 37, Operand.tmp 38, Operand.tmp 39], argTypes := #[24, 3, 3] }, type := 24, pos := _, after := #[{ on := 4, ground := Ground.data }, { on := 5, ground := Ground.data }, { on := 6, ground := Ground.data }, { on := 3, ground := Ground.chain }], guard := none } : Oper)) rfl (fun K hK => ?_) AllReadyH.nil
  refine step_call (refanswer_calls r b k a n c kind cause _) (enters_of Tryd.func22 (by kernel_rfl) rfl) _ _ rfl rfl rfl ?_
  rintro e w12 ⟨a12, n12, c12, rfl, o12, h12, b12⟩
  have o11 := o11.below b12 (Nat.le_refl _)
  have s12 := b12.size
  refine ⟨_, rfl, hK.out _ _ (hHeld.trans (b12.mono hHeld.size)) (fun hHeld => ?_)⟩
  clear hK K
  try simp only [Act.put, List.setIfInBounds_toArray, List.set_cons_zero, List.set_cons_succ]
  refine wpAnyH_ready (rs := [8]) (by kernel_rfl) (by simp) ?_
  refine AllReadyH.cons (o := ({ dst := some 41, op := Op.call { callee := Callee.value (Operand.func 16), args := #[Operand.tmp 36, Operand.tmp 40], argTypes := #[24, 24] }, type := 4, pos := _, after := #[{ on := 3, ground := Ground.data }, { on := 7, ground := Ground.data }, { on := 7, ground := Ground.chain }], guard := none } : Oper)) rfl (fun K hK => ?_) AllReadyH.nil
  refine step_call (refmsame_self r (!b) kind a11 a12 n11 c11 n12 c12 (anL cause) _ o11 o12 s12 (Nat.le_refl _) (by omega) (by omega) (fun x hx => Nat.le_trans (HA.out x hx) (by decide))) (enters_of Tryd.func16 (by kernel_rfl) rfl) _ _ rfl rfl rfl ?_
  rintro e w13 ⟨rfl, b13⟩
  skip
  refine ⟨_, rfl, hK.out _ _ (hHeld.trans (b13.mono hHeld.size)) (fun hHeld => ?_)⟩
  clear hK K
  try simp only [Act.put, List.setIfInBounds_toArray, List.set_cons_zero, List.set_cons_succ]
  refine wpAnyH_take (i := 9) (oi := ({ dst := some 42, op := Op.move (Operand.tmp 41), type := 4, pos := _, after := #[{ on := 8, ground := Ground.data }, { on := 8, ground := Ground.chain }], guard := none } : Oper)) (v := ?_) rfl (by kernel_rfl) (by kernel_rfl) (by kernel_rfl) (fun _ _ _ h => h) (Or.inl ⟨by rfl, ?_⟩) hHeld ?_
  rotate_left
  · (intro w hS; go_simp; try with_reducible rfl)
  try simp only [Act.put, List.setIfInBounds_toArray, List.set_cons_zero, List.set_cons_succ]
  refine wpAnyH_take (i := 10) (oi := ({ dst := some 43, op := Op.load 24 (Operand.tmp 3), type := 24, pos := _, after := #[{ on := 9, ground := Ground.guard }], guard := some (9, true) } : Oper))  rfl (by kernel_rfl) (by kernel_rfl) (by kernel_rfl) (fun _ _ _ h => h) (yields_ld rfl rfl rfl (fun w hS => run_ldM (K10.below hS K10.lt))) hHeld ?_
  try simp only [Act.put, List.setIfInBounds_toArray, List.set_cons_zero, List.set_cons_succ]
  refine wpAnyH_take (i := 12) (oi := ({ dst := some 45, op := Op.load 24 (Operand.tmp 3), type := 24, pos := _, after := #[{ on := 9, ground := Ground.guard }], guard := some (9, true) } : Oper))  rfl (by kernel_rfl) (by kernel_rfl) (by kernel_rfl) (fun _ _ _ h => h) (yields_ld rfl rfl rfl (fun w hS => run_ldM (K10.below hS K10.lt))) hHeld ?_
  try simp only [Act.put, List.setIfInBounds_toArray, List.set_cons_zero, List.set_cons_succ]
  refine wpAnyH_ready (rs := [11]) (by kernel_rfl) (by simp) ?_
  refine AllReadyH.cons (o := ({ dst := some 44, op := Op.call { callee := Callee.value (Operand.func 23), args := #[Operand.tmp 43], argTypes := #[24] }, type := 3, pos := _, after := #[{ on := 10, ground := Ground.data }, { on := 9, ground := Ground.chain }, { on := 9, ground := Ground.guard }], guard := some (9, true) } : Oper)) rfl (fun K hK => ?_) AllReadyH.nil
  refine step_call (mcause_calls r b k a n c L _ (hv.below (B10.trans (hHeld.mono B10.size)) (Nat.le_refl _)) (Nat.le_trans B10.size hHeld.size) (by omega)) (enters_of Tryd.func23 (by kernel_rfl) rfl) _ _ rfl rfl rfl ?_
  rintro e w14 ⟨rfl, b14⟩
  rw [HN.out]
  refine ⟨_, rfl, hK.out _ _ (hHeld.trans (b14.mono hHeld.size)) (fun hHeld => ?_)⟩
  clear hK K
  try simp only [Act.put, List.setIfInBounds_toArray, List.set_cons_zero, List.set_cons_succ]
  refine wpAnyH_ready (rs := [13]) (by kernel_rfl) (by simp) ?_
  refine AllReadyH.cons (o := ({ dst := some 46, op := Op.call { callee := Callee.value (Operand.func 24), args := #[Operand.tmp 45], argTypes := #[24] }, type := 3, pos := _, after := #[{ on := 12, ground := Ground.data }, { on := 11, ground := Ground.chain }, { on := 9, ground := Ground.guard }], guard := some (9, true) } : Oper)) rfl (fun K hK => ?_) AllReadyH.nil
  refine step_call (refmcause_calls r b k a n c L _ (hv.below (B10.trans (hHeld.mono B10.size)) (Nat.le_refl _)) (Nat.le_trans B10.size hHeld.size) (by omega)) (enters_of Tryd.func24 (by kernel_rfl) rfl) _ _ rfl rfl rfl ?_
  rintro e w15 ⟨rfl, b15⟩
  rw [HN.out]
  refine ⟨_, rfl, hK.out _ _ (hHeld.trans (b15.mono hHeld.size)) (fun hHeld => ?_)⟩
  clear hK K
  try simp only [Act.put, List.setIfInBounds_toArray, List.set_cons_zero, List.set_cons_succ]
  refine wpAnyH_take (i := 14) (oi := ({ dst := some 47, op := Op.binOp BinOp.eql 3 (Operand.tmp 44) (Operand.tmp 46) 3, type := 4, pos := _, after := #[{ on := 11, ground := Ground.data }, { on := 13, ground := Ground.data }, { on := 9, ground := Ground.guard }], guard := some (9, true) } : Oper)) (v := ?_) rfl (by kernel_rfl) (by kernel_rfl) (by kernel_rfl) (fun _ _ _ h => h) (Or.inl ⟨by rfl, ?_⟩) hHeld ?_
  rotate_left
  · (intro w hS; go_simp; try with_reducible rfl)
  try simp only [Act.put, List.setIfInBounds_toArray, List.set_cons_zero, List.set_cons_succ]
  refine wpAnyH_take (i := 15) (oi := ({ dst := some 48, op := Op.pick (Operand.tmp 42) (Operand.tmp 47) (Operand.const (Value.bool false)), type := 4, pos := _, after := #[{ on := 9, ground := Ground.data }, { on := 14, ground := Ground.data }], guard := none } : Oper)) (v := ?_) rfl (by kernel_rfl) (by kernel_rfl) (by kernel_rfl) (fun _ _ _ h => h) (Or.inl ⟨by rfl, ?_⟩) hHeld ?_
  rotate_left
  · (intro w hS; go_simp; try with_reducible rfl)
  try simp only [Act.put, List.setIfInBounds_toArray, List.set_cons_zero, List.set_cons_succ]
  refine wpAnyH_take (i := 16) (oi := ({ dst := some 49, op := Op.move (Operand.tmp 48), type := 4, pos := _, after := #[{ on := 15, ground := Ground.data }, { on := 13, ground := Ground.chain }], guard := none } : Oper)) (v := ?_) rfl (by kernel_rfl) (by kernel_rfl) (by kernel_rfl) (fun _ _ _ h => h) (Or.inl ⟨by rfl, ?_⟩) hHeld ?_
  rotate_left
  · (intro w hS; go_simp; try with_reducible rfl)
  try simp only [Act.put, List.setIfInBounds_toArray, List.set_cons_zero, List.set_cons_succ]
  refine wpAnyH_take (i := 17) (oi := ({ dst := some 50, op := Op.load 41 (Operand.tmp 7), type := 41, pos := _, after := #[{ on := 16, ground := Ground.guard }], guard := some (16, true) } : Oper))  rfl (by kernel_rfl) (by kernel_rfl) (by kernel_rfl) (fun _ _ _ h => h) (yields_ld rfl rfl rfl (fun w hS => run_ldC (CC2_10.below hS CC2_10.lt))) hHeld ?_
  try simp only [Act.put, List.setIfInBounds_toArray, List.set_cons_zero, List.set_cons_succ]
  refine wpAnyH_take (i := 18) (oi := ({ dst := some 51, op := Op.load 41 (Operand.tmp 10), type := 41, pos := _, after := #[{ on := 16, ground := Ground.guard }], guard := some (16, true) } : Oper))  rfl (by kernel_rfl) (by kernel_rfl) (by kernel_rfl) (fun _ _ _ h => h) (yields_ld rfl rfl rfl (fun w hS => run_ldC (CC6_10.below hS CC6_10.lt))) hHeld ?_
  try simp only [Act.put, List.setIfInBounds_toArray, List.set_cons_zero, List.set_cons_succ]
  refine wpAnyH_take (i := 19) (oi := ({ dst := some 52, op := Op.binOp BinOp.eql 41 (Operand.tmp 50) (Operand.tmp 51) 41, type := 4, pos := _, after := #[{ on := 17, ground := Ground.data }, { on := 18, ground := Ground.data }, { on := 16, ground := Ground.guard }], guard := some (16, true) } : Oper)) (v := ?_) rfl (by kernel_rfl) (by kernel_rfl) (by kernel_rfl) (fun _ _ _ h => h) (Or.inl ⟨by rfl, ?_⟩) hHeld ?_
  rotate_left
  · (intro w hS; go_simp; try with_reducible rfl)
  try simp only [Act.put, List.setIfInBounds_toArray, List.set_cons_zero, List.set_cons_succ]
  refine wpAnyH_take (i := 20) (oi := ({ dst := some 53, op := Op.pick (Operand.tmp 49) (Operand.tmp 52) (Operand.const (Value.bool false)), type := 4, pos := _, after := #[{ on := 16, ground := Ground.data }, { on := 19, ground := Ground.data }], guard := none } : Oper)) (v := ?_) rfl (by kernel_rfl) (by kernel_rfl) (by kernel_rfl) (fun _ _ _ h => h) (Or.inl ⟨by rfl, ?_⟩) hHeld ?_
  rotate_left
  · (intro w hS; go_simp; try with_reducible rfl)
  try simp only [Act.put, List.setIfInBounds_toArray, List.set_cons_zero, List.set_cons_succ]
  refine wpAnyH_take (i := 21) (oi := ({ dst := some 54, op := Op.move (Operand.tmp 53), type := 4, pos := _, after := #[{ on := 20, ground := Ground.data }, { on := 16, ground := Ground.chain }], guard := none } : Oper)) (v := ?_) rfl (by kernel_rfl) (by kernel_rfl) (by kernel_rfl) (fun _ _ _ h => h) (Or.inl ⟨by rfl, ?_⟩) hHeld ?_
  rotate_left
  · (intro w hS; go_simp; try with_reducible rfl)
  try simp only [Act.put, List.setIfInBounds_toArray, List.set_cons_zero, List.set_cons_succ]
  refine wpAnyH_take (i := 22) (oi := ({ dst := some 55, op := Op.load 43 (Operand.tmp 8), type := 43, pos := _, after := #[{ on := 21, ground := Ground.guard }], guard := some (21, true) } : Oper))  rfl (by kernel_rfl) (by kernel_rfl) (by kernel_rfl) (fun _ _ _ h => h) (yields_ld rfl rfl rfl (fun w hS => run_ldK (CK2_10.below hS CK2_10.lt))) hHeld ?_
  try simp only [Act.put, List.setIfInBounds_toArray, List.set_cons_zero, List.set_cons_succ]
  refine wpAnyH_take (i := 23) (oi := ({ dst := some 56, op := Op.load 43 (Operand.tmp 11), type := 43, pos := _, after := #[{ on := 21, ground := Ground.guard }], guard := some (21, true) } : Oper))  rfl (by kernel_rfl) (by kernel_rfl) (by kernel_rfl) (fun _ _ _ h => h) (yields_ld rfl rfl rfl (fun w hS => run_ldK (CK6_10.below hS CK6_10.lt))) hHeld ?_
  try simp only [Act.put, List.setIfInBounds_toArray, List.set_cons_zero, List.set_cons_succ]
  refine wpAnyH_take (i := 24) (oi := ({ dst := some 57, op := Op.binOp BinOp.eql 43 (Operand.tmp 55) (Operand.tmp 56) 43, type := 4, pos := _, after := #[{ on := 22, ground := Ground.data }, { on := 23, ground := Ground.data }, { on := 21, ground := Ground.guard }], guard := some (21, true) } : Oper)) (v := ?_) rfl (by kernel_rfl) (by kernel_rfl) (by kernel_rfl) (fun _ _ _ h => h) (Or.inl ⟨by rfl, ?_⟩) hHeld ?_
  rotate_left
  · (intro w hS; go_simp; try with_reducible rfl)
  try simp only [Act.put, List.setIfInBounds_toArray, List.set_cons_zero, List.set_cons_succ]
  refine wpAnyH_take (i := 25) (oi := ({ dst := some 58, op := Op.pick (Operand.tmp 54) (Operand.tmp 57) (Operand.const (Value.bool false)), type := 4, pos := _, after := #[{ on := 21, ground := Ground.data }, { on := 24, ground := Ground.data }], guard := none } : Oper)) (v := ?_) rfl (by kernel_rfl) (by kernel_rfl) (by kernel_rfl) (fun _ _ _ h => h) (Or.inl ⟨by rfl, ?_⟩) hHeld ?_
  rotate_left
  · (intro w hS; go_simp; try with_reducible rfl)
  try simp only [Act.put, List.setIfInBounds_toArray, List.set_cons_zero, List.set_cons_succ]
  refine wpAnyH_take (i := 26) (oi := ({ dst := some 59, op := Op.move (Operand.tmp 58), type := 4, pos := _, after := #[{ on := 25, ground := Ground.data }, { on := 21, ground := Ground.chain }], guard := none } : Oper)) (v := ?_) rfl (by kernel_rfl) (by kernel_rfl) (by kernel_rfl) (fun _ _ _ h => h) (Or.inl ⟨by rfl, ?_⟩) hHeld ?_
  rotate_left
  · (intro w hS; go_simp; try with_reducible rfl)
  try simp only [Act.put, List.setIfInBounds_toArray, List.set_cons_zero, List.set_cons_succ]
  refine wpAnyH_take (i := 27) (oi := ({ dst := some 60, op := Op.move (Operand.tmp 9), type := 28, pos := _, after := #[{ on := 26, ground := Ground.guard }], guard := some (26, true) } : Oper)) (v := ?_) rfl (by kernel_rfl) (by kernel_rfl) (by kernel_rfl) (fun _ _ _ h => h) (Or.inl ⟨by rfl, ?_⟩) hHeld ?_
  rotate_left
  · (intro w hS; go_simp; try with_reducible rfl)
  try simp only [Act.put, List.setIfInBounds_toArray, List.set_cons_zero, List.set_cons_succ]
  refine wpAnyH_take (i := 28) (oi := ({ dst := some 61, op := Op.move (Operand.tmp 12), type := 3, pos := _, after := #[{ on := 26, ground := Ground.guard }], guard := some (26, true) } : Oper)) (v := ?_) rfl (by kernel_rfl) (by kernel_rfl) (by kernel_rfl) (fun _ _ _ h => h) (Or.inl ⟨by rfl, ?_⟩) hHeld ?_
  rotate_left
  · (intro w hS; go_simp; try with_reducible rfl)
  try simp only [Act.put, List.setIfInBounds_toArray, List.set_cons_zero, List.set_cons_succ]
  refine wpAnyH_take (i := 29) (oi := ({ dst := some 62, op := Op.binOp BinOp.eql 3 (Operand.tmp 60) (Operand.tmp 61) 3, type := 4, pos := _, after := #[{ on := 27, ground := Ground.data }, { on := 28, ground := Ground.data }, { on := 26, ground := Ground.guard }], guard := some (26, true) } : Oper)) (v := ?_) rfl (by kernel_rfl) (by kernel_rfl) (by kernel_rfl) (fun _ _ _ h => h) (Or.inl ⟨by rfl, ?_⟩) hHeld ?_
  rotate_left
  · (intro w hS; go_simp; try with_reducible rfl)
  try simp only [Act.put, List.setIfInBounds_toArray, List.set_cons_zero, List.set_cons_succ]
  refine wpAnyH_take (i := 30) (oi := ({ dst := some 63, op := Op.pick (Operand.tmp 59) (Operand.tmp 62) (Operand.const (Value.bool false)), type := 4, pos := _, after := #[{ on := 26, ground := Ground.data }, { on := 29, ground := Ground.data }], guard := none } : Oper)) (v := ?_) rfl (by kernel_rfl) (by kernel_rfl) (by kernel_rfl) (fun _ _ _ h => h) (Or.inl ⟨by rfl, ?_⟩) hHeld ?_
  rotate_left
  · (intro w hS; go_simp; try with_reducible rfl)
  try simp only [Act.put, List.setIfInBounds_toArray, List.set_cons_zero, List.set_cons_succ]
  refine wpAnyH_take (i := 31) (oi := ({ dst := some 6, op := Op.assign (Operand.tmp 63), type := 4, pos := _, after := #[{ on := 30, ground := Ground.data }, { on := 26, ground := Ground.chain }, { on := 0, ground := Ground.phase }, { on := 1, ground := Ground.phase }, { on := 2, ground := Ground.phase }, { on := 3, ground := Ground.phase }, { on := 4, ground := Ground.phase }, { on := 5, ground := Ground.phase }, { on := 6, ground := Ground.phase }, { on := 7, ground := Ground.phase }, { on := 8, ground := Ground.phase }, { on := 9, ground := Ground.phase }, { on := 10, ground := Ground.phase }, { on := 11, ground := Ground.phase }, { on := 12, ground := Ground.phase }, { on := 13, ground := Ground.phase }, { on := 14, ground := Ground.phase }, { on := 15, ground := Ground.phase }, { on := 16, ground := Ground.phase }, { on := 17, ground := Ground.phase }, { on := 18, ground := Ground.phase }, { on := 19, ground := Ground.phase }, { on := 20, ground := Ground.phase }, { on := 21, ground := Ground.phase }, { on := 22, ground := Ground.phase }, { on := 23, ground := Ground.phase }, { on := 24, ground := Ground.phase }, { on := 25, ground := Ground.phase }, { on := 26, ground := Ground.phase }, { on := 27, ground := Ground.phase }, { on := 28, ground := Ground.phase }, { on := 29, ground := Ground.phase }, { on := 30, ground := Ground.phase }], guard := none } : Oper)) (v := ?_) rfl (by kernel_rfl) (by kernel_rfl) (by kernel_rfl) (fun _ _ _ h => h) (Or.inl ⟨by rfl, ?_⟩) hHeld ?_
  rotate_left
  · (intro w hS; go_simp; try with_reducible rfl)
  try simp only [Act.put, List.setIfInBounds_toArray, List.set_cons_zero, List.set_cons_succ]
  refine wpAnyH_done (by kernel_rfl) ?_ _
  go_wp2
  go_ret
  exact ⟨rfl, B10.trans (hHeld.mono B10.size)⟩
end Go.Proofs.YtbjeljmnknibnaaDoor
