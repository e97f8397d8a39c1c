/- Proved here: what a policer's Due answers. Conditions: as each theorem states them. -/
import Derived.Test.YtlaomjhibaoglaaView
namespace Go.Proofs.Ytlaomjhibaoglaa
set_option linter.unusedSimpArgs false
set_option linter.unusedVariables false
open Go.RowKit Go.Shelf
attribute [local go_sem] Oper.semAt_some

/-- From when on a rule finds no cell too early; the latest such time of rules. -/
def dueX (x : Lim) : Int := max 0 (x.T - hM x.e)
def dueL (M : List Lim) : Int := M.foldl (fun a x => max a (dueX x)) 0
theorem dueL_snoc (M : List Lim) (x : Lim) : dueL (M ++ [x]) = max (dueL M) (dueX x) := by simp [dueL]
theorem dueL_bound {M : List Lim} (h : ∀ x ∈ M, x.T ≤ 3458764513820540928) : 0 ≤ dueL M ∧ dueL M ≤ 3458764513820540928 := by
  have key : ∀ (M : List Lim) (a : Int), (∀ x ∈ M, x.T ≤ 3458764513820540928) → 0 ≤ a → a ≤ 3458764513820540928 → 0 ≤ M.foldl (fun a x => max a (dueX x)) a ∧ M.foldl (fun a x => max a (dueX x)) a ≤ 3458764513820540928 := by
    intro M
    induction M with
    | nil => intro a _ h0 h1; exact ⟨h0, h1⟩
    | cons y M ih =>
      intro a h h0 h1
      rw [List.foldl_cons]
      have h2 := h y (List.mem_cons_self ..)
      have h3 := hM_bound y.e
      exact ih _ (fun x hx => h x (List.mem_cons_of_mem _ hx)) (by omega) (by unfold dueX; omega)
  exact key M 0 h (by decide) (by decide)

theorem run_due (b : Nat) (w : World) : (method 187 55 (.pointer (some ⟨b, 0, none⟩)) "Due").run Try.prog w = .ok (40, .pointer (some ⟨b, 0, none⟩)) w := by kernel_rfl

set_option maxRecDepth 100000 in
set_option maxHeartbeats 2000000 in
theorem pdue_in (r g cap : Nat) (L : List Lim) (clp : Int) (w : World) (h : PR w r g cap L) :
    CallsIn Fence.wide 3 Try.prog 15 #[.pointer (some ⟨r, 0, none⟩), .int .i64 clp] w fun e W' => e = .returned (.int .i64 (dueL (askedL clp L))) ∧ Below w.heap.size w W' := by
  refine callsIn_of_wp_marks Try.func15 rfl trivial ?_ rfl
  simp only [Try.ntmps15, List.size_toArray, List.length_cons, List.length_nil, Nat.reduceAdd, Nat.reduceSub, Array.replicate_succ, Array.replicate_zero, List.push_toArray, List.append_toArray, List.nil_append, List.cons_append]
  gi_wp2_with (refine ⟨trivial, ?_⟩; gi_at_call 22; refine (asked_in _ _ _ _).mono ?_; rintro e w' ⟨rfl, rfl⟩)
  obtain ⟨W0, hW0⟩ : ∃ W0, (((w.alloc (.cells #[.int .i64 0] 3)).alloc (.cells #[.pointer (some ⟨r, 0, none⟩)] 26)).alloc (.cells #[.int .i64 clp] 3)) = W0 := ⟨_, rfl⟩
  have b1 := ((Boxed.new w 3 (.int .i64 0)).alloc (.cells #[.pointer (some ⟨r, 0, none⟩)] 26)).alloc (.cells #[.int .i64 clp] 3)
  have b3 := (Boxed.new (w.alloc (.cells #[.int .i64 0] 3)) 26 (.pointer (some ⟨r, 0, none⟩))).alloc (.cells #[.int .i64 clp] 3)
  have b4 := Boxed.new ((w.alloc (.cells #[.int .i64 0] 3)).alloc (.cells #[.pointer (some ⟨r, 0, none⟩)] 26)) 3 (.int .i64 clp)
  simp only [World.size_alloc] at b1 b3 b4
  have hB0 : Below w.heap.size w (((w.alloc (.cells #[.int .i64 0] 3)).alloc (.cells #[.pointer (some ⟨r, 0, none⟩)] 26)).alloc (.cells #[.int .i64 clp] 3)) :=
    (((Below.refl _ w).alloc (Nat.le_refl _) _).alloc (by simp) _).alloc (by simp; omega) _
  have hsz : W0.heap.size = w.heap.size + 3 := by rw [← hW0]; simp
  rw [hW0] at b1 b3 b4 hB0 ⊢
  clear hW0
  have hP := h.below hB0 (Nat.le_refl _)
  have hg := h.glt
  have hq := hP.sl
  have b3c := b3.cell
  have b4c := b4.cell
  refine wpIn_rangeFunc_ownH (α := { x : Lim // x ∈ askedL clp L }) rfl (by omega) (gf := 24) (lb := #[.pointer (some ⟨w.heap.size + 1, 0, none⟩), .pointer (some ⟨w.heap.size + 1 + 1, 0, none⟩)]) rfl trivial (enters_of Try.func24 (by kernel_rfl) rfl)
    (asked_stops (3 - 1) (by omega) (w.heap.size + 1) (w.heap.size + 1 + 1) r g cap L clp h.len W0 (by omega) (by omega) (by have := h.rlt; omega) (by omega) b3c b4c hq hP.lim) Kp.trans (Kp.put (by omega) (by omega)) (Below.refl _ _) (fun _ => rfl)
    (fun pre W => Boxed W w.heap.size 3 (.int .i64 (dueL (pre.map (·.1)))) ∧ Below w.heap.size w W ∧ w.heap.size + 3 ≤ W.heap.size)
    (fun _ _ _ => False)
    (OwnFrom.and (Own.from (boxed_own _ _ _) _) (OwnFrom.and (ownFrom_below (Nat.le_refl _) (by omega)) (fun _ X Y row hs hg _ => Nat.le_trans hs hg.size)))
    (fun _ _ _ _ _ hs _ _ => hs)
    ⟨b1, hB0, by omega⟩
    (fun x a' W => ∃ Bx, w.heap.size + 3 ≤ Bx ∧ BK W Bx #[.iface 55 (.pointer (some ⟨x.1.b, 0, none⟩)), .bool x.1.z, .bool x.1.g] 60 ∧ a' = { tmps := #[.pointer (some ⟨r, 0, none⟩), .int .i64 clp, undef, undef, .int .i64 0, .pointer (some ⟨w.heap.size, 0, none⟩), .pointer (some ⟨Bx, 0, none⟩), .pointer (some ⟨r, 0, none⟩), .bool false, .pointer (some ⟨r, 0, none⟩), .int .i64 clp, .func (.func 24) #[] #[.pointer (some ⟨w.heap.size + 1, 0, none⟩), .pointer (some ⟨w.heap.size + 1 + 1, 0, none⟩)], limV x.1.b x.1.z x.1.g, undef, undef, undef, undef, undef, undef], defers := [] })
    (fun x a' u X Y row hs hgr hr => by
      obtain ⟨Bx, h1, h2, h3⟩ := hs
      exact ⟨Bx, h1, (Own.from (bk_own (β := Unit) Bx _ (fun _ => _)) _) () X Y row h2 hgr hr, h3⟩) ?assign ?body ?done ?stop
  case assign =>
    rintro l pre x W K ⟨i1, i4, i5⟩ hK
    gi_wp2
    exact hK _ _ ((KeepsOthers.alloc _ _).from _) (Kp.of ((Below.refl _ W).alloc (Nat.le_refl _) _) (by omega) (by omega)) ⟨i1.alloc _, i4.trans ((Below.refl _ W).alloc (by omega) _), by simp; omega⟩ ⟨W.heap.size, i5, bk_new W _ _, rfl⟩
  case body =>
    rintro l pre x a' W hl _ ⟨i1, i4, i5⟩ ⟨Bx, hBx, bX, rfl⟩ _
    obtain ⟨⟨b, z, gt, s, e, T⟩, hx⟩ := x
    have hxL : (⟨b, z, gt, s, e, T⟩ : Lim) ∈ L := (List.mem_filter.1 hx).1
    obtain ⟨C, T0, T1⟩ := h.bk _ hxL
    simp only at C T0 T1 bX
    have C1 := C.below i4 C.lt
    have hdue := due_calls b s e T W.drew (BK.drew C1) T0 T1
    have hm := run_due b
    have HV : Hid (dueL ((pre ++ [(⟨⟨b, z, gt, s, e, T⟩, hx⟩ : { x : Lim // x ∈ askedL clp L })]).map (·.1)) = max (dueL (pre.map (·.1))) (max 0 (T - hM e))) := by show _ = _; rw [List.map_append]; exact dueL_snoc _ _
    obtain ⟨X, hX⟩ : ∃ X, max 0 (T - hM e) = X := ⟨_, rfl⟩
    obtain ⟨D, hD⟩ : ∃ D, dueL (pre.map (·.1)) = D := ⟨_, rfl⟩
    obtain ⟨M, hM'⟩ : ∃ M, max D X = M := ⟨_, rfl⟩
    rw [hD] at i1 HV
    rw [hX] at hdue HV
    rw [hM'] at HV
    have hmax : (if D < X then X else D) = M := by rw [← hM']; split <;> omega
    have k1 := i1.cell
    have f1 := i1.frozen
    have x0 := bX.cell 0 _ rfl
    have hmx : Try.prog.follows .mixedOrders = true := by kernel_rfl
    have hd1 : 1 ≤ 3 - 1 - 1 := by decide
    have hw1 : w.heap.size < W.heap.size := i1.lt
    clear C C1 T0 T1 hM' hX hD
    gi_wp2
    gi_region_with_o (refine ⟨trivial, ?_⟩; gi_at_call 40; refine (CallsIn.inRound l (callsIn_wide.2 hdue)).mono ?_; rintro e1 w1 ⟨rfl, q1⟩; have k1 := (Boxed.below' (W := W) i1 (show Below W.heap.size W w1 from ⟨q1.os, q1.tape, q1.output, q1.size, q1.block⟩) i1.lt).cell; have f1 := (Boxed.below' (W := W) i1 (show Below W.heap.size W w1 from ⟨q1.os, q1.tape, q1.output, q1.size, q1.block⟩) i1.lt).frozen)
    all_goals gi_wp2
    all_goals
      have q2 : Below W.heap.size W w1 := ⟨q1.os, q1.tape, q1.output, q1.size, q1.block⟩
      have I1 := Boxed.below' (W := W) i1 q2 i1.lt
      have hs2 := q2.size
      refine ⟨(keepsFrom_below q2 (Nat.le_refl _)).trans ((KeepsOthers.setCell _ _ _).from _), (Kp.of q2 (by omega) (by omega)).trans (Kp.set (p := ⟨w.heap.size, 0, none⟩) (by show w.heap.size ≠ g; omega) (by show w.heap.size ≠ w.heap.size + 1 + 1; omega) _ _), ?_, (i4.trans (q2.mono (by omega))).setCell (p := ⟨w.heap.size, 0, none⟩) (Nat.le_refl _) _, by simp; omega⟩
      rw [HV.out]
      exact I1.set _
  case done =>
    rintro D ys W hD hys ⟨i1, hB, _⟩ hK
    rw [hys] at i1
    have k1 := i1.cell
    gi_wp2
    refine ⟨by simp, .inl ⟨_, _, rfl, run_takeDeferred hK, ?_⟩⟩
    exact ⟨_, results_tmp rfl _ _ _, rfl, hB.trans (belowK_b (w := w) (Nat.le_refl _) W D _ _ (by omega) hK rfl rfl)⟩
  case stop =>
    rintro D c pre W _ _ h _
    exact h.elim

/-- When a policer is due for a cell of a loss priority, by its numbers. -/
def dueV (K : PK) (T1 T2 c : Int) : Int := bif ask2 K c then max (max 0 (T1 - hM K.e)) (max 0 (T2 - hM K.B)) else max 0 (T1 - hM K.e)
theorem due_LL (K : PK) (A : PA) (T1 T2 c : Int) : dueL (askedL c (LL K A T1 T2)) = dueV K T1 T2 c := by
  obtain ⟨two, z, tg, p, e, w, B⟩ := K
  unfold dueL askedL LL dueV ask2
  cases two <;> cases z <;> cases hc : (c == 0) <;> simp [asks, hc, dueX] <;> omega

theorem pdue_calls {K : PK} {A : PA} {al : Bool} {T1 T2 c0 c1 c2 c3 : Int} (c : Int) {w : World} (h : PV w K A al T1 T2 c0 c1 c2 c3) :
    Calls Try.prog 15 #[.pointer (some ⟨A.r, 0, none⟩), .int .i64 c] w fun e W' => e = .returned (.int .i64 (dueV K T1 T2 c)) ∧ Below w.heap.size w W' := by
  have := callsIn_wide.1 (pdue_in A.r A.g A.cap _ c w h.pc.pr)
  rwa [due_LL] at this
end Go.Proofs.Ytlaomjhibaoglaa
