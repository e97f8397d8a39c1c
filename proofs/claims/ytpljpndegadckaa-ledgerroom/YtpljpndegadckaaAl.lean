/- Proved here: what the law's own all answers. Conditions: as each theorem states them. -/
import Derived.Test.YtpljpndegadckaaIt
import Derived.Test.YtpljpndegadckaaEs
namespace Go.Proofs.Ytpljpndegadckaa
set_option linter.unusedSimpArgs false
set_option linter.unusedVariables false
open Go.RowKit Go.Shelf
attribute [local go_sem] Oper.semAt_some

theorem bk_own {β : Type} (b : Nat) (t : TypeId) (f : β → Array Value) : Own (fun s W => BK W b (f s) t) := fun s X Y row hs hg hrow =>
  (hg.block b (BK.lt hs) (fun e' => by obtain ⟨o, ho, hc⟩ := hrow b e'.symm; rw [show X.heap[b]? = _ from hs] at ho; cases ho; cases hc)).trans hs
theorem ownFrom_below {β : Type} {n m : Nat} {w : World} (hn : n ≤ m) (hw : n ≤ w.heap.size) : OwnFrom m (fun (_ : β) W => Below n w W) :=
  fun _ X Y row hs hg hr => hs.trans ⟨hg.os, hg.tape, hg.output, hg.size, fun k hk => hg.block k (by have := hs.size; omega) (fun e => by have := (hr k e.symm).1; omega)⟩
theorem keepsFrom_but {r n m : Nat} {W W' : World} {vs : Array Value} {t : TypeId} (h : But r n W W') (hn : W.heap.size ≤ n) (hr : BK W r vs t) : KeepsFrom m W W' :=
  ⟨h.size, fun k o _ hk ho => (h.block k (by have := (Array.getElem?_eq_some_iff.1 hk).1; omega) (fun e => by subst e; rw [show W.heap[k]? = _ from hr] at hk; cases hk; cases ho)).trans hk⟩
theorem keepsFrom_below {n m : Nat} {W W' : World} (h : Below n W W') (hn : W.heap.size ≤ n) : KeepsFrom m W W' :=
  ⟨h.size, fun k o _ hk _ => (h.block k (by have := (Array.getElem?_eq_some_iff.1 hk).1; omega)).trans hk⟩

theorem app_keep {B k : Nat} {W w1 : World} {t e : TypeId} {v v' : Value} {tmp o : Obj} {n₀ size j : Nat} {xs : List Value} (hv : Boxed W B t v)
    (hrow : W.ownsRow n₀ e size v k xs) (hgrow : (W.alloc tmp).grownBy w1 v.ownBlock) (hj : W.heap[j]? = some o) (h1 : ∀ vs m, o ≠ .cells vs t m) (h2 : ∀ vs m, o ≠ .cells vs e m) : (w1.setCell ⟨B, 0, none⟩ v').heap[j]? = some o := by
  have hjl : j < W.heap.size := (Array.getElem?_eq_some_iff.1 hj).1
  have g1 : w1.heap[j]? = W.heap[j]? := by
    refine (hgrow.block j (by simp; omega) (fun e' => ?_)).trans (Below.heap_alloc _ _ _ hjl)
    rcases hrow.2 with ⟨rfl, _⟩ | ⟨g, cap, cur, rfl, _, hgb, _⟩
    · simp [Value.ownBlock] at e'
    · obtain rfl : j = g := by simpa [Value.ownBlock] using e'
      rw [hj] at hgb
      cases hgb
      exact h2 _ _ rfl
  refine ((Below.heap_setCell _ _ _ _ (fun e' => ?_)).trans g1).trans hj
  subst e'
  have := (show W.heap[_]? = _ from hv).symm.trans hj
  simp only [Option.some.injEq] at this
  exact h1 _ _ this.symm
theorem Kt.appended {m B k : Nat} {W w1 : World} {t e : TypeId} {v v' : Value} {tmp : Obj} {n₀ size : Nat} {xs : List Value} (hv : Boxed W B t v) (ht : t ≠ 3) (he : e ≠ 3)
    (hrow : W.ownsRow n₀ e size v k xs) (hgrow : (W.alloc tmp).grownBy w1 v.ownBlock) : Kt m W (w1.setCell ⟨B, 0, none⟩ v') := by
  refine ⟨?_, fun j es c _ hb => app_keep hv hrow hgrow hb (fun _ _ e => by cases e) (fun _ _ e => by cases e), fun j V _ hb => app_keep hv hrow hgrow hb (fun vs m e => by cases e; exact ht rfl) (fun vs m e => by cases e; exact he rfl)⟩
  have h1 := hgrow.size
  simp [World.setCell] at *
  omega
theorem ent_new (W : World) (x : En) (t : TypeId) : ∀ j u, (ecells [x])[j]? = some u → (W.alloc (.cells #[.int .i64 x.1, .int .i64 x.2] t)).cell? ((⟨W.heap.size, 0, none⟩ : Addr).add j) = some u := by
  intro j u hu
  rw [Addr.add_lit, Nat.zero_add]
  rw [ecells_cons, ecells_nil] at hu
  exact cell_alloc_any W _ t _ j u (by simpa using hu)

set_option maxRecDepth 100000 in
set_option maxHeartbeats 4000000 in
theorem lall_in {w : World} {b mb nn : Nat} {L : List En} {room : Int} (h : XV w b mb L room nn) (hnn : nn ≤ 1000) (hlen : L.length ≤ 1000) :
    CallsIn Fence.wide 8 Try.prog 22 #[.pointer (some ⟨b, 0, none⟩)] w fun e w' => ∃ a c, e = .returned (.slice a L.length c) ∧ ES w.heap.size w' a L.length c L ∧ Below w.heap.size w w' := by
  obtain ⟨i0, hi, hz0, hz1, hz2⟩ := info_parts info_e
  refine callsIn_of_wp_marks Try.func22 rfl trivial ?_ rfl
  simp only [Try.ntmps22, List.size_toArray, List.length_cons, List.length_nil, Nat.reduceAdd, Nat.reduceSub, Array.replicate_succ, Array.replicate_zero, List.push_toArray, List.append_toArray, List.nil_append, List.cons_append]
  gi_wp2_with (refine ⟨trivial, ?_⟩; gi_at_call 23; refine (all_in _ _ _ rfl rfl).mono ?_; rintro e w' ⟨rfl, rfl⟩)
  have kK := (Boxed.new w 37 (.slice none 0 0)).alloc (.cells #[.pointer (some ⟨b, 0, none⟩)] 24)
  have kP := bk_new (w.alloc (.cells #[.slice none 0 0] 37)) #[.pointer (some ⟨b, 0, none⟩)] 24
  rw [World.size_alloc] at kP
  have hB0 : Below w.heap.size w ((w.alloc (.cells #[.slice none 0 0] 37)).alloc (.cells #[.pointer (some ⟨b, 0, none⟩)] 24)) :=
    ((Below.refl _ w).alloc (Nat.le_refl _) _).alloc (by simp) _
  have hsz : ((w.alloc (.cells #[.slice none 0 0] 37)).alloc (.cells #[.pointer (some ⟨b, 0, none⟩)] 24)).heap.size = w.heap.size + 2 := by simp
  obtain ⟨W0, hW0⟩ : ∃ W0, (w.alloc (.cells #[.slice none 0 0] 37)).alloc (.cells #[.pointer (some ⟨b, 0, none⟩)] 24) = W0 := ⟨_, rfl⟩
  rw [hW0] at kK kP hB0 hsz ⊢
  clear hW0
  have hT0 := h.below hB0 (Nat.le_refl _)
  refine wpIn_rangeFunc_ownH (α := { x : En // x ∈ L }) rfl (by omega) (gf := 30) (lb := #[.pointer (some ⟨w.heap.size + 1, 0, none⟩)]) rfl trivial (enters_of Try.func30 (by kernel_rfl) rfl)
    (all_stops (8 - 1) (by omega) (w.heap.size + 1) b mb nn L room W0 (by omega) (kP.cell 0 _ rfl) hT0 hnn) Kt.trans Kt.put (Below.refl _ _) (fun _ => rfl)
    (fun pre W => (∃ v, Boxed W w.heap.size 37 v ∧ W.ownsRow w.heap.size 60 2 v pre.length (ecells (pre.map (·.1))) ∧ True) ∧ Below w.heap.size w W ∧ w.heap.size + 2 ≤ W.heap.size)
    (fun _ _ _ => False)
    (OwnFrom.and (Own.from (holdsRow_own w.heap.size w.heap.size 37 60 2 (fun (pre : List { x : En // x ∈ L }) => pre.length) (fun pre => ecells (pre.map (·.1))) (fun _ _ => True)) _) (OwnFrom.and (ownFrom_below (by omega) (Nat.le_refl _)) (fun _ X Y row hs hg _ => Nat.le_trans hs hg.size)))
    (fun _ _ _ _ _ hs _ _ => hs)
    ⟨⟨_, kK, World.ownsRow_nil _ _ _ _, trivial⟩, hB0, by omega⟩
    (fun x a' W => a' = { tmps := #[.pointer (some ⟨b, 0, none⟩), undef, .slice none 0 0, .pointer (some ⟨w.heap.size, 0, none⟩), .int .i64 x.1.1, .int .i64 x.1.2, .pointer (some ⟨b, 0, none⟩), .func (.func 30) #[] #[.pointer (some ⟨w.heap.size + 1, 0, none⟩)], .int .i64 x.1.1, .int .i64 x.1.2, undef, undef, undef, undef, undef, undef, undef], defers := [] })
    (fun x a' u X Y row hs hgr hr => hs) ?assign ?body ?done ?stop
  case assign =>
    rintro l pre x W K ⟨⟨v, i1, i4, _⟩, i2, i3⟩ hK
    gi_wp2
    exact hK _ _ (KeepsFrom.refl _ _) (Kt.refl _ _) ⟨⟨v, i1, i4, trivial⟩, i2, i3⟩ rfl
  case body =>
    rintro l pre x a' W hl _ ⟨⟨v, hv, hrow, _⟩, hB, i3⟩ rfl hlt
    have hc := hv.cell
    have hpl : pre.length ≤ 1000 := by omega
    have HM : Hid ((pre ++ [x]).map (·.1) = pre.map (·.1) ++ [x.1]) := List.map_append
    gi_wp2_with (gi_at_builtin; refine wpListIn_append_own _ rfl _ _ 37 rfl w.heap.size 60 i0 _ 2 16 Try.underlying37 hi hz0 hz1 hz2 rfl (by decide) _ _ _ rfl (hrow.alloc _) ⟨W.heap.size, 0, none⟩ 1 1 (ecells [x.1]) rfl rfl (ent_new W x.1 _) ecells_one (by unfold maxLen; omega) (by omega) (by have := hB.size; simp; omega) ?_; intro v' w1 hown' hgrow _; obtain ⟨g', cap', rfl⟩ := ownsRow_succ hown'; obtain ⟨hv1, hv2, hr2, hk2, hb2⟩ := hv.appended (by decide) hrow hB.size (Nat.le_refl _) hown' hgrow; have hc1 := hv1.cell; have hf1 := hv1.frozen; have hkt := Kt.appended (m := w.heap.size + 2) (v' := Value.slice (some ⟨g', 0, none⟩) (pre.length + 1) cap') hv (by decide) (by decide) hrow hgrow)
    refine ⟨hk2.from _, by first | exact hkt | (rw [hsz]; exact hkt), ⟨⟨_, hv2, by first | (rw [HM.out, ecells_append, List.length_append, List.length_singleton]; exact hr2) | (rw [HM.out, ecells_append, List.length_append, List.length_singleton]; exact ⟨hr2, trivial⟩)⟩, hB.trans hb2, Nat.le_trans i3 hb2.size⟩⟩
  case done =>
    rintro D ys W hD hys ⟨⟨v, hv, hrow, _⟩, hB, i3⟩ hK
    have hyl : ys.length = L.length := by have := congrArg List.length hys; simpa using this
    rw [hys, hyl] at hrow
    have hc := hv.cell
    gi_wp2
    refine ⟨by simp, .inl ⟨_, _, rfl, run_takeDeferred hK, ?_⟩⟩
    have hsl : ∃ a c, v = .slice a L.length c := by
      rcases hrow.2 with ⟨rfl, e⟩ | ⟨g, cap, cur, rfl, _⟩
      · exact ⟨none, 0, by rw [e]⟩
      · exact ⟨_, _, rfl⟩
    obtain ⟨a, c, rfl⟩ := hsl
    exact ⟨_, results_tmp rfl _ _ _, a, c, rfl, ⟨rfl, ownsRow_putObj hrow _ hK rfl⟩, hB.trans (belowK_b (w := w) (Nat.le_refl _) W D _ _ (by omega) hK rfl rfl)⟩
  case stop =>
    rintro D c pre W _ _ h _
    exact h.elim
theorem lall_calls {w : World} {b mb nn : Nat} {L : List En} {room : Int} (h : XV w b mb L room nn) (hnn : nn ≤ 1000) (hlen : L.length ≤ 1000) :
    Calls Try.prog 22 #[.pointer (some ⟨b, 0, none⟩)] w fun e w' => ∃ a c, e = .returned (.slice a L.length c) ∧ ES w.heap.size w' a L.length c L ∧ Below w.heap.size w w' :=
  callsIn_wide.1 (lall_in h hnn hlen)
set_option maxRecDepth 100000 in
set_option maxHeartbeats 4000000 in
theorem lall_nil_in (w : World) :
    CallsIn Fence.wide 3 Try.prog 22 #[.pointer none] w fun e w' => ∃ a c, e = .returned (.slice a 0 c) ∧ Below w.heap.size w w' := by
  refine callsIn_of_wp_marks Try.func22 rfl trivial ?_ rfl
  simp only [Try.ntmps22, List.size_toArray, List.length_cons, List.length_nil, Nat.reduceAdd, Nat.reduceSub, Array.replicate_succ, Array.replicate_zero, List.push_toArray, List.append_toArray, List.nil_append, List.cons_append]
  gi_wp2_with (refine ⟨trivial, ?_⟩; gi_at_call 23; refine (all_in _ _ _ rfl rfl).mono ?_; rintro e w' ⟨rfl, rfl⟩)
  have kK := (Boxed.new w 37 (.slice none 0 0)).alloc (.cells #[.pointer none] 24)
  have kP := bk_new (w.alloc (.cells #[.slice none 0 0] 37)) #[.pointer none] 24
  rw [World.size_alloc] at kP
  have hB0 : Below w.heap.size w ((w.alloc (.cells #[.slice none 0 0] 37)).alloc (.cells #[.pointer none] 24)) :=
    ((Below.refl _ w).alloc (Nat.le_refl _) _).alloc (by simp) _
  have hsz : ((w.alloc (.cells #[.slice none 0 0] 37)).alloc (.cells #[.pointer none] 24)).heap.size = w.heap.size + 2 := by simp
  obtain ⟨W0, hW0⟩ : ∃ W0, (w.alloc (.cells #[.slice none 0 0] 37)).alloc (.cells #[.pointer none] 24) = W0 := ⟨_, rfl⟩
  rw [hW0] at kK kP hB0 hsz ⊢
  clear hW0
  refine wpIn_rangeFunc_ownH (α := { x : En // x ∈ ([] : List En) }) rfl (by omega) (gf := 30) (lb := #[.pointer (some ⟨w.heap.size + 1, 0, none⟩)]) rfl trivial (enters_of Try.func30 (by kernel_rfl) rfl)
    (all_stops_none (3 - 1) (by omega) (w.heap.size + 1) W0 (by omega) (kP.cell 0 _ rfl)) Kt.trans Kt.put (Below.refl _ _) (fun _ => rfl)
    (fun pre W => BK W w.heap.size #[.slice none 0 0] 37 ∧ Below w.heap.size w W ∧ w.heap.size + 2 ≤ W.heap.size)
    (fun _ _ _ => False)
    (OwnFrom.and (Own.from (bk_own _ _ _) _) (OwnFrom.and (ownFrom_below (by omega) (Nat.le_refl _)) (fun _ X Y row hs hg _ => Nat.le_trans hs hg.size)))
    (fun _ _ _ _ _ hs _ _ => hs)
    ⟨kK, hB0, by omega⟩
    (fun x a' W => False)
    (fun x a' u X Y row hs hgr hr => hs) ?assign ?body ?done ?stop
  case assign =>
    rintro l pre x W K _ _
    exact absurd x.2 (by simp)
  case body =>
    rintro l pre x a' W hl _ _ h _
    exact h.elim
  case done =>
    rintro D ys W hD hys ⟨hv, hB, i3⟩ hK
    have hc := hv.cell 0 _ rfl
    gi_wp2
    refine ⟨by simp, .inl ⟨_, _, rfl, run_takeDeferred hK, ?_⟩⟩
    exact ⟨_, results_tmp rfl _ _ _, none, 0, rfl, hB.trans (belowK_b (w := w) (Nat.le_refl _) W D _ _ (by omega) hK rfl rfl)⟩
  case stop =>
    rintro D c pre W _ _ h _
    exact h.elim
theorem lall_nil (w : World) : Calls Try.prog 22 #[.pointer none] w fun e w' => ∃ a c, e = .returned (.slice a 0 c) ∧ Below w.heap.size w w' := callsIn_wide.1 (lall_nil_in w)
end Go.Proofs.Ytpljpndegadckaa
