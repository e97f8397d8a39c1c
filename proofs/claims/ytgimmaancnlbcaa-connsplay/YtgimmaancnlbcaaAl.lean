/- Proved here: what the law's own all answers. Conditions: as each theorem states them. -/
import Derived.Test.YtgimmaancnlbcaaAw
namespace Go.Proofs.Ytgimmaancnlbcaa
set_option linter.unusedSimpArgs false
set_option linter.unusedVariables false
open Go.RowKit Go.Shelf
attribute [local go_sem] Oper.semAt_some

theorem Kt.appended {m B k : Nat} {W w1 : World} {t e : TypeId} {v v' : Value} {tmp : Obj} {n₀ size : Nat} {xs : List Value} (hv : Boxed W B t v) (ht : t ≠ 62) (he : e ≠ 62)
    (hrow : W.ownsRow n₀ e size v k xs) (hgrow : (W.alloc tmp).grownBy w1 v.ownBlock) : Kt m W (w1.setCell ⟨B, 0, none⟩ v') := by
  refine ⟨?_, fun j V _ hb => ?_⟩
  · have h1 := hgrow.size
    simp [World.setCell] at *
    omega
  · have h1 : w1.heap[j]? = W.heap[j]? := by
      refine (hgrow.block j (by have := hb.lt; simp; omega) (fun e' => ?_)).trans (Below.heap_alloc _ _ _ hb.lt)
      rcases hrow.2 with ⟨rfl, _⟩ | ⟨g, cap, cur, rfl, _, hgb, _⟩
      · simp [Value.ownBlock] at e'
      · obtain rfl : j = g := by simpa [Value.ownBlock] using e'
        rw [show W.heap[j]? = _ from hb] at hgb
        cases hgb
        exact he rfl
    refine ((Below.heap_setCell _ _ _ _ (fun e' => ?_)).trans h1).trans hb
    subst e'
    have := (show W.heap[_]? = _ from hv).symm.trans hb
    simp at this
    exact ht this.2
theorem ent_new (W : World) (x : En) (t : TypeId) : ∀ j u, (ecells [x])[j]? = some u → (W.alloc (.cells #[.int .i64 x.1.1, .int .i64 x.1.2.1, .int .i64 x.1.2.2, .int .i64 x.2] t)).cell? ((⟨W.heap.size, 0, none⟩ : Addr).add j) = some u := by
  intro j u hu
  rw [Addr.add_lit, Nat.zero_add]
  rw [ecells_cons, ecells_nil] at hu
  exact cell_alloc_any W _ t _ j u (by simpa using hu)

set_option maxRecDepth 100000 in
set_option maxHeartbeats 4000000 in
theorem lall_in {w : World} {b : Nat} {L : List En} {room : Nat} (h : TB w b L room) :
    CallsIn Fence.wide 3 Try.prog 20 #[.pointer (some ⟨b, 0, none⟩)] w fun e w' => ∃ a c, e = .returned (.slice a L.length c) ∧ w'.ownsRow w.heap.size 65 4 (.slice a L.length c) L.length (ecells L) ∧ Below w.heap.size w w' := by
  obtain ⟨i0, hi, hz0, hz1, hz2⟩ := info_parts info_ent
  refine callsIn_of_wp_marks Try.func20 rfl trivial ?_ rfl
  simp only [Try.ntmps20, List.size_toArray, List.length_cons, List.length_nil, Nat.reduceAdd, Nat.reduceSub, Array.replicate_succ, Array.replicate_zero, List.push_toArray, List.append_toArray, List.nil_append, List.cons_append]
  gi_wp2_with (refine ⟨trivial, ?_⟩; gi_at_call 25; refine (all_in _ _ _ rfl rfl).mono ?_; rintro e w' ⟨rfl, rfl⟩)
  have kK := (Boxed.new w 38 (.slice none 0 0)).alloc (.cells #[.pointer (some ⟨b, 0, none⟩)] 26)
  have kP := bk_new (w.alloc (.cells #[.slice none 0 0] 38)) #[.pointer (some ⟨b, 0, none⟩)] 26
  rw [World.size_alloc] at kP
  have hB0 : Below w.heap.size w ((w.alloc (.cells #[.slice none 0 0] 38)).alloc (.cells #[.pointer (some ⟨b, 0, none⟩)] 26)) :=
    ((Below.refl _ w).alloc (Nat.le_refl _) _).alloc (by simp) _
  have hsz : ((w.alloc (.cells #[.slice none 0 0] 38)).alloc (.cells #[.pointer (some ⟨b, 0, none⟩)] 26)).heap.size = w.heap.size + 2 := by simp
  obtain ⟨W0, hW0⟩ : ∃ W0, (w.alloc (.cells #[.slice none 0 0] 38)).alloc (.cells #[.pointer (some ⟨b, 0, none⟩)] 26) = W0 := ⟨_, rfl⟩
  rw [hW0] at kK kP hB0 hsz ⊢
  clear hW0
  have hT0 := h.below hB0 h.lt
  have hlen := h.len
  refine wpIn_rangeFunc_ownH (α := { x : En // x ∈ L }) rfl (by omega) (gf := 31) (lb := #[.pointer (some ⟨w.heap.size + 1, 0, none⟩)]) rfl trivial (enters_of Try.func31 (by kernel_rfl) rfl)
    (all_stops (3 - 1) (by omega) (w.heap.size + 1) b L room W0 (by omega) (kP.cell 0 _ rfl) hT0) Kt.trans Kt.put (Below.refl _ _) (fun _ => rfl)
    (fun pre W => (∃ v, Boxed W w.heap.size 38 v ∧ W.ownsRow w.heap.size 65 4 v pre.length (ecells (pre.map (·.1))) ∧ True) ∧ Below w.heap.size w W ∧ w.heap.size + 2 ≤ W.heap.size)
    (fun _ _ _ => False)
    (OwnFrom.and (Own.from (holdsRow_own w.heap.size w.heap.size 38 65 4 (fun (pre : List { x : En // x ∈ L }) => pre.length) (fun pre => ecells (pre.map (·.1))) (fun _ _ => True)) _) (OwnFrom.and (ownFrom_below (by omega) (Nat.le_refl _)) (fun _ X Y row hs hg _ => Nat.le_trans hs hg.size)))
    (fun _ _ _ _ _ hs _ _ => hs)
    ⟨⟨_, kK, World.ownsRow_nil _ _ _ _, trivial⟩, hB0, by omega⟩
    (fun x a' W => ∃ Bx, w.heap.size + 2 ≤ Bx ∧ BK W Bx #[.int .i64 x.1.1.1, .int .i64 x.1.1.2.1, .int .i64 x.1.1.2.2] 24 ∧ a' = { tmps := #[.pointer (some ⟨b, 0, none⟩), undef, .slice none 0 0, .pointer (some ⟨w.heap.size, 0, none⟩), .pointer (some ⟨Bx, 0, none⟩), .int .i64 x.1.2, .pointer (some ⟨b, 0, none⟩), .func (.func 31) #[] #[.pointer (some ⟨w.heap.size + 1, 0, none⟩)], keyV x.1.1, .int .i64 x.1.2, undef, undef, undef, undef, undef, undef, undef], defers := [] })
    (fun x a' u X Y row hs hgr hr => by
      obtain ⟨Bx, h1, h2, h3⟩ := hs
      exact ⟨Bx, h1, (Own.from (bk_own (β := Unit) Bx _ (fun _ => _)) _) () X Y row h2 hgr hr, h3⟩) ?assign ?body ?done ?stop
  case assign =>
    rintro l pre x W K ⟨⟨v, i1, i4, _⟩, i2, i3⟩ hK
    gi_wp2
    exact hK _ _ ((KeepsOthers.alloc _ _).from _) (Kt.of (below_box W _) (Nat.le_refl _)) ⟨⟨v, i1.alloc _, i4.alloc _, trivial⟩, i2.trans ((below_box W _).mono i2.size), by simp; omega⟩ ⟨W.heap.size, i3, bk_new W _ _, rfl⟩
  case body =>
    rintro l pre x a' W hl _ ⟨⟨v, hv, hrow, _⟩, hB, i3⟩ ⟨Bx, hBx, bX, rfl⟩ hlt
    have hc := hv.cell
    have x0 := bX.cell 0 _ rfl
    have x1 := bX.cell 1 _ rfl
    have x2 := bX.cell 2 _ rfl
    have hpl : pre.length ≤ 64 := by omega
    have HM : Hid ((pre ++ [x]).map (·.1) = pre.map (·.1) ++ [x.1]) := List.map_append
    gi_wp2_with (gi_at_builtin; refine wpListIn_append_own _ rfl _ _ 38 rfl w.heap.size 65 i0 _ 4 32 Try.underlying38 hi hz0 hz1 hz2 rfl (by decide) _ _ _ rfl (hrow.alloc _) ⟨W.heap.size, 0, none⟩ 1 1 (ecells [x.1]) rfl rfl (ent_new W x.1 _) ecells_one (by unfold maxLen; omega) (by omega) (by have := hB.size; simp; omega) ?_; intro v' w1 hown' hgrow _; obtain ⟨g', cap', rfl⟩ := ownsRow_succ hown'; obtain ⟨hv1, hv2, hr2, hk2, hb2⟩ := hv.appended (by decide) hrow hB.size (Nat.le_refl _) hown' hgrow; have hc1 := hv1.cell; have hf1 := hv1.frozen; have hkt := Kt.appended (m := w.heap.size + 2) (v' := Value.slice (some ⟨g', 0, none⟩) (pre.length + 1) cap') hv (by decide) (by decide) hrow hgrow)
    refine ⟨hk2.from _, hkt, ⟨⟨_, hv2, by first | (rw [HM.out, ecells_append, List.length_append, List.length_singleton]; exact hr2) | (rw [HM.out, ecells_append, List.length_append, List.length_singleton]; exact ⟨hr2, trivial⟩)⟩, hB.trans hb2, Nat.le_trans i3 hb2.size⟩⟩
  case done =>
    rintro D ys W hD hys ⟨⟨v, hv, hrow, _⟩, hB, i3⟩ hK
    have hyl : ys.length = L.length := by have := congrArg List.length hys; simpa using this
    rw [hys, hyl] at hrow
    have hc := hv.cell
    gi_wp2
    refine ⟨by simp, .inl ⟨_, _, rfl, run_takeDeferred hK, ?_⟩⟩
    have hsl : ∃ a c, v = .slice a L.length c := by
      rcases hrow.2 with ⟨rfl, e⟩ | ⟨g, cap, cur, rfl, _⟩
      · exact ⟨none, 0, by rw [e]⟩
      · exact ⟨_, _, rfl⟩
    obtain ⟨a, c, rfl⟩ := hsl
    exact ⟨_, results_tmp rfl _ _ _, a, c, rfl, ownsRow_putObj hrow _ hK rfl, hB.trans (belowK_b (w := w) (Nat.le_refl _) W D _ _ (by omega) hK rfl rfl)⟩
  case stop =>
    rintro D c pre W _ _ h _
    exact h.elim
theorem lall_calls {w : World} {b : Nat} {L : List En} {room : Nat} (h : TB w b L room) :
    Calls Try.prog 20 #[.pointer (some ⟨b, 0, none⟩)] w fun e w' => ∃ a c, e = .returned (.slice a L.length c) ∧ w'.ownsRow w.heap.size 65 4 (.slice a L.length c) L.length (ecells L) ∧ Below w.heap.size w w' :=
  callsIn_wide.1 (lall_in h)
set_option maxRecDepth 100000 in
set_option maxHeartbeats 4000000 in
theorem lall_nil_in (w : World) :
    CallsIn Fence.wide 3 Try.prog 20 #[.pointer none] w fun e w' => ∃ a c, e = .returned (.slice a 0 c) ∧ Below w.heap.size w w' := by
  obtain ⟨i0, hi, hz0, hz1, hz2⟩ := info_parts info_ent
  refine callsIn_of_wp_marks Try.func20 rfl trivial ?_ rfl
  simp only [Try.ntmps20, List.size_toArray, List.length_cons, List.length_nil, Nat.reduceAdd, Nat.reduceSub, Array.replicate_succ, Array.replicate_zero, List.push_toArray, List.append_toArray, List.nil_append, List.cons_append]
  gi_wp2_with (refine ⟨trivial, ?_⟩; gi_at_call 25; refine (all_in _ _ _ rfl rfl).mono ?_; rintro e w' ⟨rfl, rfl⟩)
  have kK := (Boxed.new w 38 (.slice none 0 0)).alloc (.cells #[.pointer none] 26)
  have kP := bk_new (w.alloc (.cells #[.slice none 0 0] 38)) #[.pointer none] 26
  rw [World.size_alloc] at kP
  have hB0 : Below w.heap.size w ((w.alloc (.cells #[.slice none 0 0] 38)).alloc (.cells #[.pointer none] 26)) :=
    ((Below.refl _ w).alloc (Nat.le_refl _) _).alloc (by simp) _
  have hsz : ((w.alloc (.cells #[.slice none 0 0] 38)).alloc (.cells #[.pointer none] 26)).heap.size = w.heap.size + 2 := by simp
  obtain ⟨W0, hW0⟩ : ∃ W0, (w.alloc (.cells #[.slice none 0 0] 38)).alloc (.cells #[.pointer none] 26) = W0 := ⟨_, rfl⟩
  rw [hW0] at kK kP hB0 hsz ⊢
  clear hW0
  refine wpIn_rangeFunc_ownH (α := { x : En // x ∈ ([] : List En) }) rfl (by omega) (gf := 31) (lb := #[.pointer (some ⟨w.heap.size + 1, 0, none⟩)]) rfl trivial (enters_of Try.func31 (by kernel_rfl) rfl)
    (all_stops_none (3 - 1) (by omega) (w.heap.size + 1) W0 (by omega) (kP.cell 0 _ rfl)) Kt.trans Kt.put (Below.refl _ _) (fun _ => rfl)
    (fun pre W => (∃ v, Boxed W w.heap.size 38 v ∧ W.ownsRow w.heap.size 65 4 v pre.length (ecells (pre.map (·.1))) ∧ True) ∧ Below w.heap.size w W ∧ w.heap.size + 2 ≤ W.heap.size)
    (fun _ _ _ => False)
    (OwnFrom.and (Own.from (holdsRow_own w.heap.size w.heap.size 38 65 4 (fun (pre : List { x : En // x ∈ ([] : List En) }) => pre.length) (fun pre => ecells (pre.map (·.1))) (fun _ _ => True)) _) (OwnFrom.and (ownFrom_below (by omega) (Nat.le_refl _)) (fun _ X Y row hs hg _ => Nat.le_trans hs hg.size)))
    (fun _ _ _ _ _ hs _ _ => hs)
    ⟨⟨_, kK, World.ownsRow_nil _ _ _ _, trivial⟩, hB0, by omega⟩
    (fun x a' W => ∃ Bx, w.heap.size + 2 ≤ Bx ∧ BK W Bx #[.int .i64 x.1.1.1, .int .i64 x.1.1.2.1, .int .i64 x.1.1.2.2] 24 ∧ a' = { tmps := #[.pointer none, undef, .slice none 0 0, .pointer (some ⟨w.heap.size, 0, none⟩), .pointer (some ⟨Bx, 0, none⟩), .int .i64 x.1.2, .pointer none, .func (.func 31) #[] #[.pointer (some ⟨w.heap.size + 1, 0, none⟩)], keyV x.1.1, .int .i64 x.1.2, undef, undef, undef, undef, undef, undef, undef], defers := [] })
    (fun x a' u X Y row hs hgr hr => by
      obtain ⟨Bx, h1, h2, h3⟩ := hs
      exact ⟨Bx, h1, (Own.from (bk_own (β := Unit) Bx _ (fun _ => _)) _) () X Y row h2 hgr hr, h3⟩) ?assign ?body ?done ?stop
  case assign =>
    rintro l pre x W K ⟨⟨v, i1, i4, _⟩, i2, i3⟩ hK
    gi_wp2
    exact hK _ _ ((KeepsOthers.alloc _ _).from _) (Kt.of (below_box W _) (Nat.le_refl _)) ⟨⟨v, i1.alloc _, i4.alloc _, trivial⟩, i2.trans ((below_box W _).mono i2.size), by simp; omega⟩ ⟨W.heap.size, i3, bk_new W _ _, rfl⟩
  case body =>
    rintro l pre x a' W hl _ _ _ _
    exact absurd x.2 (by simp)
  case done =>
    rintro D ys W hD hys ⟨⟨v, hv, hrow, _⟩, hB, i3⟩ hK
    have hyl : ys.length = 0 := by have := congrArg List.length hys; simpa using this
    rw [hys, hyl] at hrow
    have hc := hv.cell
    gi_wp2
    refine ⟨by simp, .inl ⟨_, _, rfl, run_takeDeferred hK, ?_⟩⟩
    have hsl : ∃ a c, v = .slice a 0 c := by
      rcases hrow.2 with ⟨rfl, e⟩ | ⟨g, cap, cur, rfl, _⟩
      · exact ⟨none, 0, rfl⟩
      · exact ⟨_, _, rfl⟩
    obtain ⟨a, c, rfl⟩ := hsl
    exact ⟨_, results_tmp rfl _ _ _, a, c, rfl, hB.trans (belowK_b (w := w) (Nat.le_refl _) W D _ _ (by omega) hK rfl rfl)⟩
  case stop =>
    rintro D c pre W _ _ h _
    exact h.elim
theorem lall_nil (w : World) : Calls Try.prog 20 #[.pointer none] w fun e w' => ∃ a c, e = .returned (.slice a 0 c) ∧ Below w.heap.size w w' := callsIn_wide.1 (lall_nil_in w)
end Go.Proofs.Ytgimmaancnlbcaa
