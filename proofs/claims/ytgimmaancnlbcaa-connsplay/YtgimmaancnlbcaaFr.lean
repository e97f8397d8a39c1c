/- Proved here: what conns.Free answers. Conditions: as each theorem states them. -/
import Derived.Test.YtgimmaancnlbcaaIt
namespace Go.Proofs.Ytgimmaancnlbcaa
set_option linter.unusedSimpArgs false
set_option linter.unusedVariables false
open Go.RowKit Go.Shelf
attribute [local go_sem] Oper.semAt_some

/-- The channel, as entries are gone through. -/
def frF (p q v : Int) (L : List En) : Int := L.foldl (fun V x => if x.1 = (p, q, V) then V + 1 else V) v
theorem frF_snoc (p q v : Int) (L : List En) (x : En) : frF p q v (L ++ [x]) = if x.1 = (p, q, frF p q v L) then frF p q v L + 1 else frF p q v L := by
  unfold frF; rw [List.foldl_append]; rfl
/-- What Free answers. -/
def freeN (L : List En) (p q f : Int) : Int := if rightK (p, q, frF p q (max f 0) L) then frF p q (max f 0) L else 0
def freeB (L : List En) (p q f : Int) : Bool := rightK (p, q, frF p q (max f 0) L)

theorem bk_own {β : Type} (b : Nat) (t : TypeId) (f : β → Array Value) : Own (fun s W => BK W b (f s) t) := fun s X Y row hs hg hrow =>
  (hg.block b (BK.lt hs) (fun e' => by obtain ⟨o, ho, hc⟩ := hrow b e'.symm; rw [show X.heap[b]? = _ from hs] at ho; cases ho; cases hc)).trans hs
theorem ownFrom_below {β : Type} {n m : Nat} {w : World} (hn : n ≤ m) (hw : n ≤ w.heap.size) : OwnFrom m (fun (_ : β) W => Below n w W) :=
  fun _ X Y row hs hg hr => hs.trans ⟨hg.os, hg.tape, hg.output, hg.size, fun k hk => hg.block k (by have := hs.size; omega) (fun e => by have := (hr k e.symm).1; omega)⟩
theorem keepsFrom_but {r n m : Nat} {W W' : World} {vs : Array Value} {t : TypeId} (h : But r n W W') (hn : W.heap.size ≤ n) (hr : BK W r vs t) : KeepsFrom m W W' :=
  ⟨h.size, fun k o _ hk ho => (h.block k (by have := (Array.getElem?_eq_some_iff.1 hk).1; omega) (fun e => by subst e; rw [show W.heap[k]? = _ from hr] at hk; cases hk; cases ho)).trans hk⟩
theorem keepsFrom_below {n m : Nat} {W W' : World} (h : Below n W W') (hn : W.heap.size ≤ n) : KeepsFrom m W W' :=
  ⟨h.size, fun k o _ hk _ => (h.block k (by have := (Array.getElem?_eq_some_iff.1 hk).1; omega)).trans hk⟩

set_option maxHeartbeats 400000 in
theorem free_nil (p q f : Int) (w : World) : Calls Try.prog 21 #[.pointer none, .int .i64 p, .int .i64 q, .int .i64 f] w fun e w' => e = .returned (.tuple #[.int .i64 0, .bool false]) ∧ w' = w := by
  go_enter Try.func21, Try.ntmps21
  go_wp2
  go_returns
  exact ⟨rfl, rfl⟩

set_option maxRecDepth 100000 in
set_option maxHeartbeats 4000000 in
theorem free_in {w : World} {b : Nat} {L : List En} {room : Nat} (h : TB w b L room) (p q f : Int) :
    CallsIn Fence.wide 3 Try.prog 21 #[.pointer (some ⟨b, 0, none⟩), .int .i64 p, .int .i64 q, .int .i64 f] w fun e w' => e = .returned (.tuple #[.int .i64 (freeN L p q f), .bool (freeB L p q f)]) ∧ Below w.heap.size w w' := by
  obtain ⟨v0, hv0⟩ : ∃ v0, (if f < 0 then (0 : Int) else f) = v0 := ⟨_, rfl⟩
  have HV : Hid (max f 0 = v0) := by show _ = _; subst hv0; split <;> omega
  refine callsIn_of_wp_marks Try.func21 rfl trivial ?_ rfl
  simp only [Try.ntmps21, List.size_toArray, List.length_cons, List.length_nil, Nat.reduceAdd, Nat.reduceSub, Array.replicate_succ, Array.replicate_zero, List.push_toArray, List.append_toArray, List.nil_append, List.cons_append]
  gi_wp2_with (refine ⟨trivial, ?_⟩; gi_at_call 25; refine (all_in _ _ _ rfl rfl).mono ?_; rintro e w' ⟨rfl, rfl⟩)
  have kK := (bk_new w #[.int .i64 p, .int .i64 q, .int .i64 v0] 24).alloc (.cells #[.pointer (some ⟨b, 0, none⟩)] 26)
  have kP := bk_new (w.alloc (.cells #[.int .i64 p, .int .i64 q, .int .i64 v0] 24)) #[.pointer (some ⟨b, 0, none⟩)] 26
  rw [World.size_alloc] at kP
  have hB0 : Below w.heap.size w ((w.alloc (.cells #[.int .i64 p, .int .i64 q, .int .i64 v0] 24)).alloc (.cells #[.pointer (some ⟨b, 0, none⟩)] 26)) :=
    ((Below.refl _ w).alloc (Nat.le_refl _) _).alloc (by simp) _
  have hsz : ((w.alloc (.cells #[.int .i64 p, .int .i64 q, .int .i64 v0] 24)).alloc (.cells #[.pointer (some ⟨b, 0, none⟩)] 26)).heap.size = w.heap.size + 2 := by simp
  obtain ⟨W0, hW0⟩ : ∃ W0, (w.alloc (.cells #[.int .i64 p, .int .i64 q, .int .i64 v0] 24)).alloc (.cells #[.pointer (some ⟨b, 0, none⟩)] 26) = W0 := ⟨_, rfl⟩
  rw [hW0] at kK kP hB0 hsz ⊢
  clear hW0
  have hT0 := h.below hB0 h.lt
  have hok := h.ok
  refine wpIn_rangeFunc_ownH (α := { x : En // x ∈ L }) rfl (by omega) (gf := 31) (lb := #[.pointer (some ⟨w.heap.size + 1, 0, none⟩)]) rfl trivial (enters_of Try.func31 (by kernel_rfl) rfl)
    (all_stops (3 - 1) (by omega) (w.heap.size + 1) b L room W0 (by omega) (kP.cell 0 _ rfl) hT0) Kt.trans Kt.put (Below.refl _ _) (fun _ => rfl)
    (fun pre W => BK W w.heap.size #[.int .i64 p, .int .i64 q, .int .i64 (frF p q v0 (pre.map (·.1)))] 24 ∧ Below w.heap.size w W ∧ w.heap.size + 2 ≤ W.heap.size)
    (fun _ _ _ => False)
    (OwnFrom.and (Own.from (bk_own _ _ _) _) (OwnFrom.and (ownFrom_below (by omega) (Nat.le_refl _)) (fun _ X Y row hs hg _ => Nat.le_trans hs hg.size)))
    (fun _ _ _ _ _ hs _ _ => hs)
    ⟨kK, hB0, by omega⟩
    (fun x a' W => ∃ Bx, w.heap.size + 2 ≤ Bx ∧ BK W Bx #[.int .i64 x.1.1.1, .int .i64 x.1.1.2.1, .int .i64 x.1.1.2.2] 24 ∧ a' = { tmps := #[.pointer (some ⟨b, 0, none⟩), .int .i64 p, .int .i64 q, .int .i64 f, undef, undef, undef, undef, .int .i64 0, .bool false, .pointer (some ⟨w.heap.size, 0, none⟩), .pointer (some ⟨Bx, 0, none⟩), .pointer (some ⟨b, 0, none⟩), .bool false, .int .i64 p, .int .i64 q, .int .i64 f, .int .i64 v0, .agg #[.int .i64 p, .int .i64 q, .int .i64 v0], .pointer (some ⟨b, 0, none⟩), .func (.func 31) #[] #[.pointer (some ⟨w.heap.size + 1, 0, none⟩)], keyV x.1.1, .int .i64 x.1.2, undef, undef, undef, undef, undef, undef, undef, undef, undef, undef, undef, undef], defers := [] })
    (fun x a' u X Y row hs hgr hr => by
      obtain ⟨Bx, h1, h2, h3⟩ := hs
      exact ⟨Bx, h1, (Own.from (bk_own (β := Unit) Bx _ (fun _ => _)) _) () X Y row h2 hgr hr, h3⟩) ?assign ?body ?done ?stop
  case assign =>
    rintro l pre x W K ⟨i1, i2, i3⟩ hK
    gi_wp2
    exact hK _ _ ((KeepsOthers.alloc _ _).from _) (Kt.of (below_box W _) (Nat.le_refl _)) ⟨i1.alloc _, i2.trans ((below_box W _).mono i2.size), by simp; omega⟩ ⟨W.heap.size, i3, bk_new W _ _, rfl⟩
  case body =>
    rintro l pre x a' W hl _ ⟨i1, i2, i3⟩ ⟨Bx, hBx, bX, rfl⟩ _
    have hsn := frF_snoc p q v0 (pre.map (·.1)) x.1
    have HM : Hid ((pre ++ [x]).map (·.1) = pre.map (·.1) ++ [x.1]) := List.map_append
    have hrt := hok.rig _ x.2
    generalize frF p q v0 (pre.map (·.1)) = V at *
    have k0 := i1.cell 0 _ rfl
    have k1 := i1.cell 1 _ rfl
    have k2 := i1.cell 2 _ rfl
    have fz := i1.frozen 2
    have x0 := bX.cell 0 _ rfl
    have x1 := bX.cell 1 _ rfl
    have x2 := bX.cell 2 _ rfl
    have hq := eql_key x.1.1 (p, q, V)
    by_cases he : x.1.1 = (p, q, V)
    · rw [decide_eq_true he] at hq
      rw [if_pos he] at hsn
      have HS : Hid (frF p q v0 (pre.map (·.1) ++ [x.1]) = V + 1) := hsn
      have hV : V ≤ 65535 ∧ 0 ≤ V := by
        rw [he] at hrt
        have := (rightK_iff _).1 hrt
        exact ⟨this.2.2.2, this.2.2.1⟩
      have hw : IntKind.i64.wrap (V + 1) = V + 1 := by rw [IntKind.wrap_i64]; omega
      obtain ⟨hV1, hV0⟩ := hV
      clear he hsn
      gi_wp2
      have hB : But w.heap.size W.heap.size W (W.setCell ⟨w.heap.size, 2, none⟩ (.int .i64 (V + 1))) := (But.refl w.heap.size W.heap.size W).set (p := ⟨w.heap.size, 2, none⟩) rfl _
      exact ⟨keepsFrom_but hB (Nat.le_refl _) i1, Kt.other hB (Nat.le_refl _) i1 (by decide), by rw [HM.out, HS.out]; exact i1.set 2 _, i2.trans (hB.below i2.size (Nat.le_refl _)), by simp; omega⟩
    · rw [decide_eq_false he] at hq
      rw [if_neg he] at hsn
      have HS : Hid (frF p q v0 (pre.map (·.1) ++ [x.1]) = V) := hsn
      clear he hsn
      gi_wp2
      exact ⟨KeepsFrom.refl _ _, ⟨Nat.le_refl _, fun _ _ _ h => h⟩, by rw [HM.out, HS.out]; exact i1, i2, i3⟩
  case done =>
    rintro D ys W hD hys ⟨i1, i2, i3⟩ hK
    rw [hys] at i1
    have k0 := i1.cell 0 _ rfl
    have k1 := i1.cell 1 _ rfl
    have k2 := i1.cell 2 _ rfl
    have HF : Hid (∀ V, frF p q v0 L = V → freeB L p q f = rightK (p, q, V) ∧ freeN L p q f = if rightK (p, q, V) then V else 0) := by
      intro V hV
      unfold freeB freeN
      rw [HV.out, hV]
      exact ⟨rfl, rfl⟩
    obtain ⟨V, hVV⟩ : ∃ V, frF p q v0 L = V := ⟨_, rfl⟩
    have HF2 := HF.out V hVV
    rw [hVV] at k2
    clear hys i1 HF hVV
    have hD2 : D < W.heap.size := (Array.getElem?_eq_some_iff.1 hK).1
    have hkk : ∀ w1, Below W.heap.size W w1 → w1.cell? ⟨w.heap.size, 2, none⟩ = some (.int .i64 V) := fun w1 b1 => (b1.cell (p := ⟨w.heap.size, 2, none⟩) (by show w.heap.size < W.heap.size; omega)).trans k2
    cases hr : rightK (p, q, V) with
    | false =>
      rw [hr] at HF2
      have H2 : Hid (freeB L p q f = false ∧ freeN L p q f = 0) := HF2
      clear HF2
      gi_wp2_with (refine ⟨trivial, ?_⟩; gi_at_call 23; refine (callsIn_wide.2 (right_calls (p, q, V) _)).mono ?_; rintro e w1 ⟨rfl, b1⟩; rw [hr]; clear k0 k1 k2)
      have hK1 := (b1.block D hD2).trans hK
      have B1 := i2.trans (b1.mono i2.size)
      refine ⟨by simp, .inl ⟨_, _, rfl, run_takeDeferred hK1, ?_⟩⟩
      refine ⟨.tuple #[.int .i64 0, .bool false], by simp [results, Try.results21, go_sem], ?_, ?_⟩
      · rw [H2.out.1, H2.out.2]
      · exact B1.trans ⟨rfl, rfl, rfl, by simp, fun k hk => World.putObj_heap_other (by omega)⟩
    | true =>
      rw [hr] at HF2
      have H2 : Hid (freeB L p q f = true ∧ freeN L p q f = V) := HF2
      clear HF2
      gi_wp2_with (refine ⟨trivial, ?_⟩; gi_at_call 23; refine (callsIn_wide.2 (right_calls (p, q, V) _)).mono ?_; rintro e w1 ⟨rfl, b1⟩; rw [hr]; have k21 := hkk _ b1; clear k0 k1 k2)
      have hK1 := (b1.block D hD2).trans hK
      have B1 := i2.trans (b1.mono i2.size)
      refine ⟨by simp, .inl ⟨_, _, rfl, run_takeDeferred hK1, ?_⟩⟩
      refine ⟨.tuple #[.int .i64 V, .bool true], by simp [results, Try.results21, go_sem], ?_, ?_⟩
      · rw [H2.out.1, H2.out.2]
      · exact B1.trans ⟨rfl, rfl, rfl, by simp, fun k hk => World.putObj_heap_other (by omega)⟩
  case stop =>
    rintro D c pre W _ _ h _
    exact h.elim
theorem free_calls {w : World} {b : Nat} {L : List En} {room : Nat} (h : TB w b L room) (p q f : Int) :
    Calls Try.prog 21 #[.pointer (some ⟨b, 0, none⟩), .int .i64 p, .int .i64 q, .int .i64 f] w fun e w' => e = .returned (.tuple #[.int .i64 (freeN L p q f), .bool (freeB L p q f)]) ∧ Below w.heap.size w w' :=
  callsIn_wide.1 (free_in h p q f)
end Go.Proofs.Ytgimmaancnlbcaa
