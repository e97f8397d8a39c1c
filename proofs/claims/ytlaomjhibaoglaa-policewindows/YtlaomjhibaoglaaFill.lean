/- Proved here: what a policer's fill leaves in the buckets of the rules that a cell asks. Conditions: as each theorem states them. -/
import Derived.Test.YtlaomjhibaoglaaJudge
namespace Go.Proofs.Ytlaomjhibaoglaa
set_option linter.unusedSimpArgs false
set_option linter.unusedVariables false
open Go.RowKit Go.Shelf
attribute [local go_sem] Oper.semAt_some

/-- What a rule's bucket keeps when rules' buckets took a cell at t, one behind the other. -/
def aft (t : Int) (x : Lim) (M : List Lim) : Int := M.foldl (fun T y => bif y.b == x.b then stepT x.s x.e T t else T) x.T
theorem aft_nil (t : Int) (x : Lim) : aft t x [] = x.T := rfl
theorem aft_same (t : Int) {x y : Lim} (M : List Lim) (h : y.b = x.b) : aft t x (M ++ [y]) = stepT x.s x.e (aft t x M) t := by simp [aft, h]
theorem aft_other (t : Int) {x y : Lim} (M : List Lim) (h : y.b ≠ x.b) : aft t x (M ++ [y]) = aft t x M := by simp [aft, beq_eq_false_iff_ne.2 h]
theorem aft_bound (t : Int) {x : Lim} (h0 : 0 ≤ x.T) (h1 : x.T ≤ 3458764513820540928) (M : List Lim) : 0 ≤ aft t x M ∧ aft t x M ≤ 3458764513820540928 := by
  have key : ∀ (M : List Lim) (T : Int), 0 ≤ T → T ≤ 3458764513820540928 → 0 ≤ M.foldl (fun T y => bif y.b == x.b then stepT x.s x.e T t else T) T ∧ M.foldl (fun T y => bif y.b == x.b then stepT x.s x.e T t else T) T ≤ 3458764513820540928 := by
    intro M
    induction M with
    | nil => intro T a b; exact ⟨a, b⟩
    | cons y M ih =>
      intro T a b
      rw [List.foldl_cons]
      cases hb : (y.b == x.b)
      · exact ih T a b
      · obtain ⟨c, d⟩ := stepT_bound (s := x.s) (e := x.e) (t := t) a b
        exact ih _ c d
  exact key M x.T h0 h1
/-- A rule, when a cell at t that may ask it was taken. -/
def fillL (t c : Int) (x : Lim) : Lim := bif asks c x then { x with T := stepT x.s x.e x.T t } else x
theorem fillL_b (t c : Int) (x : Lim) : (fillL t c x).b = x.b := by unfold fillL; cases asks c x <;> rfl
theorem fillL_z (t c : Int) (x : Lim) : (fillL t c x).z = x.z := by unfold fillL; cases asks c x <;> rfl
theorem fillL_g (t c : Int) (x : Lim) : (fillL t c x).g = x.g := by unfold fillL; cases asks c x <;> rfl
theorem fillL_s (t c : Int) (x : Lim) : (fillL t c x).s = x.s := by unfold fillL; cases asks c x <;> rfl
theorem fillL_e (t c : Int) (x : Lim) : (fillL t c x).e = x.e := by unfold fillL; cases asks c x <;> rfl
theorem aft_asked (t c : Int) {L : List Lim} {x : Lim} (hn : (L.map (·.b)).Nodup) (hx : x ∈ L) : aft t x (askedL c L) = (fillL t c x).T := by
  have other : ∀ (M : List Lim) (T : Int), (∀ y ∈ M, y.b ≠ x.b) → M.foldl (fun T y => bif y.b == x.b then stepT x.s x.e T t else T) T = T := by
    intro M
    induction M with
    | nil => intro T _; rfl
    | cons y M ih =>
      intro T h
      rw [List.foldl_cons, beq_eq_false_iff_ne.2 (h y (List.mem_cons_self ..))]
      exact ih T (fun z hz => h z (List.mem_cons_of_mem _ hz))
  obtain ⟨A, B, rfl⟩ := List.append_of_mem hx
  rw [List.map_append, List.map_cons] at hn
  have hA : ∀ y ∈ A, y.b ≠ x.b := fun y hy e => by
    have := (List.nodup_append.1 hn).2.2 y.b (List.mem_map.2 ⟨y, hy, rfl⟩) x.b (List.mem_cons_self ..)
    exact this e
  have hB : ∀ y ∈ B, y.b ≠ x.b := fun y hy e => by
    have := (List.nodup_cons.1 (List.nodup_append.1 hn).2.1).1
    exact this (List.mem_map.2 ⟨y, hy, e⟩)
  unfold aft askedL
  rw [List.filter_append, List.filter_cons, List.foldl_append, other _ _ (fun y hy => hA y (List.mem_filter.1 hy).1)]
  unfold fillL
  cases ha : asks c x
  · simp only [Bool.false_eq_true, if_false, cond_false]
    exact other _ _ (fun y hy => hB y (List.mem_filter.1 hy).1)
  · simp only [if_true, List.foldl_cons, beq_self_eq_true, cond_true]
    exact other _ _ (fun y hy => hB y (List.mem_filter.1 hy).1)

theorem inj_of_nd {L : List Lim} (hn : (L.map (·.b)).Nodup) {x y : Lim} (hx : x ∈ L) (hy : y ∈ L) (h : y.b = x.b) : y = x := by
  obtain ⟨A, B, rfl⟩ := List.append_of_mem hx
  rw [List.map_append, List.map_cons] at hn
  rcases List.mem_append.1 hy with hy | hy
  · exact absurd h ((List.nodup_append.1 hn).2.2 y.b (List.mem_map.2 ⟨y, hy, rfl⟩) x.b (List.mem_cons_self ..))
  · rcases List.mem_cons.1 hy with rfl | hy
    · rfl
    · exact absurd (List.mem_map.2 ⟨y, hy, h⟩) (List.nodup_cons.1 (List.nodup_append.1 hn).2.1).1

/-- The rules as they lie when cells of their buckets alone have changed. -/
theorem PR.filled {r g cap n : Nat} {L : List Lim} {w w' : World} (h : PR w r g cap L) (f : Lim → Lim) (hb : ∀ x, (f x).b = x.b) (hz : ∀ x, (f x).z = x.z) (hg : ∀ x, (f x).g = x.g)
    (hB : Buts (L.map (·.b)) n w w') (hn : w.heap.size ≤ n) (hk : ∀ x ∈ L, BC w' x.b (f x).s (f x).e (f x).T ∧ 0 ≤ (f x).T ∧ (f x).T ≤ 3458764513820540928) : PR w' r g cap (L.map f) := by
  have hgn : g ∉ L.map (·.b) := fun e => by obtain ⟨x, hx, e⟩ := List.mem_map.1 e; exact (h.ne x hx).1 e
  have hrn : r ∉ L.map (·.b) := fun e => by obtain ⟨x, hx, e⟩ := List.mem_map.1 e; exact (h.ne x hx).2 e
  have hc : ∀ (b k : Nat), b < n → b ∉ L.map (·.b) → w'.cell? ⟨b, k, none⟩ = w.cell? ⟨b, k, none⟩ := fun b k h1 h2 => by unfold World.cell?; rw [show w'.heap[(⟨b, k, none⟩ : Addr).block]? = w.heap[b]? from hB.block b h1 h2]
  have h1 := h.rlt
  have h2 := h.glt
  refine ⟨by rw [List.length_map]; exact (hc r 0 (by omega) hrn).trans h.sl, Nat.lt_of_lt_of_le h.rlt hB.size, Nat.lt_of_lt_of_le h.glt hB.size, ?_, by rw [List.length_map]; exact h.len, h.gr, ?_, ?_, ?_⟩
  · intro j y hy
    rw [List.getElem?_map] at hy
    obtain ⟨x, hx, rfl⟩ := Option.map_eq_some_iff.1 hy
    obtain ⟨a1, a2, a3⟩ := h.lim j x hx
    rw [hb, hz, hg]
    exact ⟨(hc g _ (by omega) hgn).trans a1, (hc g _ (by omega) hgn).trans a2, (hc g _ (by omega) hgn).trans a3⟩
  · intro y hy
    obtain ⟨x, hx, rfl⟩ := List.mem_map.1 hy
    rw [hb]; exact h.ne x hx
  · rw [List.map_map, show ((·.b) ∘ f : Lim → Nat) = (·.b) from funext hb]; exact h.nd
  · intro y hy
    obtain ⟨x, hx, rfl⟩ := List.mem_map.1 hy
    rw [hb]; exact hk x hx

theorem run_take (b : Nat) (w : World) : (method 187 55 (.pointer (some ⟨b, 0, none⟩)) "Take").run Try.prog w = .ok (42, .pointer (some ⟨b, 0, none⟩)) w := by kernel_rfl

set_option maxRecDepth 100000 in
set_option maxHeartbeats 2000000 in
theorem fill_in (r g cap : Nat) (L : List Lim) (t clp : Int) (w : World) (h : PR w r g cap L) :
    CallsIn Fence.wide 3 Try.prog 21 #[.pointer (some ⟨r, 0, none⟩), .int .i64 t, .int .i64 clp] w fun e W' => (∃ v, e = .returned v) ∧ (∀ x ∈ L, BC W' x.b x.s x.e (aft t x (askedL clp L))) ∧ Buts (L.map (·.b)) w.heap.size w W' := by
  refine callsIn_of_wp_marks Try.func21 rfl trivial ?_ rfl
  simp only [Try.ntmps21, List.size_toArray, List.length_cons, List.length_nil, Nat.reduceAdd, Nat.reduceSub, Array.replicate_succ, Array.replicate_zero, List.push_toArray, List.append_toArray, List.nil_append, List.cons_append]
  gi_wp2_with (refine ⟨trivial, ?_⟩; gi_at_call 22; refine (asked_in _ _ _ _).mono ?_; rintro e w' ⟨rfl, rfl⟩)
  obtain ⟨W0, hW0⟩ : ∃ W0, (((w.alloc (.cells #[.int .i64 t] 3)).alloc (.cells #[.pointer (some ⟨r, 0, none⟩)] 26)).alloc (.cells #[.int .i64 clp] 3)) = W0 := ⟨_, rfl⟩
  have b1 := ((Boxed.new w 3 (.int .i64 t)).alloc (.cells #[.pointer (some ⟨r, 0, none⟩)] 26)).alloc (.cells #[.int .i64 clp] 3)
  have b3 := (Boxed.new (w.alloc (.cells #[.int .i64 t] 3)) 26 (.pointer (some ⟨r, 0, none⟩))).alloc (.cells #[.int .i64 clp] 3)
  have b4 := Boxed.new ((w.alloc (.cells #[.int .i64 t] 3)).alloc (.cells #[.pointer (some ⟨r, 0, none⟩)] 26)) 3 (.int .i64 clp)
  simp only [World.size_alloc] at b1 b3 b4
  have hB0 : Below w.heap.size w (((w.alloc (.cells #[.int .i64 t] 3)).alloc (.cells #[.pointer (some ⟨r, 0, none⟩)] 26)).alloc (.cells #[.int .i64 clp] 3)) :=
    (((Below.refl _ w).alloc (Nat.le_refl _) _).alloc (by simp) _).alloc (by simp; omega) _
  have hsz : W0.heap.size = w.heap.size + 3 := by rw [← hW0]; simp
  rw [hW0] at b1 b3 b4 hB0 ⊢
  clear hW0
  have hP := h.below hB0 (Nat.le_refl _)
  have hg := h.glt
  have hq := hP.sl
  have b3c := b3.cell
  have b4c := b4.cell
  refine wpIn_rangeFunc_ownH (α := { x : Lim // x ∈ askedL clp L }) rfl (by omega) (gf := 24) (lb := #[.pointer (some ⟨w.heap.size + 1, 0, none⟩), .pointer (some ⟨w.heap.size + 1 + 1, 0, none⟩)]) rfl trivial (enters_of Try.func24 (by kernel_rfl) rfl)
    (asked_stops (3 - 1) (by omega) (w.heap.size + 1) (w.heap.size + 1 + 1) r g cap L clp h.len W0 (by omega) (by omega) (by have := h.rlt; omega) (by omega) b3c b4c hq hP.lim) Kp.trans (Kp.put (by omega) (by omega)) (Below.refl _ _) (fun _ => rfl)
    (fun pre W => (Boxed W w.heap.size 3 (.int .i64 t) ∧ ∀ x ∈ L, BK W x.b #[.int .i64 x.s, .int .i64 x.e, .int .i64 (aft t x (pre.map (·.1)))] 68) ∧ Buts (L.map (·.b)) w.heap.size w W ∧ w.heap.size + 3 ≤ W.heap.size)
    (fun _ _ _ => False)
    (OwnFrom.and (OwnFrom.and (Own.from (boxed_own _ _ _) _) (Own.from (own_all L _ (fun x => bk_own x.b _ _)) _)) (OwnFrom.and (ownFrom_buts (by omega) (Nat.le_refl _)) (fun _ X Y row hs hg _ => Nat.le_trans hs hg.size)))
    (fun _ _ _ _ _ hs _ _ => hs)
    ⟨⟨b1, fun x hx => (hP.bk x hx).1⟩, Buts.of hB0, by omega⟩
    (fun x a' W => ∃ Bx, w.heap.size + 3 ≤ Bx ∧ BK W Bx #[.iface 55 (.pointer (some ⟨x.1.b, 0, none⟩)), .bool x.1.z, .bool x.1.g] 60 ∧ a' = { tmps := #[.pointer (some ⟨r, 0, none⟩), .int .i64 t, .int .i64 clp, undef, .pointer (some ⟨w.heap.size, 0, none⟩), undef, .pointer (some ⟨Bx, 0, none⟩),
      .pointer (some ⟨r, 0, none⟩), .int .i64 clp, .func (.func 24) #[] #[.pointer (some ⟨w.heap.size + 1, 0, none⟩), .pointer (some ⟨w.heap.size + 1 + 1, 0, none⟩)], limV x.1.b x.1.z x.1.g, undef, undef, undef, undef], defers := [] })
    (fun x a' u X Y row hs hgr hr => by
      obtain ⟨Bx, h1, h2, h3⟩ := hs
      exact ⟨Bx, h1, (Own.from (bk_own (β := Unit) Bx _ (fun _ => _)) _) () X Y row h2 hgr hr, h3⟩) ?assign ?body ?done ?stop
  case assign =>
    rintro l pre x W K ⟨⟨i1, i3⟩, i4, i5⟩ hK
    gi_wp2
    exact hK _ _ ((KeepsOthers.alloc _ _).from _) (Kp.of ((Below.refl _ W).alloc (Nat.le_refl _) _) (by omega) (by omega)) ⟨⟨i1.alloc _, fun x hx => (i3 x hx).alloc _⟩, i4.trans (Buts.of ((Below.refl _ W).alloc (by omega) _)), by simp; omega⟩ ⟨W.heap.size, i5, bk_new W _ _, rfl⟩
  case body =>
    rintro l pre x a' W hl _ ⟨⟨i1, i3⟩, i4, i5⟩ ⟨Bx, hBx, bX, rfl⟩ _
    obtain ⟨⟨b, z, gt, s, e, T⟩, hx⟩ := x
    have hxL : (⟨b, z, gt, s, e, T⟩ : Lim) ∈ L := (List.mem_filter.1 hx).1
    obtain ⟨C, T0, T1⟩ := h.bk _ hxL
    obtain ⟨A0, A1⟩ := aft_bound t T0 T1 (pre.map (·.1))
    have C1 : BC W b s e _ := i3 _ hxL
    have bn0 : b < w.heap.size := C.lt
    have hbg : b ≠ g := (h.ne _ hxL).1
    have htake := take_calls b s e _ t W C1 A0 A1
    have HS : Hid (∀ y ∈ L, y.b = b → aft t y ((pre ++ [(⟨⟨b, z, gt, s, e, T⟩, hx⟩ : { x : Lim // x ∈ askedL clp L })]).map (·.1)) = stepT s e (aft t ⟨b, z, gt, s, e, T⟩ (pre.map (·.1))) t ∧ y.s = s ∧ y.e = e) := by
      intro y hy e'
      obtain rfl := inj_of_nd h.nd hxL hy e'
      rw [List.map_append]
      exact ⟨aft_same t _ rfl, rfl, rfl⟩
    have HO : Hid (∀ y ∈ L, y.b ≠ b → aft t y ((pre ++ [(⟨⟨b, z, gt, s, e, T⟩, hx⟩ : { x : Lim // x ∈ askedL clp L })]).map (·.1)) = aft t y (pre.map (·.1))) := by
      intro y hy e'
      rw [List.map_append]
      exact aft_other t _ (fun e2 => e' e2.symm)
    have k1 := i1.cell
    have x0 := bX.cell 0 _ rfl
    have hm := run_take b
    have I3 : Hid (∀ x ∈ L, BK W x.b #[.int .i64 x.s, .int .i64 x.e, .int .i64 (aft t x (pre.map (·.1)))] 68) := i3
    generalize aft t ⟨b, z, gt, s, e, T⟩ (pre.map (·.1)) = A at *
    clear i3 C T0 T1 A0 A1
    gi_wp2_with (refine ⟨trivial, ?_⟩; gi_at_call 42; refine (CallsIn.inRound l (callsIn_wide.2 htake)).mono ?_; clear htake; rintro e1 w1 ⟨rfl, C2, q1⟩)
    refine ⟨keepsFrom_but q1 (Nat.le_refl _) C1, ⟨q1.size, q1.block g (by omega) (fun e => hbg e.symm), q1.block _ (by omega) (by omega)⟩, ⟨Boxed.but' i1 q1 i1.lt (by omega), ?_⟩, i4.trans (Buts.ofBut (q1.mono (by omega)) (List.mem_map.2 ⟨_, hxL, rfl⟩)), by have := q1.size; omega⟩
    intro y hy
    by_cases hyb : y.b = b
    · obtain ⟨e1, e2, e3⟩ := HS.out y hy hyb
      rw [e1, e2, e3, hyb]; exact C2
    · rw [HO.out y hy hyb]
      exact (I3.out y hy).but q1 (I3.out y hy).lt hyb
  case done =>
    rintro D ys W hD hys ⟨⟨i1, i3⟩, hB, _⟩ hK
    rw [hys] at i3
    gi_wp2
    refine ⟨by simp, .inl ⟨_, _, rfl, run_takeDeferred hK, ?_⟩⟩
    refine ⟨_, results_none rfl _ _ _, ⟨_, rfl⟩, fun x hx => ?_, hB.put (by omega) hK⟩
    have := (h.bk x hx).1.lt
    exact (World.putObj_heap_other (by omega)).trans (i3 x hx)
  case stop =>
    rintro D c pre W _ _ h _
    exact h.elim

theorem fill_calls (r g cap : Nat) (L : List Lim) (t clp : Int) (w : World) (h : PR w r g cap L) :
    Calls Try.prog 21 #[.pointer (some ⟨r, 0, none⟩), .int .i64 t, .int .i64 clp] w fun e W' => (∃ v, e = .returned v) ∧ PR W' r g cap (L.map (fillL t clp)) ∧ Buts (L.map (·.b)) w.heap.size w W' := by
  refine (callsIn_wide.1 (fill_in r g cap L t clp w h)).mono ?_
  rintro e w' ⟨he, hb, hB⟩
  refine ⟨he, h.filled (fillL t clp) (fillL_b t clp) (fillL_z t clp) (fillL_g t clp) hB (Nat.le_refl _) (fun x hx => ?_), hB⟩
  have hB2 := hb x hx
  rw [aft_asked t clp h.nd hx] at hB2
  rw [fillL_s, fillL_e]
  refine ⟨hB2, ?_⟩
  rw [← aft_asked t clp h.nd hx]
  exact aft_bound t (h.bk x hx).2.1 (h.bk x hx).2.2 _
end Go.Proofs.Ytlaomjhibaoglaa
