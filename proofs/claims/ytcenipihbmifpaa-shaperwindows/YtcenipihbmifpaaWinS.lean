/- Proved here: what is so of the times of cells that a shaper took, and how a slice of them goes on beside the shaper. Conditions: as each theorem states them. -/
import Derived.Test.YtcenipihbmifpaaAwk
namespace Go.Proofs.Ytcenipihbmifpaa
set_option linter.unusedSimpArgs false
set_option linter.unusedVariables false
open Go.RowKit Go.Shelf

/-- What is so of the times of cells that were taken, and the time from which on one comes in time: each cell raises that by a step at least. -/
structure Win (s e T : Int) (L : List Int) : Prop where
  up : ∀ (i : Nat) (x : Int), L[i]? = some x → x + ((L.length : Int) - (i : Int)) * s ≤ T
  win : ∀ (i k : Nat) (x y : Int), i ≤ k → L[i]? = some x → L[k]? = some y → ((k : Int) - (i : Int)) * s ≤ y - x + e
theorem win_nil (s e T : Int) : Win s e T [] := ⟨fun i x h => (by cases h), fun i k x y _ h _ => (by cases h)⟩
theorem Win.take {s e T : Int} {L : List Int} (h : Win s e T L) {t : Int} (he : 0 ≤ e) (hf : T - e ≤ t) : Win s e (max T t + s) (L ++ [t]) := by
  have key : ∀ i x, (L ++ [t])[i]? = some x → (L[i]? = some x ∧ i < L.length) ∨ (i = L.length ∧ x = t) := by
    intro i x hx
    rcases Nat.lt_trichotomy i L.length with h1 | h1 | h1
    · left; rw [List.getElem?_append_left h1] at hx; exact ⟨hx, h1⟩
    · right; subst h1; simp at hx; exact ⟨rfl, hx.symm⟩
    · rw [List.getElem?_eq_none (by simp; omega)] at hx; cases hx
  constructor
  · intro i x hx
    have hlen : ((L ++ [t]).length : Int) = (L.length : Int) + 1 := by simp
    rw [hlen]
    rcases key i x hx with ⟨h1, _⟩ | ⟨rfl, rfl⟩
    · have := h.up i x h1
      rw [show (L.length : Int) + 1 - (i : Int) = ((L.length : Int) - (i : Int)) + 1 by omega, Int.add_mul, Int.one_mul]
      omega
    · rw [show (L.length : Int) + 1 - (L.length : Int) = 1 by omega, Int.one_mul]; omega
  · intro i k x y hik hx hy
    rcases key i x hx with ⟨h1, l1⟩ | ⟨rfl, rfl⟩
    · rcases key k y hy with ⟨h2, _⟩ | ⟨rfl, rfl⟩
      · exact h.win i k x y hik h1 h2
      · have := h.up i x h1; omega
    · rcases key k y hy with ⟨_, l2⟩ | ⟨rfl, rfl⟩
      · omega
      · rw [Int.sub_self, Int.zero_mul]; omega
theorem Win.quo {s e T : Int} {L : List Int} (h : Win s e T L) (hs : 1 ≤ s) {i k : Nat} {x y : Int} (hik : i ≤ k) (hx : L[i]? = some x) (hy : L[k]? = some y) : 0 ≤ y - x + e ∧ (k : Int) - (i : Int) ≤ (y - x + e).tdiv s ∧ (y - x + e).tdiv s ≤ y - x + e := by
  have h1 := h.win i k x y hik hx hy
  have h0 : 0 ≤ ((k : Int) - (i : Int)) * s := Int.mul_nonneg (by omega) (by omega)
  refine ⟨by omega, ?_⟩
  rw [Int.tdiv_eq_ediv_of_nonneg (by omega)]
  exact ⟨(Int.le_ediv_iff_mul_le (by omega)).2 h1, Int.ediv_le_self _ (by omega)⟩

theorem info3 : (Try.prog.info? 3).map (fun i => (i.zero, i.size, i.bytes)) = some (some (.int .i64 0), 1, 8) := by kernel_rfl

/-- A number appended: the slice stays in its block, or goes to a new one. -/
theorem run_app1 (w : World) (base : Nat) (hbase : base ≤ w.heap.size) (a : Option Addr) (n c : Nat) (xs : List Int) (hv : OwnR 3 .i64 base w a n c xs) (hn : n ≤ 1000) (x : Int) (g2 : Nat) (h2 : BK w g2 #[.int .i64 x] 3) :
    ∃ g' c' w', (Builtin.append_ #[44, 44] 44 #[.slice a n c, .slice (some ⟨g2, 0, none⟩) 1 1]).run Try.prog w = .ok (.slice (some ⟨g', 0, none⟩) (n + 1) c') w' ∧ OwnR 3 .i64 base w' (some ⟨g', 0, none⟩) (n + 1) c' (xs ++ [x]) ∧
      w.grownBy w' (Value.slice a n c).ownBlock ∧ ((∃ y, a = some y ∧ y.block = g') ∨ w.heap.size ≤ g') := by
  obtain ⟨i0, hi, hz0, hz1, hz2⟩ := info_parts info3
  obtain ⟨rfl, hown⟩ := hv
  have hnews : ∀ j u, ([Value.int .i64 x] : List Value)[j]? = some u → w.cell? ((⟨g2, 0, none⟩ : Addr).add j) = some u := by
    intro j u hu
    rw [Addr.add_lit, Nat.zero_add]
    match j, hu with
    | 0, hu => simp at hu; subst hu; exact h2.cell 0 _ rfl
    | j + 1, hu => simp at hu
  have hone : ∀ u ∈ ([Value.int .i64 x] : List Value), u.oneCell' = true := by intro u hu; simp at hu; rw [hu]; rfl
  obtain ⟨v', w', hrun, ho, hgr, hne⟩ := run_append_own (P := Try.prog) w base 44 44 3 i0 _ 1 8 Try.underlying44 hi hz0 hz1 hz2 rfl (by decide) _ _ _ hown ⟨g2, 0, none⟩ 1 1 [.int .i64 x] rfl hnews hone (by unfold maxLen; omega) (by omega) hbase
  obtain ⟨g', c', rfl⟩ := ownsRow_succ ho
  refine ⟨g', c', w', hrun, ⟨by simp, by rw [ivals_append]; exact ho⟩, hgr, ?_⟩
  rcases hown.2 with ⟨e, h0⟩ | ⟨g, cap, cur, e, hbg, hg, hnc, hcm, hcs, htake⟩
  · right
    have := run_append_nil (P := Try.prog) w 44 44 3 i0 _ Try.underlying44 hi hz0 ⟨g2, 0, none⟩ 1 1 [.int .i64 x] (by rw [hz1]; rfl) hnews (by decide) (by decide) (by rw [hz2]; decide)
    rw [e] at hrun
    have hh := hrun.symm.trans this
    simp at hh
    omega
  · simp at e
    obtain ⟨rfl, rfl⟩ := e
    by_cases hroom : xs.length + 1 ≤ c
    · left
      have := run_append_room (P := Try.prog) w 44 44 3 i0 Try.underlying44 hi g xs.length c cur hg ⟨g2, 0, none⟩ 1 1 [.int .i64 x] (by rw [hz1]; rfl) hnews hone hroom (by rw [hz1, hcs]; simp; omega)
      have hh := hrun.symm.trans this
      simp at hh
      exact ⟨_, rfl, hh.1.1.symm⟩
    · right
      have := run_append_grow (P := Try.prog) w 44 44 3 i0 _ Try.underlying44 hi hz0 ⟨g, 0, none⟩ xs.length c (ivals .i64 xs) (by rw [hz1]; simp [ivals]) (hown.cells (g := g) rfl) ⟨g2, 0, none⟩ 1 1 [.int .i64 x] (by rw [hz1]; rfl) hnews (by omega) (by omega) (by rw [hz2]; exact growslice_fits (by omega) (by omega))
      have hh := hrun.symm.trans this
      simp at hh
      omega

theorem OwnR.lt {e : TypeId} {k : IntKind} {base : Nat} {w : World} {y : Addr} {n c : Nat} {zs : List Int} (h : OwnR e k base w (some y) n c zs) : base ≤ y.block ∧ y.block < w.heap.size := by
  rcases h.2.2 with ⟨e, _⟩ | ⟨g, cap, cur, e, hg, hh, _⟩
  · cases e
  · simp at e
    obtain ⟨rfl, rfl⟩ := e
    exact ⟨hg, (Array.getElem?_eq_some_iff.1 hh).1⟩

theorem OwnR.keep {e : TypeId} {k : IntKind} {base : Nat} {w w' : World} {a : Option Addr} {n c : Nat} {zs : List Int} (h : OwnR e k base w a n c zs) (hb : ∀ y, a = some y → w'.heap[y.block]? = w.heap[y.block]?) : OwnR e k base w' a n c zs := by
  obtain ⟨hn, hl, ho⟩ := h
  refine ⟨hn, hl, ?_⟩
  rcases ho with ho | ⟨g, cap, cur, e, hg, hh, r⟩
  · exact .inl ho
  · simp only [Value.slice.injEq] at e
    exact .inr ⟨g, cap, cur, by rw [e.1, e.2.2], hg, (hb ⟨g, 0, Option.none⟩ e.1).trans hh, r⟩
theorem Win.raise {s e T T' : Int} {L : List Int} (h : Win s e T L) (ht : T ≤ T') : Win s e T' L := ⟨fun i x hx => Int.le_trans (h.up i x hx) ht, h.win⟩
theorem Win.less {s s' e T : Int} {L : List Int} (h : Win s e T L) (hs : s' ≤ s) : Win s' e T L := by
  refine ⟨fun i x hx => ?_, fun i k x y hik hx hy => ?_⟩
  · have h1 := h.up i x hx
    have hi := (List.getElem?_eq_some_iff.1 hx).1
    have := Int.mul_le_mul_of_nonneg_left hs (show 0 ≤ (L.length : Int) - (i : Int) by omega)
    omega
  · have h1 := h.win i k x y hik hx hy
    have := Int.mul_le_mul_of_nonneg_left hs (show 0 ≤ (k : Int) - (i : Int) by omega)
    omega
/-- What is so of a shaper, the shortest step, and the times of the cells that it took. -/
structure Pln (sh ea : Int) (Lp : List Int) (S : Sh) : Prop where
  e : S.e = ea
  s : sh ≤ S.s
  L : ∀ y ∈ S.L, sh ≤ y.1
  win : Win sh ea S.T Lp
theorem Pln.come {sh e : Int} {L : List Int} {S : Sh} (h : Pln sh e L S) (t : Int) : Pln sh e L (S.come t) := ⟨h.e, stN_all (p := fun x => sh ≤ x) h.s h.L, fun y hy => h.L y (List.mem_filter.1 hy).1, h.win⟩
theorem Pln.less {sh sh' e : Int} {L : List Int} {S : Sh} (h : Pln sh e L S) (hs : sh' ≤ sh) : Pln sh' e L S := ⟨h.e, Int.le_trans hs h.s, fun y hy => Int.le_trans hs (h.L y hy), h.win.less hs⟩
theorem Pln.set {sh e : Int} {L : List Int} {S : Sh} (h : Pln sh e L S) (t v : Int) : (S.setE t = 0 ∧ Pln (min sh v) e L (S.set t v)) ∨ (S.setE t = 9 ∧ Pln sh e L (S.set t v)) := by
  by_cases hf : (S.come t).L.length = 8
  · have ⟨r1, r2⟩ := set_full (S := S) (t := t) (st := v) hf
    exact .inr ⟨r2, by rw [r1]; exact h.come t⟩
  · have ⟨r1, r2⟩ := set_room (S := S) (t := t) (st := v) hf
    refine .inl ⟨r2, ?_⟩
    have hc := (h.come t).less (show min sh v ≤ sh by omega)
    rw [r1]
    refine ⟨hc.e, hc.s, fun y hy => ?_, hc.win⟩
    rcases List.mem_append.1 hy with hy | hy
    · exact hc.L y hy
    · rw [List.mem_singleton.1 hy]; show min sh v ≤ v; omega
theorem Pln.take {sh e : Int} {L : List Int} {S : Sh} (h : Pln sh e L S) (e0 : 0 ≤ e) (t : Int) : (S.fit t = true ∧ Pln sh e (L ++ [t]) (S.take t)) ∨ (S.fit t = false ∧ Pln sh e L (S.take t)) := by
  have hc := h.come t
  by_cases hf : S.T - S.e ≤ t
  · have h1 : S.fit t = true := decide_eq_true hf
    refine .inl ⟨h1, ?_⟩
    unfold Sh.take
    rw [if_pos (show (S.come t).fit t = true from h1)]
    refine ⟨hc.e, hc.s, hc.L, ?_⟩
    have hs := hc.s
    refine (h.win.take e0 (by rw [h.e] at hf; exact hf)).raise ?_
    show max S.T t + sh ≤ max S.T t + (S.come t).s
    omega
  · have h1 : S.fit t = false := decide_eq_false hf
    refine .inr ⟨h1, ?_⟩
    unfold Sh.take
    rw [if_neg (show ¬ (S.come t).fit t = true by show ¬ S.fit t = true; rw [h1]; decide)]
    exact hc

/-- A shaper in block r, and beside it the slice of the times Lm; the times of the cells taken are Lp. -/
structure WI (n0 : Nat) (w : World) (r : Nat) (a : Option Addr) (n c : Nat) (Lm Lp : List Int) (sh e : Int) : Prop where
  ex : ∃ (F : Nat → Prop) (S : Sh), SV w F r S ∧ (∀ k, F k → n0 ≤ k) ∧ (∀ y, a = some y → ¬ F y.block) ∧ Pln sh e Lp S
  own : OwnR 3 .i64 n0 w a n c Lm
  lo : n0 ≤ w.heap.size
theorem WI.set {n0 : Nat} {w : World} {r : Nat} {a : Option Addr} {n c : Nat} {Lm Lp : List Int} {sh e : Int} (h : WI n0 w r a n c Lm Lp sh e) (t v : Int) (t0 : 0 ≤ t) (t1 : t ≤ 1152921504606846976) (v0 : 1 ≤ v) (v1 : v ≤ 1152921504606846976) :
    Calls Try.prog 12 #[.pointer (some ⟨r, 0, none⟩), .int .i64 t, .int .i64 v] w fun y w' => Below n0 w w' ∧ ((y = .returned (.int .i64 0) ∧ WI n0 w' r a n c Lm Lp (min sh v) e) ∨ (y = .returned (.int .i64 9) ∧ WI n0 w' r a n c Lm Lp sh e)) := by
  obtain ⟨⟨F, S, h1, h2, h3, h4⟩, ho, hl⟩ := h
  refine (sset_calls h1 t v).mono ?_
  rintro y w' ⟨rfl, F', h5, g5⟩
  rw [hM_id t0 t1, hS_id v0 v1] at h5
  rw [hM_id t0 t1]
  have key : ∀ y, a = some y → ¬ F' y.block := fun y hy hF => by
    rcases g5.new _ hF with h | h
    · exact h3 y hy h
    · subst hy; have := ho.lt.2; omega
  have own' := ho.keep (fun y hy => g5.block y.block (by subst hy; exact ho.lt.2) (h3 y hy))
  refine ⟨g5.below h2 hl, ?_⟩
  rcases h4.set t v with ⟨e1, p1⟩ | ⟨e1, p1⟩
  · exact .inl ⟨by rw [e1], ⟨F', _, h5, g5.from h2 hl, key, p1⟩, own', Nat.le_trans hl g5.size⟩
  · exact .inr ⟨by rw [e1], ⟨F', _, h5, g5.from h2 hl, key, p1⟩, own', Nat.le_trans hl g5.size⟩
theorem WI.take {n0 : Nat} {w : World} {r : Nat} {a : Option Addr} {n c : Nat} {Lm Lp : List Int} {sh e : Int} (h : WI n0 w r a n c Lm Lp sh e) (e0 : 0 ≤ e) (t : Int) (t0 : 0 ≤ t) (t1 : t ≤ 1152921504606846976) :
    Calls Try.prog 14 #[.pointer (some ⟨r, 0, none⟩), .int .i64 t] w fun y w' => Below n0 w w' ∧ ((y = .returned (.bool true) ∧ WI n0 w' r a n c Lm (Lp ++ [t]) sh e) ∨ (y = .returned (.bool false) ∧ WI n0 w' r a n c Lm Lp sh e)) := by
  obtain ⟨⟨F, S, h1, h2, h3, h4⟩, ho, hl⟩ := h
  refine (stake_calls h1 t).mono ?_
  rintro y w' ⟨rfl, h5, g5⟩
  rw [hM_id t0 t1] at h5 ⊢
  have own' := ho.keep (fun y hy => g5.block y.block (by subst hy; exact ho.lt.2) (h3 y hy))
  refine ⟨g5.below h2 hl, ?_⟩
  rcases h4.take e0 t with ⟨e1, p1⟩ | ⟨e1, p1⟩
  · exact .inl ⟨by rw [e1], ⟨F, _, h5, h2, h3, p1⟩, own', Nat.le_trans hl g5.size⟩
  · exact .inr ⟨by rw [e1], ⟨F, _, h5, h2, h3, p1⟩, own', Nat.le_trans hl g5.size⟩
theorem WI.app {n0 : Nat} {w : World} {r : Nat} {a : Option Addr} {n c : Nat} {Lm Lp : List Int} {sh e : Int} (h : WI n0 w r a n c Lm Lp sh e) (hn : n ≤ 1000) (t : Int) :
    ∃ g' c' w', (Builtin.append_ #[44, 44] 44 #[.slice a n c, .slice (some ⟨w.heap.size, 0, none⟩) 1 1]).run Try.prog (w.alloc (.cells #[.int .i64 t] 3)) = .ok (.slice (some ⟨g', 0, none⟩) (n + 1) c') w' ∧ WI n0 w' r (some ⟨g', 0, none⟩) (n + 1) c' (Lm ++ [t]) Lp sh e ∧ Below n0 w w' := by
  obtain ⟨⟨F, S, h1, h2, h3, h4⟩, ho, hl⟩ := h
  have bel := (Below.refl _ w).alloc (Nat.le_refl _) (.cells #[.int .i64 t] 3)
  have ho' := OwnR.below bel (Nat.le_refl _) ho
  obtain ⟨g', c', w', hrun, o1, gr, hd⟩ := run_app1 (w.alloc (.cells #[.int .i64 t] 3)) n0 (by simp; omega) a n c Lm ho' hn t w.heap.size (bk_new _ _ _)
  have g1 : Ft (fun k => some k = (Value.slice a n c).ownBlock) (fun k => some k = (Value.slice a n c).ownBlock) (w.alloc (.cells #[.int .i64 t] 3)) w' := Ft.gb gr (fun k e => e.symm)
  have hsep : ∀ k, some k = (Value.slice a n c).ownBlock → ¬ F k := fun k e => by
    cases a with
    | none => simp [Value.ownBlock] at e
    | some y => simp [Value.ownBlock] at e; subst e; exact h3 y rfl
  have h1' := (h1.below bel (Nat.le_refl _)).frame g1 hsep
  refine ⟨g', c', w', hrun, ⟨⟨F, S, h1', h2, fun y e => ?_, h4⟩, o1, Nat.le_trans hl (Nat.le_trans bel.size gr.size)⟩, (bel.mono hl).trans ((Below.refl n0 _).grown gr (by simp; omega) (fun k e => (ho'.2.lt k e).1))⟩
  cases e
  rcases hd with ⟨y, hy1, hy2⟩ | h
  · show ¬ F g'; rw [← hy2]; exact h3 y hy1
  · show ¬ F g'; intro hF; have := h1.lt g' hF; simp at h; omega
end Go.Proofs.Ytcenipihbmifpaa
