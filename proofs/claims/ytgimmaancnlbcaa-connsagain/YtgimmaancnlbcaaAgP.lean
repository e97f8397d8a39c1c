/- Proved here: what putting a table's entries into another one, and putting and dropping, comes to. Conditions: as each theorem states them. -/
import Derived.Test.YtgimmaancnlbcaaSm
import Derived.Test.YtgimmaancnlbcaaOrdW
namespace Go.Proofs.Ytgimmaancnlbcaa
set_option linter.unusedSimpArgs false
set_option linter.unusedVariables false
open Go.RowKit Go.Shelf

theorem putsL_self {L : List En} (h : Ok L 64) : ∀ i, i ≤ L.length → putsL 64 [] (L.take i) = L.take i := by
  intro i
  induction i with
  | zero => intro _; rfl
  | succ i ih =>
    intro hi
    have hx : L[i]? = some L[i] := List.getElem?_eq_getElem (by omega)
    rw [putsL_take hx, ih (by omega)]
    have hpre : ∀ y ∈ L.take i, bef y.1 (L[i]).1 := fun y hy => by
      obtain ⟨j, hj, e⟩ := List.mem_iff_getElem.1 hy
      simp only [List.length_take] at hj
      rw [List.getElem_take] at e
      exact srt_lt h.srt (by rw [List.getElem?_eq_getElem (show j < L.length by omega), e]) hx (by omega)
    obtain ⟨i1, i2⟩ := ins_end hpre
    have hl := h.len
    have hE : putE (L.take i) 64 (L[i]).1 = 0 := by
      unfold putE
      rw [if_neg (by rw [h.rig _ (List.getElem_mem _)]; decide), if_neg (by rw [i2]; decide), if_neg (by rw [List.length_take]; omega)]
    unfold putL
    rw [if_pos hE, i1, List.take_succ_eq_append_getElem (by omega)]
theorem putsL_all {L : List En} (h : Ok L 64) : putsL 64 [] L = L := by
  have := putsL_self h L.length (Nat.le_refl _)
  rwa [List.take_length] at this

/-- What was put on L, the last one first: taken out again, it leaves L. -/
def Stk (L : List En) : List En → List Ky → Prop
  | T, [] => T = L
  | T, k :: R => (fnd T k).2 = true ∧ Stk L (del T k) R
theorem stk_put {L T : List En} {R : List Ky} {room : Nat} {k : Ky} {n : Int} (h : Stk L T R) (he : putE T room k = 0) : Stk L (putL T room (k, n)) (k :: R) := by
  obtain ⟨h1, h2, h3⟩ := putE_zero he
  have e : putL T room (k, n) = ins T (k, n) := by unfold putL; rw [if_pos he]
  rw [e]
  obtain ⟨d1, d2⟩ := del_ins (e := (k, n)) h2
  refine ⟨d2, ?_⟩
  rw [d1]
  exact h
theorem putL_no {T : List En} {room : Nat} {k : Ky} {n : Int} (he : putE T room k ≠ 0) : putL T room (k, n) = T := by unfold putL; rw [if_neg he]
theorem stk_at {L T : List En} {R : List Ky} {j : Nat} (h : Stk L T (R.drop j)) (hj : j < R.length) : ∃ k, R[j]? = some k ∧ (fnd T k).2 = true ∧ Stk L (del T k) (R.drop (j + 1)) := by
  rw [List.drop_eq_getElem_cons hj] at h
  exact ⟨R[j], List.getElem?_eq_getElem hj, h.1, h.2⟩

theorem own_tb {β : Type} (b room : Nat) (f : β → List En) : Own (fun s W => TB W b (f s) room) := fun s X Y row hs hg hrow => hs.grown hg hrow

/-- The law's two tables, where the second one is held, what was told, and the mark, in memory. -/
structure AI (n0 t u bu D base : Nat) (aw : Option Addr) (cw : Nat) (L : List En) (w W : World) (T : List En) : Prop where
  tab : TB W t T 64
  ut : TB W u L 64
  hbu : BK W bu #[.pointer (some ⟨u, 0, none⟩)] 26
  hd : W.heap[D]? = some (.deferred (some []))
  was : W.ownsRow base 65 4 (.slice aw L.length cw) L.length (ecells L)
  bel : Below n0 w W
  lt : n0 ≤ t ∧ t < u ∧ u < bu ∧ t < base ∧ D ≠ t ∧ n0 ≤ w.heap.size
theorem AI.below {n0 t u bu D base : Nat} {aw : Option Addr} {cw : Nat} {L T : List En} {w W W' : World} {m : Nat} (h : AI n0 t u bu D base aw cw L w W T) (hb : Below m W W') (hm : W.heap.size ≤ m) : AI n0 t u bu D base aw cw L w W' T := by
  obtain ⟨l1, l2, l3, l4, l5, l6⟩ := h.lt
  have hD : D < W.heap.size := (Array.getElem?_eq_some_iff.1 h.hd).1
  exact ⟨h.tab.below hb (Nat.lt_of_lt_of_le h.tab.lt hm), h.ut.below hb (Nat.lt_of_lt_of_le h.ut.lt hm), h.hbu.below hb (Nat.lt_of_lt_of_le h.hbu.lt hm), (hb.block D (by omega)).trans h.hd, row_below h.was hb hm, h.bel.trans (hb.mono (by have := h.bel.size; omega)), h.lt⟩
theorem AI.but {n0 t u bu D base : Nat} {aw : Option Addr} {cw : Nat} {L T T' : List En} {w W W' : World} {m : Nat} (h : AI n0 t u bu D base aw cw L w W T) (ht : TB W' t T' 64) (hb : But t m W W') (hm : W.heap.size ≤ m) : AI n0 t u bu D base aw cw L w W' T' := by
  obtain ⟨l1, l2, l3, l4, l5, l6⟩ := h.lt
  have hD : D < W.heap.size := (Array.getElem?_eq_some_iff.1 h.hd).1
  exact ⟨ht, h.ut.but hb (Nat.lt_of_lt_of_le h.ut.lt hm) (by omega), h.hbu.but hb (Nat.lt_of_lt_of_le h.hbu.lt hm) (by omega), (hb.block D (by omega) l5).trans h.hd, row_but h.was hb hm l4, h.bel.trans (hb.below (by have := h.bel.size; omega) l1), h.lt⟩
theorem AI.beside {n0 t u bu D base base' size k : Nat} {aw : Option Addr} {cw : Nat} {L T : List En} {w X Y : World} {v : Value} {xs : List Value} (h : AI n0 t u bu D base aw cw L w X T) (hr : X.ownsRow base' 24 size v k xs) (hg : X.grownBy Y v.ownBlock) (hn : n0 ≤ base') : AI n0 t u bu D base aw cw L w Y T := by
  have hD : D < X.heap.size := (Array.getElem?_eq_some_iff.1 h.hd).1
  refine ⟨h.tab.beside hr hg (by decide), h.ut.beside hr hg (by decide), bk_beside h.hbu hr hg (by decide), ?_, row_beside h.was hr hg (by decide), h.bel.trans (below_row hr hg hn (by have := h.bel.size; have := h.lt; omega)), h.lt⟩
  refine (hg.block D hD (fun e' => ?_)).trans h.hd
  rcases hr.2 with ⟨rfl, _⟩ | ⟨g, cap, cur, rfl, _, hgb, _⟩
  · simp [Value.ownBlock] at e'
  · obtain rfl : D = g := by simpa [Value.ownBlock] using e'
    rw [h.hd] at hgb
    cases hgb
end Go.Proofs.Ytgimmaancnlbcaa
