/- Proved here: what tables come to when many are put, and what Free's answer is like. Conditions: as each theorem states them. -/
import Derived.Test.YtgimmaancnlbcaaFullW
namespace Go.Proofs.Ytgimmaancnlbcaa
set_option linter.unusedSimpArgs false
set_option linter.unusedVariables false
open Go.RowKit Go.Shelf

/-- Many put, one behind the other. -/
def putsL (room : Nat) (T : List En) (M : List En) : List En := M.foldl (fun T x => putL T room x) T
theorem putsL_snoc (room : Nat) (T M : List En) (x : En) : putsL room T (M ++ [x]) = putL (putsL room T M) room x := by simp [putsL]
theorem putsL_take {room : Nat} {T M : List En} {i : Nat} {x : En} (h : M[i]? = some x) : putsL room T (M.take (i + 1)) = putL (putsL room T (M.take i)) room x := by
  rw [List.take_add_one, h]; exact putsL_snoc _ _ _ _

theorem frF_spec {p q : Int} : ∀ {L : List En} (_ : Srt L) (v : Int), v ≤ frF p q v L ∧ frF p q v L ≤ v + L.length ∧ (∀ y ∈ L, y.1 ≠ (p, q, frF p q v L)) ∧ ∀ i, v ≤ i → i < frF p q v L → ∃ y ∈ L, y.1 = (p, q, i) := by
  intro L
  induction L with
  | nil => intro _ v; exact ⟨Int.le_refl _, by simp [frF], by simp, fun i h1 h2 => by simp [frF] at h2; omega⟩
  | cons x L ih =>
    intro h v
    have h' := List.pairwise_cons.1 h
    have e : frF p q v (x :: L) = if x.1 = (p, q, v) then frF p q (v + 1) L else frF p q v L := by
      unfold frF
      rw [List.foldl_cons]
      split <;> rfl
    by_cases hx : x.1 = (p, q, v)
    · rw [if_pos hx] at e
      rw [e]
      obtain ⟨i1, i2, i3, i4⟩ := ih h'.2 (v + 1)
      refine ⟨by omega, by simp; omega, fun y hy => ?_, fun i h1 h2 => ?_⟩
      · rcases List.mem_cons.1 hy with rfl | hy
        · rw [hx]; intro e2; simp only [Prod.mk.injEq, true_and] at e2; omega
        · exact i3 y hy
      · by_cases hv : i = v
        · exact ⟨x, List.mem_cons_self .., by rw [hx, hv]⟩
        · obtain ⟨y, hy, e3⟩ := i4 i (by omega) h2
          exact ⟨y, List.mem_cons_of_mem _ hy, e3⟩
    · rw [if_neg hx] at e
      rw [e]
      obtain ⟨i1, i2, i3, i4⟩ := ih h'.2 v
      refine ⟨i1, by simp; omega, fun y hy => ?_, fun i h1 h2 => ?_⟩
      · rcases List.mem_cons.1 hy with rfl | hy
        · intro e2
          by_cases hv : frF p q v L = v
          · rw [hv] at e2; exact hx e2
          · obtain ⟨z, hz, e3⟩ := i4 v (Int.le_refl _) (by omega)
            have h1 := h'.1 z hz
            rw [e2, e3] at h1
            have h2 : bef (p, q, v) (p, q, frF p q v L) := Or.inr ⟨rfl, Or.inr ⟨rfl, by show v < frF p q v L; omega⟩⟩
            exact bef_asymm h1 h2
        · exact i3 y hy
      · obtain ⟨y, hy, e3⟩ := i4 i h1 h2
        exact ⟨y, List.mem_cons_of_mem _ hy, e3⟩
theorem look_in {L : List En} {k : Ky} (h : ∃ y ∈ L, y.1 = k) : (look L k).isSome = true := by
  induction L with
  | nil => obtain ⟨y, hy, _⟩ := h; cases hy
  | cons x L ih =>
    rw [look]
    by_cases hx : x.1 = k
    · rw [if_pos hx]; rfl
    · rw [if_neg hx]
      obtain ⟨y, hy, e⟩ := h
      rcases List.mem_cons.1 hy with rfl | hy
      · exact absurd e hx
      · exact ih ⟨y, hy, e⟩
theorem free_no {T : List En} (h : Ok T 64) {p q f : Int} (hb : freeB T p q f = false) : freeN T p q f = 0 ∧ (rightK (p, q, 0) = false ∨ 65471 < f) := by
  obtain ⟨i1, i2, i3, i4⟩ := frF_spec (p := p) (q := q) h.srt (max f 0)
  have hl := h.len
  refine ⟨by unfold freeB at hb; unfold freeN; rw [hb]; rfl, ?_⟩
  by_cases hf : 65471 < f
  · exact .inr hf
  · left
    unfold freeB at hb
    by_cases hr : rightK (p, q, 0) = true
    · have h0 := (rightK_iff _).1 hr
      have : rightK (p, q, frF p q (max f 0) T) = true := (rightK_iff _).2 ⟨h0.1, h0.2.1, by show 0 ≤ frF p q (max f 0) T; omega, by show frF p q (max f 0) T ≤ 65535; omega⟩
      rw [this] at hb
      cases hb
    · simpa using hr
theorem free_yes {T : List En} (h : Ok T 64) {p q f : Int} (hb : freeB T p q f = true) : rightK (p, q, freeN T p q f) = true ∧ getB T (p, q, freeN T p q f) = false ∧ max f 0 ≤ freeN T p q f ∧ freeN T p q f ≤ max f 0 + 64 ∧ freeN T p q f ≤ 65535 ∧
    (∀ i, max f 0 ≤ i → i < freeN T p q f → getB T (p, q, i) = true) ∧ (putE T 64 (p, q, freeN T p q f) = 0 ∨ (putE T 64 (p, q, freeN T p q f) = 9 ∧ T.length = 64)) := by
  obtain ⟨i1, i2, i3, i4⟩ := frF_spec (p := p) (q := q) h.srt (max f 0)
  have hl := h.len
  have e : freeN T p q f = frF p q (max f 0) T := by unfold freeB at hb; unfold freeN; rw [hb]; rfl
  have hr : rightK (p, q, freeN T p q f) = true := by rw [e]; exact hb
  have hg : getB T (p, q, freeN T p q f) = false := by unfold getB; rw [e, look_absent i3]; rfl
  refine ⟨hr, hg, by rw [e]; exact i1, by rw [e]; omega, ((rightK_iff _).1 hr).2.2.2, fun i h1 h2 => look_in (i4 i h1 (by rw [← e]; exact h2)), ?_⟩
  unfold putE
  rw [if_neg (by rw [hr]; decide), if_neg (by rw [h.fndB, hg]; decide)]
  by_cases hf : T.length = 64
  · right; rw [if_pos hf]; exact ⟨rfl, hf⟩
  · left; rw [if_neg hf]
end Go.Proofs.Ytgimmaancnlbcaa
