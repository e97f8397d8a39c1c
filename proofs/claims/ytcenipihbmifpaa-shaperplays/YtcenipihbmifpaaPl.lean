/- Proved here: what becomes of a shaper's numbers, as plain functions. Conditions: as each theorem states them. -/
import Derived.Test.YtcenipihbmifpaaBut
namespace Go.Proofs.Ytcenipihbmifpaa
set_option linter.unusedSimpArgs false
set_option linter.unusedVariables false
open Go.RowKit Go.Shelf

/-- A change put ahead of the first that is later. -/
def insC (c : Int × Int) : List (Int × Int) → List (Int × Int)
  | [] => [c]
  | o :: r => if c.2 < o.2 then c :: o :: r else o :: insC c r
/-- Changes by their times. -/
def sortC (L : List (Int × Int)) : List (Int × Int) := L.foldl (fun S c => insC c S) []
theorem sortC_snoc (L : List (Int × Int)) (c : Int × Int) : sortC (L ++ [c]) = insC c (sortC L) := by simp [sortC]
theorem insC_length (c : Int × Int) (S : List (Int × Int)) : (insC c S).length = S.length + 1 := by
  induction S with
  | nil => rfl
  | cons o r ih => unfold insC; split <;> simp [ih]
theorem sortC_length_aux (L S : List (Int × Int)) : (L.foldl (fun S c => insC c S) S).length = S.length + L.length := by
  induction L generalizing S with
  | nil => simp
  | cons c L ih => rw [List.foldl_cons, ih, insC_length, List.length_cons]; omega
theorem sortC_length (L : List (Int × Int)) : (sortC L).length = L.length := by unfold sortC; rw [sortC_length_aux]; simp
/-- It comes to be at the first place whose change is later .. -/
theorem insC_at {c : Int × Int} {S : List (Int × Int)} {i : Nat} {o : Int × Int} (ho : S[i]? = some o) (hlt : c.2 < o.2) (hb : ∀ j y, j < i → S[j]? = some y → y.2 ≤ c.2) : insC c S = S.take i ++ c :: S.drop i := by
  induction S generalizing i with
  | nil => cases ho
  | cons y r ih =>
    cases i with
    | zero => simp at ho; subst ho; simp [insC, hlt]
    | succ i =>
      have h0 := hb 0 y (by omega) rfl
      rw [insC, if_neg (by omega), ih (i := i) (by simpa using ho) (fun j z hj hz => hb (j + 1) z (by omega) (by simpa using hz))]
      simp
/-- .. else at the end. -/
theorem insC_end {c : Int × Int} {S : List (Int × Int)} (hb : ∀ y ∈ S, y.2 ≤ c.2) : insC c S = S ++ [c] := by
  induction S with
  | nil => rfl
  | cons y r ih =>
    have h0 := hb y (by simp)
    rw [insC, if_neg (by omega), ih (fun z hz => hb z (by simp [hz]))]
    simp
theorem insC_all {p : Int × Int → Prop} {c : Int × Int} {S : List (Int × Int)} (hc : p c) (hS : ∀ y ∈ S, p y) : ∀ y ∈ insC c S, p y := by
  induction S with
  | nil => intro y hy; simp [insC] at hy; rw [hy]; exact hc
  | cons o r ih =>
    intro y hy
    unfold insC at hy
    split at hy
    · simp at hy; rcases hy with rfl | rfl | h
      · exact hc
      · exact hS _ (by simp)
      · exact hS _ (by simp [h])
    · simp at hy; rcases hy with rfl | h
      · exact hS _ (by simp)
      · exact ih (fun z hz => hS z (by simp [hz])) y h
theorem sortC_all_aux {p : Int × Int → Prop} (L S : List (Int × Int)) (hL : ∀ y ∈ L, p y) (hS : ∀ y ∈ S, p y) : ∀ y ∈ L.foldl (fun S c => insC c S) S, p y := by
  induction L generalizing S with
  | nil => exact hS
  | cons c L ih => rw [List.foldl_cons]; exact ih _ (fun y hy => hL y (by simp [hy])) (insC_all (hL c (by simp)) hS)
theorem sortC_all {p : Int × Int → Prop} {L : List (Int × Int)} (hL : ∀ y ∈ L, p y) : ∀ y ∈ sortC L, p y := sortC_all_aux L [] hL (by simp)

/-- Changes gone through, up to the first that is later than t. -/
def walkC (p : Int × Int) (t : Int) : List (Int × Int) → Int × Int
  | [] => p
  | c :: r => if t < c.2 then p else walkC c t r
/-- Changes gone through as they were set: one counts, if it isn't later than t, nor earlier than what counted. -/
def pickC (t : Int) (p c : Int × Int) : Int × Int := if t < c.2 then p else if p.2 ≤ c.2 then c else p
/-- By their times. -/
def Asc : List (Int × Int) → Prop
  | [] => True
  | c :: r => (∀ y ∈ r, c.2 ≤ y.2) ∧ Asc r
theorem insC_asc {c : Int × Int} {S : List (Int × Int)} (h : Asc S) : Asc (insC c S) := by
  induction S with
  | nil => exact ⟨by simp, trivial⟩
  | cons o r ih =>
    unfold insC
    split
    · refine ⟨fun y hy => ?_, h⟩
      simp at hy; rcases hy with rfl | hy
      · omega
      · have := h.1 y hy; omega
    · exact ⟨insC_all (p := fun y => o.2 ≤ y.2) (by omega) h.1, ih h.2⟩
theorem sortC_asc_aux (L S : List (Int × Int)) (h : Asc S) : Asc (L.foldl (fun S c => insC c S) S) := by
  induction L generalizing S with
  | nil => exact h
  | cons c L ih => rw [List.foldl_cons]; exact ih _ (insC_asc h)
theorem walkC_ge {t : Int} {S : List (Int × Int)} {p : Int × Int} (h : Asc S) (hp : ∀ y ∈ S, p.2 ≤ y.2) : p.2 ≤ (walkC p t S).2 := by
  induction S generalizing p with
  | nil => exact Int.le_refl _
  | cons o r ih =>
    unfold walkC
    split
    · exact Int.le_refl _
    · exact Int.le_trans (hp o (by simp)) (ih h.2 h.1)
theorem walkC_ins {t : Int} {c : Int × Int} {S : List (Int × Int)} {p : Int × Int} (h : Asc S) (hp : p.2 ≤ c.2) : walkC p t (insC c S) = pickC t (walkC p t S) c := by
  induction S generalizing p with
  | nil =>
    unfold pickC
    simp only [insC, walkC]
    split
    · rfl
    · exact (if_pos hp).symm
  | cons o r ih =>
    unfold insC
    split
    · next hlt =>
      simp only [walkC]
      unfold pickC
      by_cases h1 : t < c.2
      · rw [if_pos h1, if_pos (show t < o.2 by omega), if_pos h1]
      · rw [if_neg h1]
        by_cases h2 : t < o.2
        · rw [if_pos h2, if_pos h2, if_neg h1, if_pos hp]
        · rw [if_neg h2, if_neg h2, if_neg h1]
          have := walkC_ge (t := t) h.2 h.1
          rw [if_neg (by omega)]
    · next hlt =>
      simp only [walkC]
      by_cases h2 : t < o.2
      · rw [if_pos h2, if_pos h2]
        unfold pickC
        rw [if_pos (show t < c.2 by omega)]
      · rw [if_neg h2, if_neg h2]
        exact ih h.2 (by omega)
theorem walkC_sort_aux {t : Int} {p : Int × Int} (L S : List (Int × Int)) (h : Asc S) (hp : ∀ y ∈ L, p.2 ≤ y.2) : walkC p t (L.foldl (fun S c => insC c S) S) = L.foldl (pickC t) (walkC p t S) := by
  induction L generalizing S with
  | nil => rfl
  | cons c L ih => rw [List.foldl_cons, List.foldl_cons, ih _ (insC_asc h) (fun y hy => hp y (by simp [hy])), walkC_ins h (hp c (by simp))]
/-- Sorted and gone through, or as they were set: the same. -/
theorem walkC_sort {t : Int} {p : Int × Int} {L : List (Int × Int)} (hp : ∀ y ∈ L, p.2 ≤ y.2) : walkC p t (sortC L) = L.foldl (pickC t) p := walkC_sort_aux L [] trivial hp

/-- The step at a time. -/
def stN (s : Int) (L : List (Int × Int)) (t : Int) : Int := (L.foldl (pickC t) (s, -1)).1
theorem stN_walk {s t : Int} {L : List (Int × Int)} (hL : ∀ y ∈ L, 0 ≤ y.2) : (walkC (s, -1) t (sortC L)).1 = stN s L t := by rw [walkC_sort (fun y hy => by have := hL y hy; show -1 ≤ y.2; omega)]; rfl
theorem pickC_all {p : Int × Int → Prop} {t : Int} {q c : Int × Int} (hq : p q) (hc : p c) : p (pickC t q c) := by unfold pickC; split; exact hq; split; exact hc; exact hq
theorem foldl_pick_all {p : Int × Int → Prop} {t : Int} {q : Int × Int} {L : List (Int × Int)} (hq : p q) (hL : ∀ y ∈ L, p y) : p (L.foldl (pickC t) q) := by
  induction L generalizing q with
  | nil => exact hq
  | cons c L ih => rw [List.foldl_cons]; exact ih (pickC_all hq (hL c (by simp))) (fun y hy => hL y (by simp [hy]))
theorem stN_all {p : Int → Prop} {s t : Int} {L : List (Int × Int)} (hs : p s) (hL : ∀ y ∈ L, p y.1) : p (stN s L t) := foldl_pick_all (p := fun x => p x.1) hs hL
/-- Those that are still on their way. -/
def lfN (L : List (Int × Int)) (t : Int) : List (Int × Int) := L.filter fun c => decide (t < c.2)
theorem lfN_length (L : List (Int × Int)) (t : Int) : (lfN L t).length ≤ L.length := List.length_filter_le _ _

/-- A shaper's numbers. -/
structure Sh where
  s : Int
  e : Int
  slow : Int
  quick : Int
  L : List (Int × Int)
  T : Int
/-- .. as they may be. -/
structure Sh.Ok (S : Sh) : Prop where
  s0 : 1 ≤ S.s
  s1 : S.s ≤ 1152921504606846976
  e0 : 0 ≤ S.e
  e1 : S.e ≤ 1152921504606846976
  w0 : 0 ≤ S.slow
  w1 : S.slow ≤ 1152921504606846976
  q0 : 0 ≤ S.quick
  q1 : S.quick ≤ 1152921504606846976
  len : S.L.length ≤ 8
  L0 : ∀ y ∈ S.L, 1 ≤ y.1 ∧ y.1 ≤ 1152921504606846976 ∧ 0 ≤ y.2 ∧ y.2 ≤ 2305843009213693952
  T0 : 0 ≤ S.T
  T1 : S.T ≤ 3458764513820540928
/-- It comes to a time. -/
def Sh.come (S : Sh) (t : Int) : Sh := { S with s := stN S.s S.L t, L := lfN S.L t }
/-- What a step is held against. -/
def Sh.last (S : Sh) : Int := match S.L.getLast? with | some x => x.1 | none => S.s
/-- The change that a step makes. -/
def Sh.new (S : Sh) (t step : Int) : Int × Int := (step, t + if step < S.last then S.quick else S.slow)
/-- A step set at a time (both held). -/
def Sh.set (S : Sh) (t step : Int) : Sh := if (S.come t).L.length = 8 then S.come t else { S.come t with L := (S.come t).L ++ [(S.come t).new t step] }
def Sh.setE (S : Sh) (t : Int) : Int := if (S.come t).L.length = 8 then 9 else 0
/-- A cell at a time (held). -/
def Sh.fit (S : Sh) (t : Int) : Bool := decide (S.T - S.e ≤ t)
def Sh.take (S : Sh) (t : Int) : Sh := if (S.come t).fit t = true then { S.come t with T := max S.T t + (S.come t).s } else S.come t

theorem Sh.Ok.come {S : Sh} (h : S.Ok) (t : Int) : (S.come t).Ok :=
  ⟨stN_all (p := fun x => 1 ≤ x) h.s0 (fun y hy => (h.L0 y hy).1), stN_all (p := fun x => x ≤ 1152921504606846976) h.s1 (fun y hy => (h.L0 y hy).2.1), h.e0, h.e1, h.w0, h.w1, h.q0, h.q1, Nat.le_trans (lfN_length _ _) h.len, fun y hy => h.L0 y (List.mem_filter.1 hy).1, h.T0, h.T1⟩
theorem Sh.Ok.last {S : Sh} (h : S.Ok) : 1 ≤ S.last ∧ S.last ≤ 1152921504606846976 := by
  unfold Sh.last
  split
  · next x hx => have := h.L0 x (List.mem_of_getLast? hx); omega
  · exact ⟨h.s0, h.s1⟩
theorem Sh.Ok.set {S : Sh} (h : S.Ok) {t step : Int} (t0 : 0 ≤ t) (t1 : t ≤ 1152921504606846976) (s0 : 1 ≤ step) (s1 : step ≤ 1152921504606846976) : (S.set t step).Ok := by
  have hc := h.come t
  unfold Sh.set
  split
  · exact hc
  · next hne =>
    refine ⟨hc.s0, hc.s1, hc.e0, hc.e1, hc.w0, hc.w1, hc.q0, hc.q1, ?_, fun y hy => ?_, hc.T0, hc.T1⟩
    · have := hc.len; show (_ ++ _ : List _).length ≤ 8; simp; omega
    · rcases List.mem_append.1 hy with hy | hy
      · exact hc.L0 y hy
      · rw [List.mem_singleton.1 hy]
        have := hc.w0; have := hc.w1; have := hc.q0; have := hc.q1
        refine ⟨s0, s1, ?_, ?_⟩
        · show 0 ≤ t + _; split <;> omega
        · show t + _ ≤ _; split <;> omega
theorem Sh.Ok.take {S : Sh} (h : S.Ok) {t : Int} (t0 : 0 ≤ t) (t1 : t ≤ 1152921504606846976) : (S.take t).Ok := by
  have hc := h.come t
  unfold Sh.take
  split
  · next hf =>
    have hf' : S.T - S.e ≤ t := of_decide_eq_true hf
    have := h.e1; have := h.T0; have := hc.s0; have := hc.s1
    exact ⟨hc.s0, hc.s1, hc.e0, hc.e1, hc.w0, hc.w1, hc.q0, hc.q1, hc.len, hc.L0, by show 0 ≤ max S.T t + _; omega, by show max S.T t + _ ≤ _; omega⟩
  · exact hc
/-- A new one's. -/
def Sh.mk0 (s e w q : Int) : Sh := ⟨hS s, hM e, hM w, min (hM q) (hM w), [], 0⟩
theorem Sh.mk0_ok (s e w q : Int) : (Sh.mk0 s e w q).Ok :=
  ⟨(hS_bound s).1, (hS_bound s).2, (hM_bound e).1, (hM_bound e).2, (hM_bound w).1, (hM_bound w).2, (by show 0 ≤ min _ _; have := hM_bound q; have := hM_bound w; omega), (by show min _ _ ≤ _; have := hM_bound q; have := hM_bound w; omega), Nat.zero_le _, (fun y hy => (by cases hy)), Int.le_refl _, (by show (0 : Int) ≤ _; decide)⟩
end Go.Proofs.Ytcenipihbmifpaa
