/- Proved here: a frame's parts, one behind the other, at a gatherer by its numbers. Conditions: as each theorem states them. -/
import Derived.Test.YtfmicnjijcmjaaaGa
import Derived.Test.YtfmicnjijcmjaaaCellsP
namespace Go.Proofs.Ytfmicnjijcmjaaa
set_option linter.unusedSimpArgs false
set_option linter.unusedVariables false
open Go.RowKit

theorem Ga.tick_none {S : Ga} {t : Int} (h : S.late t = false) : S.tick t = S := by unfold Ga.tick; rw [if_neg (by rw [h]; decide)]
theorem Ga.tick_yes {S : Ga} {t : Int} (h : S.late t = true) : S.tick t = S.lose := by unfold Ga.tick; rw [if_pos h]; rfl
theorem Ga.late_zero {S : Ga} (t : Int) (h : S.xs.length = 0) : S.late t = false := by unfold Ga.late; rw [h]; rfl
theorem Ga.late_soon {S : Ga} {t : Int} (h : t - S.f < waitN S.w) : S.late t = false := by unfold Ga.late; rw [lateB_eq]; simp; omega
theorem Ga.late_yes {S : Ga} {t : Int} (h0 : S.xs.length ≠ 0) (h : waitN S.w ≤ t - S.f) : S.late t = true := by unfold Ga.late; rw [lateB_eq]; simp [h0, h]
theorem Ga.late_same {S : Ga} {t : Int} (h : S.f = t) : S.late t = false := Ga.late_soon (by have := waitN_ge S.w; omega)

/-- So many parts of a frame wait, all of one time. -/
structure At (S : Ga) (fr : List UInt8) (j : Nat) (t : Int) (l : Nat) : Prop where
  k : S.k = false
  none : j = 0 → (S.tick t).xs = [] ∧ (S.tick t).l = l
  some : 0 < j → S.xs = fr.take (48 * j) ∧ S.f = t ∧ S.l = l
theorem Ga.tick_k (S : Ga) (t : Int) : (S.tick t).k = S.k := by unfold Ga.tick; split <;> rfl
theorem At.nil {S : Ga} {fr : List UInt8} {t : Int} {l : Nat} (hk : S.k = false) (hx : S.xs = []) (hl : S.l = l) : At S fr 0 t l :=
  ⟨hk, fun _ => by rw [Ga.tick_none (Ga.late_zero t (by rw [hx]; rfl))]; exact ⟨hx, hl⟩, fun h => absurd h (by decide)⟩
theorem At.late {S : Ga} {fr : List UInt8} {t : Int} {l : Nat} (hk : S.k = false) (hx : S.xs.length ≠ 0) (h : waitN S.w ≤ t - S.f) (hl : S.l + 1 = l) : At S fr 0 t l :=
  ⟨hk, fun _ => by rw [Ga.tick_yes (Ga.late_yes hx h)]; exact ⟨rfl, hl⟩, fun h => absurd h (by decide)⟩
theorem At.tick {S : Ga} {fr : List UInt8} {j : Nat} {t : Int} {l : Nat} (h : At S fr j t l) : (S.tick t).k = false ∧ (S.tick t).xs = fr.take (48 * j) ∧ (S.tick t).l = l ∧ (0 < j → (S.tick t).f = t) := by
  refine ⟨by rw [Ga.tick_k]; exact h.k, ?_⟩
  rcases Nat.eq_zero_or_pos j with rfl | hj
  · obtain ⟨h1, h2⟩ := h.none rfl
    exact ⟨by rw [h1]; rfl, h2, fun h => absurd h (by decide)⟩
  · obtain ⟨h1, h2, h3⟩ := h.some hj
    rw [Ga.tick_none (Ga.late_same h2)]
    exact ⟨h1, h3, fun _ => h2⟩
theorem take_chunk (fr : List UInt8) (j : Nat) : fr.take (48 * j) ++ chunk fr j = fr.take (48 * (j + 1)) := by
  rw [chunk, show 48 * (j + 1) = 48 * j + 48 from by omega, List.take_add]
theorem At.add_f {S : Ga} {fr : List UInt8} {j : Nat} {t : Int} {l : Nat} (h : At S fr j t l) (hj : 48 * j ≤ fr.length) (ps : List UInt8) : ((S.tick t).add t ps).f = t := by
  obtain ⟨_, h2, _, h4⟩ := h.tick
  show (if (S.tick t).xs.length = 0 then t else (S.tick t).f) = t
  rcases Nat.eq_zero_or_pos j with rfl | hj'
  · rw [h2]; simp
  · rw [h4 hj']; simp
theorem At.step {S : Ga} {fr : List UInt8} {j M : Nat} {t : Int} {l : Nat} (h : At S fr j t l) (hl : fr.length = 48 * M) (hj : j + 1 < M) (hM : M ≤ 21) : At (S.take t (chunk fr j) false).1 fr (j + 1) t l ∧ (S.take t (chunk fr j) false).2 = ([], 0, 2) := by
  obtain ⟨h1, h2, h3, h4⟩ := h.tick
  have hc : (chunk fr j).length = 48 := chunk_len (by omega)
  have e : S.take t (chunk fr j) false = ((S.tick t).add t (chunk fr j), ([], 0, 2)) := by
    unfold Ga.take
    rw [Ga.take0_more _ _ _ h1 (by rw [h2, List.length_take, hc]; omega)]
  rw [e]
  exact ⟨⟨h1, fun h => absurd h (by omega), fun _ => ⟨by show (S.tick t).xs ++ _ = _; rw [h2, take_chunk], h.add_f (by omega) _, h3⟩⟩, rfl⟩
theorem At.last {S : Ga} {fr : List UInt8} {j M : Nat} {t : Int} {l : Nat} (h : At S fr j t l) (hl : fr.length = 48 * M) (hj : j + 1 = M) : (S.take t (chunk fr j) true).2 = unpackN fr ∧ (S.take t (chunk fr j) true).1.xs = [] ∧ (S.take t (chunk fr j) true).1.k = false ∧ (S.take t (chunk fr j) true).1.l = l + (if (unpackN fr).2.2 = 0 then 0 else 1) := by
  obtain ⟨h1, h2, h3, h4⟩ := h.tick
  have ec : (S.tick t).xs ++ chunk fr j = fr := by rw [h2, take_chunk, hj, ← hl, List.take_length]
  have e : S.take t (chunk fr j) true = (((S.tick t).add t (chunk fr j)).fin, unpackN ((S.tick t).xs ++ chunk fr j)) := by
    unfold Ga.take
    rw [Ga.take0_last _ _ _ h1]
  rw [e, ec]
  refine ⟨rfl, rfl, h1, ?_⟩
  show (S.tick t).l + (if (unpackN ((S.tick t).xs ++ chunk fr j)).2.2 = 0 then 0 else 1) = _
  rw [ec, h3]
theorem manyN_le {n : Nat} (h : n ≤ 1000) : manyN n ≤ 21 := by
  rcases Nat.eq_zero_or_pos n with rfl | h0
  · decide
  · rw [many_eq h0]; omega
theorem manyN_pos {n : Nat} (h : 1 ≤ n) : 1 ≤ manyN n := by rw [many_eq h]; omega

theorem Ga.take_text {S : Ga} (h : S.xs.length ≤ 960) (t : Int) (ps : List UInt8) (last : Bool) (hp : ps.length = 48) : (S.take t ps last).2.1.length ≤ 1008 := by
  have hf := Ga.tick_fit h t
  unfold Ga.take Ga.take0
  split
  · simp
  · split
    · have := unpack_len ((S.tick t).xs ++ ps)
      rw [List.length_append] at this
      show (unpackN ((S.tick t).xs ++ ps)).1.length ≤ _
      omega
    · split <;> simp

/-! ### What comes later by as much -/
/-- Alike, but for the time. -/
structure Later (d : Int) (S T : Ga) : Prop where
  w : S.w = T.w
  xs : S.xs = T.xs
  l : S.l = T.l
  k : S.k = T.k
  f : S.xs.length ≠ 0 → T.f = S.f + d
theorem Later.late {d : Int} {S T : Ga} (h : Later d S T) (t : Int) : S.late t = T.late (t + d) := by
  unfold Ga.late
  rw [lateB_eq, lateB_eq, ← h.xs, ← h.w]
  by_cases e : S.xs.length = 0
  · simp [e]
  · rw [h.f e, show t + d - (S.f + d) = t - S.f by omega]
theorem Later.tick {d : Int} {S T : Ga} (h : Later d S T) (t : Int) : Later d (S.tick t) (T.tick (t + d)) := by
  unfold Ga.tick
  rw [← h.late t]
  split
  · exact ⟨h.w, rfl, by show S.l + 1 = T.l + 1; rw [h.l], h.k, fun e => absurd rfl e⟩
  · exact h
theorem Later.add {d : Int} {S T : Ga} (h : Later d S T) (t : Int) (ps : List UInt8) : Later d (S.add t ps) (T.add (t + d) ps) := by
  refine ⟨h.w, by show S.xs ++ ps = T.xs ++ ps; rw [h.xs], h.l, h.k, fun _ => ?_⟩
  show (if T.xs.length = 0 then t + d else T.f) = (if S.xs.length = 0 then t else S.f) + d
  rw [← h.xs]
  split
  · rfl
  · rename_i e; exact h.f e
theorem Later.take {d : Int} {S T : Ga} (h : Later d S T) (t : Int) (ps : List UInt8) (last : Bool) : Later d (S.take t ps last).1 (T.take (t + d) ps last).1 ∧ (S.take t ps last).2 = (T.take (t + d) ps last).2 := by
  have h := h.tick t
  unfold Ga.take
  generalize S.tick t = S at *
  generalize T.tick (t + d) = T at *
  have ha := h.add t ps
  unfold Ga.take0
  rw [← h.k, ← h.xs]
  split
  · exact ⟨⟨h.w, rfl, h.l, rfl, h.f⟩, rfl⟩
  · split
    · refine ⟨⟨ha.w, rfl, ?_, ha.k, fun e => absurd rfl e⟩, rfl⟩
      show (S.add t ps).l + (if (unpackN (S.add t ps).xs).2.2 = 0 then 0 else 1) = (T.add (t + d) ps).l + (if (unpackN (T.add (t + d) ps).xs).2.2 = 0 then 0 else 1)
      rw [ha.xs, ha.l]
    · split
      · exact ⟨⟨ha.w, rfl, by show (S.add t ps).l + 1 = (T.add (t + d) ps).l + 1; rw [ha.l], rfl, fun e => absurd rfl e⟩, rfl⟩
      · exact ⟨ha, rfl⟩
end Go.Proofs.Ytfmicnjijcmjaaa
