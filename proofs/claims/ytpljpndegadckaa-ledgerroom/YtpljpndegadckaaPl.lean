/- Proved here: what booking in, and striking out of, a list of bookings in order comes to. Conditions: as each theorem states them. -/
import Derived.Handy
namespace Go.Proofs.Ytpljpndegadckaa
set_option linter.unusedSimpArgs false
set_option linter.unusedVariables false

/-- A booking: its number, its need. -/
abbrev En := Int × Int
/-- Bookings in order. -/
def Srt (L : List En) : Prop := L.Pairwise fun x y => x.1 < y.1
def look : List En → Int → Option Int
  | [], _ => none
  | x :: L, k => if x.1 = k then some x.2 else look L k
def getN (L : List En) (k : Int) : Int := (look L k).getD 0
def getB (L : List En) (k : Int) : Bool := (look L k).isSome
def ins : List En → En → List En
  | [], e => [e]
  | x :: L, e => if x.1 < e.1 then x :: ins L e else e :: x :: L
def del (L : List En) (k : Int) : List En := L.filter fun x => decide (x.1 ≠ k)
def sumL : List En → Int
  | [] => 0
  | x :: L => x.2 + sumL L
/-- The place where a number would go. -/
def pos : List En → Int → Nat
  | [], _ => 0
  | x :: L, k => if x.1 < k then pos L k + 1 else 0

theorem pos_le (L : List En) (k : Int) : pos L k ≤ L.length := by
  induction L with
  | nil => simp [pos]
  | cons x L ih => rw [pos]; split <;> simp <;> omega
theorem ins_at (L : List En) (e : En) : ins L e = L.take (pos L e.1) ++ e :: L.drop (pos L e.1) := by
  induction L with
  | nil => simp [pos, ins]
  | cons x L ih =>
    rw [ins, pos]
    split
    · rw [ih]; simp
    · simp
theorem pos_step {L : List En} {k : Int} {i : Nat} {x : En} (hx : L[i]? = some x) (h : x.1 < k) : pos (L.drop i) k = pos (L.drop (i + 1)) k + 1 := by
  obtain ⟨hi, rfl⟩ := List.getElem?_eq_some_iff.1 hx
  rw [List.drop_eq_getElem_cons hi, pos, if_pos h]
theorem pos_here {L : List En} {k : Int} {i : Nat} {x : En} (hx : L[i]? = some x) (h : ¬ x.1 < k) : pos (L.drop i) k = 0 := by
  obtain ⟨hi, rfl⟩ := List.getElem?_eq_some_iff.1 hx
  rw [List.drop_eq_getElem_cons hi, pos, if_neg h]
theorem look_step {L : List En} {k : Int} {i : Nat} {x : En} (hx : L[i]? = some x) (h : x.1 ≠ k) : look (L.drop i) k = look (L.drop (i + 1)) k := by
  obtain ⟨hi, rfl⟩ := List.getElem?_eq_some_iff.1 hx
  rw [List.drop_eq_getElem_cons hi, look, if_neg h]
theorem look_here {L : List En} {k : Int} {i : Nat} {x : En} (hx : L[i]? = some x) (h : x.1 = k) : look (L.drop i) k = some x.2 := by
  obtain ⟨hi, rfl⟩ := List.getElem?_eq_some_iff.1 hx
  rw [List.drop_eq_getElem_cons hi, look, if_pos h]

theorem look_ins (L : List En) (e : En) (q : Int) : look (ins L e) q = if e.1 = q then some e.2 else look L q := by
  induction L with
  | nil => simp [ins, look]
  | cons x L ih =>
    rw [ins]
    split
    · rename_i h
      rw [look, ih, look]
      by_cases hx : x.1 = q
      · rw [if_pos hx, if_pos hx, if_neg (by omega)]
      · rw [if_neg hx, if_neg hx]
    · rw [look, look]
theorem look_del (L : List En) (k q : Int) : look (del L k) q = if k = q then none else look L q := by
  induction L with
  | nil => simp [del, look]
  | cons x L ih =>
    unfold del at ih ⊢
    rw [List.filter_cons]
    by_cases hx : x.1 = k
    · rw [if_neg (by simp [hx]), ih, look]
      by_cases hq : k = q
      · rw [if_pos hq, if_pos hq]
      · rw [if_neg hq, if_neg hq, if_neg (by omega)]
    · rw [if_pos (by simp [hx]), look, ih, look]
      by_cases hq : x.1 = q
      · rw [if_pos hq, if_pos hq, if_neg (by omega)]
      · rw [if_neg hq, if_neg hq]
theorem look_mem {L : List En} {k v : Int} (h : look L k = some v) : (k, v) ∈ L := by
  induction L with
  | nil => cases h
  | cons x L ih =>
    rw [look] at h
    split at h
    · rename_i hx
      obtain ⟨a, b⟩ := x
      simp at h hx
      subst h; subst hx
      exact List.mem_cons_self ..
    · exact List.mem_cons_of_mem _ (ih h)
theorem mem_look {L : List En} (hs : Srt L) {x : En} (h : x ∈ L) : look L x.1 = some x.2 := by
  induction L with
  | nil => cases h
  | cons y L ih =>
    rw [look]
    obtain ⟨h1, h2⟩ := List.pairwise_cons.1 hs
    rcases List.mem_cons.1 h with rfl | h
    · rw [if_pos rfl]
    · rw [if_neg (by have := h1 x h; omega)]
      exact ih h2 h
theorem getB_mem {L : List En} {k : Int} : getB L k = true ↔ k ∈ L.map (·.1) := by
  unfold getB
  induction L with
  | nil => simp [look]
  | cons x L ih =>
    rw [look]
    by_cases hx : x.1 = k
    · rw [if_pos hx]; simp [hx]
    · rw [if_neg hx, ih, List.map_cons, List.mem_cons]
      constructor
      · intro h; exact .inr h
      · rintro (h | h)
        · exact absurd h.symm hx
        · exact h
theorem ins_mem {L : List En} {e y : En} (h : y ∈ ins L e) : y = e ∨ y ∈ L := by
  rw [ins_at] at h
  rcases List.mem_append.1 h with h | h
  · exact .inr (List.mem_of_mem_take h)
  · rcases List.mem_cons.1 h with h | h
    · exact .inl h
    · exact .inr (List.mem_of_mem_drop h)
theorem del_mem {L : List En} {k : Int} {y : En} (h : y ∈ del L k) : y ∈ L := (List.mem_filter.1 h).1
theorem ins_length (L : List En) (e : En) : (ins L e).length = L.length + 1 := by
  rw [ins_at]; have := pos_le L e.1; simp; omega
theorem del_le (L : List En) (k : Int) : (del L k).length ≤ L.length := List.length_filter_le _ _
theorem sum_ins (L : List En) (e : En) : sumL (ins L e) = sumL L + e.2 := by
  induction L with
  | nil => simp [ins, sumL]
  | cons x L ih =>
    rw [ins]
    split
    · rw [sumL, ih, sumL]; omega
    · rw [sumL]; omega
theorem del_none {L : List En} {k : Int} (h : getB L k = false) : del L k = L := by
  refine List.filter_eq_self.2 fun x hx => ?_
  simp only [decide_eq_true_eq]
  intro e
  have : getB L k = true := getB_mem.2 (by rw [← e]; exact List.mem_map_of_mem hx)
  rw [h] at this; cases this
theorem getN_none {L : List En} {k : Int} (h : getB L k = false) : getN L k = 0 := by
  unfold getB at h; unfold getN
  cases hl : look L k with
  | none => rfl
  | some v => rw [hl] at h; cases h
theorem getB_some {L : List En} {k : Int} (h : getB L k = true) : look L k = some (getN L k) := by
  unfold getB at h; unfold getN
  cases hl : look L k with
  | none => rw [hl] at h; cases h
  | some v => rfl
theorem sum_del {L : List En} (hs : Srt L) (k : Int) : sumL (del L k) = sumL L - getN L k := by
  induction L with
  | nil => simp [del, sumL, getN, look]
  | cons x L ih =>
    obtain ⟨h1, h2⟩ := List.pairwise_cons.1 hs
    have hx : getN (x :: L) k = if x.1 = k then x.2 else getN L k := by unfold getN; rw [look]; split <;> rfl
    rw [hx]
    unfold del at ih ⊢
    rw [List.filter_cons]
    by_cases he : x.1 = k
    · rw [if_neg (by simp [he]), if_pos he, sumL]
      have : getB L k = false := by
        cases hb : getB L k with
        | false => rfl
        | true =>
          obtain ⟨y, hy, e⟩ := List.mem_map.1 (getB_mem.1 hb)
          have := h1 y hy; omega
      have := del_none this
      unfold del at this
      rw [this]; omega
    · rw [if_pos (by simp [he]), if_neg he, sumL, ih h2, sumL]; omega
theorem del_length {L : List En} (hs : Srt L) (k : Int) : (del L k).length + (if getB L k then 1 else 0) = L.length := by
  induction L with
  | nil => simp [del, getB, look]
  | cons x L ih =>
    obtain ⟨h1, h2⟩ := List.pairwise_cons.1 hs
    have hx : getB (x :: L) k = if x.1 = k then true else getB L k := by unfold getB; rw [look]; split <;> rfl
    rw [hx]
    by_cases he : x.1 = k
    · have hb : getB L k = false := by
        cases hb : getB L k with
        | false => rfl
        | true =>
          obtain ⟨y, hy, e⟩ := List.mem_map.1 (getB_mem.1 hb)
          have := h1 y hy; omega
      have hd : del (x :: L) k = del L k := by unfold del; rw [List.filter_cons, if_neg (by simp [he])]
      rw [if_pos he, hd, del_none hb]; simp
    · have hd : del (x :: L) k = x :: del L k := by unfold del; rw [List.filter_cons, if_pos (by simp [he])]
      rw [if_neg he, hd]
      have := ih h2
      simp at this ⊢; omega
theorem srt_del {L : List En} (hs : Srt L) (k : Int) : Srt (del L k) := List.Pairwise.filter _ hs
theorem srt_ins {L : List En} {e : En} (hs : Srt L) (h : getB L e.1 = false) : Srt (ins L e) := by
  induction L with
  | nil => simp [ins, Srt]
  | cons x L ih =>
    obtain ⟨h1, h2⟩ := List.pairwise_cons.1 hs
    have hx : getB (x :: L) e.1 = if x.1 = e.1 then true else getB L e.1 := by unfold getB; rw [look]; split <;> rfl
    rw [hx] at h
    split at h
    · cases h
    rename_i hne
    rw [ins]
    split
    · rename_i hlt
      refine List.pairwise_cons.2 ⟨fun y hy => ?_, ih h2 h⟩
      rcases ins_mem hy with rfl | hy
      · exact hlt
      · exact h1 y hy
    · rename_i hlt
      refine List.pairwise_cons.2 ⟨fun y hy => ?_, hs⟩
      rcases List.mem_cons.1 hy with rfl | hy
      · omega
      · have := h1 y hy; omega
/-- Lists in order that tell the same of every number are the same. -/
theorem srt_ext {A B : List En} (ha : Srt A) (hb : Srt B) (h : ∀ q, look A q = look B q) : A = B := by
  have hp : A.Perm B := (List.perm_ext_iff_of_nodup (ha.imp fun {x y} h e => by rw [e] at h; omega) (hb.imp fun {x y} h e => by rw [e] at h; omega)).2 fun x => by
    constructor
    · intro hx
      have := mem_look ha hx
      rw [h] at this
      exact look_mem this
    · intro hx
      have := mem_look hb hx
      rw [← h] at this
      exact look_mem this
  refine List.Perm.eq_of_pairwise (le := fun x y : En => x.1 < y.1) (fun a b _ _ h1 h2 => by omega) ha hb hp

/-- What a ledger's bookings always are. -/
structure Ok (L : List En) (room : Int) : Prop where
  srt : Srt L
  pos : ∀ x ∈ L, 0 ≤ x.2
  sum : sumL L ≤ room
  room : 0 ≤ room ∧ room ≤ 1152921504606846976
theorem sum_nonneg {L : List En} (h : ∀ x ∈ L, 0 ≤ x.2) : 0 ≤ sumL L := by
  induction L with
  | nil => simp [sumL]
  | cons x L ih =>
    have h1 := h x (List.mem_cons_self ..)
    have h2 := ih fun y hy => h y (List.mem_cons_of_mem _ hy)
    rw [sumL]; omega
theorem Ok.nn {L : List En} {room : Int} (h : Ok L room) : 0 ≤ sumL L := sum_nonneg h.pos
theorem Ok.get {L : List En} {room : Int} (h : Ok L room) (k : Int) : 0 ≤ getN L k ∧ getN L k ≤ sumL L := by
  have h1 : 0 ≤ sumL (del L k) := sum_nonneg fun x hx => h.pos x (del_mem hx)
  rw [sum_del h.srt] at h1
  refine ⟨?_, by omega⟩
  cases hb : getB L k with
  | false => rw [getN_none hb]; omega
  | true => exact h.pos _ (look_mem (getB_some hb))
theorem ok_nil {room : Int} (h : 0 ≤ room ∧ room ≤ 1152921504606846976) : Ok [] room := ⟨List.Pairwise.nil, fun _ h => (by cases h), h.1, h⟩
theorem Ok.del {L : List En} {room : Int} (h : Ok L room) (k : Int) : Ok (del L k) room :=
  ⟨srt_del h.srt k, fun x hx => h.pos x (del_mem hx), by rw [sum_del h.srt]; have := h.get k; have := h.sum; omega, h.room⟩
theorem getB_del (L : List En) (k : Int) : getB (Go.Proofs.Ytpljpndegadckaa.del L k) k = false := by unfold getB; rw [look_del, if_pos rfl]; rfl
/-- A need put in place of what is booked for a number. -/
def put (L : List En) (k n : Int) : List En := ins (del L k) (k, n)
theorem put_new {L : List En} {k : Int} (h : getB L k = false) (n : Int) : put L k n = ins L (k, n) := by unfold put; rw [del_none h]
theorem look_put (L : List En) (k n q : Int) : look (put L k n) q = if k = q then some n else look L q := by
  unfold put; rw [look_ins, look_del]; simp only; split <;> rfl
theorem Ok.put {L : List En} {room : Int} (h : Ok L room) {k n : Int} (hn : 0 ≤ n) (hf : n ≤ room - (sumL L - getN L k)) : Ok (put L k n) room :=
  ⟨srt_ins (srt_del h.srt k) (getB_del L k), fun x hx => by
    rcases ins_mem hx with rfl | hx
    · exact hn
    · exact h.pos x (del_mem hx), by unfold Go.Proofs.Ytpljpndegadckaa.put; rw [sum_ins, sum_del h.srt]; simp only; omega, h.room⟩
theorem sum_put {L : List En} (hs : Srt L) (k n : Int) : sumL (put L k n) = sumL L - getN L k + n := by unfold put; rw [sum_ins, sum_del hs]
theorem put_length (L : List En) (k n : Int) : (put L k n).length ≤ L.length + 1 := by unfold put; rw [ins_length]; have := del_le L k; omega

/-- What Book and Change answer, and what is booked then. -/
def bookE (L : List En) (room id n : Int) : Int := if n < 0 then 1 else if getB L id = true then 7 else if n > room - sumL L then 9 else 0
def bookL (L : List En) (room id n : Int) : List En := if bookE L room id n = 0 then put L id n else L
def chgE (L : List En) (room id n : Int) : Int := if n < 0 then 1 else if getB L id = false then 8 else if n > room - (sumL L - getN L id) then 9 else 0
def chgL (L : List En) (room id n : Int) : List En := if chgE L room id n = 0 then put L id n else L
theorem book_ok {L : List En} {room id n : Int} (h : bookE L room id n = 0) : 0 ≤ n ∧ getB L id = false ∧ n ≤ room - sumL L := by
  unfold bookE at h
  split at h
  · omega
  split at h
  · omega
  split at h
  · omega
  rename_i h1 h2 h3
  exact ⟨by omega, by simpa using h2, by omega⟩
theorem chg_ok {L : List En} {room id n : Int} (h : chgE L room id n = 0) : 0 ≤ n ∧ getB L id = true ∧ n ≤ room - (sumL L - getN L id) := by
  unfold chgE at h
  split at h
  · omega
  split at h
  · omega
  split at h
  · omega
  rename_i h1 h2 h3
  exact ⟨by omega, by simpa using h2, by omega⟩
theorem Ok.book {L : List En} {room : Int} (h : Ok L room) (id n : Int) : Ok (bookL L room id n) room := by
  unfold bookL
  split
  · rename_i h0
    obtain ⟨a, b, c⟩ := book_ok h0
    exact h.put a (by rw [getN_none b]; omega)
  · exact h
theorem Ok.chg {L : List En} {room : Int} (h : Ok L room) (id n : Int) : Ok (chgL L room id n) room := by
  unfold chgL
  split
  · rename_i h0
    obtain ⟨a, b, c⟩ := chg_ok h0
    exact h.put a c
  · exact h
/-- What is done: 1 Book, 2 Change, 3 Free. -/
def doE (L : List En) (room : Int) (x : Int × Int × Int) : Int := if x.1 = 1 then bookE L room x.2.1 x.2.2 else if x.1 = 2 then chgE L room x.2.1 x.2.2 else 0
def doN (L : List En) (x : Int × Int × Int) : Int := if x.1 = 3 then getN L x.2.1 else 0
def doL (L : List En) (room : Int) (x : Int × Int × Int) : List En :=
  if x.1 = 1 then bookL L room x.2.1 x.2.2 else if x.1 = 2 then chgL L room x.2.1 x.2.2 else if x.1 = 3 then del L x.2.1 else L
theorem Ok.doit {L : List En} {room : Int} (h : Ok L room) (x : Int × Int × Int) : Ok (doL L room x) room := by
  unfold doL
  split
  · exact h.book _ _
  split
  · exact h.chg _ _
  split
  · exact h.del _
  · exact h
theorem book_length (L : List En) (room id n : Int) : (bookL L room id n).length ≤ L.length + 1 := by
  unfold bookL; split
  · exact put_length _ _ _
  · omega
theorem chg_length (L : List En) (room id n : Int) : (chgL L room id n).length ≤ L.length + 1 := by
  unfold chgL; split
  · exact put_length _ _ _
  · omega
theorem do_length (L : List En) (room : Int) (x : Int × Int × Int) : (doL L room x).length ≤ L.length + 1 := by
  unfold doL
  split
  · exact book_length _ _ _ _
  split
  · exact chg_length _ _ _ _
  split
  · have := del_le L x.2.1; omega
  · omega

/-- How much room is held to. -/
def roomN (r : Int) : Int := min (max r 0) 1152921504606846976
theorem roomN_bounds (r : Int) : 0 ≤ roomN r ∧ roomN r ≤ 1152921504606846976 := by unfold roomN; omega

/-! ### What is booked, and freed -/
theorem del_put {L : List En} {k : Int} (n : Int) (h : getB L k = false) (hs : Srt L) : del (put L k n) k = L := by
  refine srt_ext (srt_del (by rw [put_new h]; exact srt_ins hs h) k) hs fun q => ?_
  rw [look_del, look_put]
  by_cases hq : k = q
  · rw [if_pos hq, ← hq]
    unfold getB at h
    cases hl : look L k with
    | none => rfl
    | some v => rw [hl] at h; cases h
  · rw [if_neg hq, if_neg hq]
theorem srt_put {L : List En} (hs : Srt L) (k n : Int) : Srt (put L k n) := srt_ins (srt_del hs k) (getB_del L k)
theorem put_put {L : List En} (hs : Srt L) (k n m : Int) : put (put L k n) k m = put L k m := by
  refine srt_ext (srt_put (srt_put hs k n) k m) (srt_put hs k m) fun q => ?_
  rw [look_put, look_put, look_put]
  split <;> rfl
theorem put_same {L : List En} (hs : Srt L) {k : Int} (h : getB L k = true) : put L k (getN L k) = L := by
  refine srt_ext (srt_put hs k _) hs fun q => ?_
  rw [look_put]
  by_cases hq : k = q
  · rw [if_pos hq, ← hq, getB_some h]
  · rw [if_neg hq]
end Go.Proofs.Ytpljpndegadckaa
