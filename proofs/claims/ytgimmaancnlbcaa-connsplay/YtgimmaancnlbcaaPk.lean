/- Proved here: how keys lie ahead of each other, and what putting into, and taking out of, a list of entries in order comes to. Conditions: as each theorem states them. -/
import Derived.Handy
namespace Go.Proofs.Ytgimmaancnlbcaa
set_option linter.unusedSimpArgs false
set_option linter.unusedVariables false

/-- A key: its port, its path, its channel. An entry: a key, its number. -/
abbrev Ky := Int × Int × Int
abbrev En := Ky × Int

def inB (x m : Int) : Bool := decide (0 ≤ x) && decide (x ≤ m)
/-- Can a key be? -/
def rightK (k : Ky) : Bool := inB k.1 7 && (inB k.2.1 4095 && inB k.2.2 65535)
theorem rightK_iff (k : Ky) : rightK k = true ↔ (0 ≤ k.1 ∧ k.1 ≤ 7) ∧ (0 ≤ k.2.1 ∧ k.2.1 ≤ 4095) ∧ 0 ≤ k.2.2 ∧ k.2.2 ≤ 65535 := by
  simp [rightK, inB]
/-- Is one ahead of the other? -/
abbrev bef (a b : Ky) : Prop := a.1 < b.1 ∨ (a.1 = b.1 ∧ (a.2.1 < b.2.1 ∨ (a.2.1 = b.2.1 ∧ a.2.2 < b.2.2)))
theorem bef_irrefl (a : Ky) : ¬ bef a a := by unfold bef; omega
theorem bef_trans {a b c : Ky} (h : bef a b) (k : bef b c) : bef a c := by unfold bef at *; omega
theorem bef_asymm {a b : Ky} (h : bef a b) : ¬ bef b a := fun k => bef_irrefl a (bef_trans h k)
theorem bef_ne {a b : Ky} (h : bef a b) : a ≠ b := fun e => by subst e; exact bef_irrefl a h
theorem bef_tri (a b : Ky) : a = b ∨ bef a b ∨ bef b a := by
  obtain ⟨a1, a2, a3⟩ := a
  obtain ⟨b1, b2, b3⟩ := b
  unfold bef
  simp only [Prod.mk.injEq]
  omega

/-- What cmp.Compare tells. -/
def cmpN (x y : Int) : Int := if x < y then -1 else if y < x then 1 else 0
def orN (x y z : Int) : Int := if x ≠ 0 then x else if y ≠ 0 then y else z
theorem orN_bef (a b : Ky) : decide (orN (cmpN a.1 b.1) (cmpN a.2.1 b.2.1) (cmpN a.2.2 b.2.2) < 0) = decide (bef a b) := by
  have : (orN (cmpN a.1 b.1) (cmpN a.2.1 b.2.1) (cmpN a.2.2 b.2.2) < 0) ↔ bef a b := by
    unfold orN cmpN bef
    split <;> (repeat' split) <;> omega
  exact decide_eq_decide.2 this

/-- Entries in order. -/
def Srt (L : List En) : Prop := L.Pairwise fun x y => bef x.1 y.1
/-- A key's place, and whether it is there. -/
def fnd : List En → Ky → Nat × Bool
  | [], _ => (0, false)
  | x :: L, k => if x.1 = k then (0, true) else if bef k x.1 then (0, false) else ((fnd L k).1 + 1, (fnd L k).2)
/-- An entry put in; a key taken out; a key's number. -/
def ins : List En → En → List En
  | [], e => [e]
  | x :: L, e => if x.1 = e.1 then x :: L else if bef e.1 x.1 then e :: x :: L else x :: ins L e
def del : List En → Ky → List En
  | [], _ => []
  | x :: L, k => if x.1 = k then L else if bef k x.1 then x :: L else x :: del L k
def look : List En → Ky → Option Int
  | [], _ => none
  | x :: L, k => if x.1 = k then some x.2 else look L k

theorem fnd_le (L : List En) (k : Ky) : (fnd L k).1 ≤ L.length := by
  induction L with
  | nil => simp [fnd]
  | cons x L ih => rw [fnd]; split; simp; split; simp; simpa using ih
theorem fnd_there {L : List En} {k : Ky} (h : (fnd L k).2 = true) : ∃ x, L[(fnd L k).1]? = some x ∧ x.1 = k := by
  induction L with
  | nil => simp [fnd] at h
  | cons x L ih =>
    rw [fnd] at h ⊢
    split at h
    · rename_i h1; rw [if_pos h1]; exact ⟨x, rfl, h1⟩
    · rename_i h1
      split at h
      · simp at h
      · rename_i h2
        rw [if_neg h1, if_neg h2]
        simpa using ih h
theorem fnd_lt {L : List En} {k : Ky} (h : (fnd L k).2 = true) : (fnd L k).1 < L.length := by
  obtain ⟨x, hx, _⟩ := fnd_there h
  exact (List.getElem?_eq_some_iff.1 hx).1
theorem fnd_step {L : List En} {k : Ky} {i : Nat} {x : En} (hx : L[i]? = some x) (h1 : x.1 ≠ k) (h2 : ¬ bef k x.1) : fnd (L.drop i) k = ((fnd (L.drop (i + 1)) k).1 + 1, (fnd (L.drop (i + 1)) k).2) := by
  obtain ⟨hi, rfl⟩ := List.getElem?_eq_some_iff.1 hx
  rw [List.drop_eq_getElem_cons hi, fnd, if_neg h1, if_neg h2]
theorem fnd_here {L : List En} {k : Ky} {i : Nat} {x : En} (hx : L[i]? = some x) (h1 : x.1 = k) : fnd (L.drop i) k = (0, true) := by
  obtain ⟨hi, rfl⟩ := List.getElem?_eq_some_iff.1 hx
  rw [List.drop_eq_getElem_cons hi, fnd, if_pos h1]
theorem fnd_past {L : List En} {k : Ky} {i : Nat} {x : En} (hx : L[i]? = some x) (h1 : x.1 ≠ k) (h2 : bef k x.1) : fnd (L.drop i) k = (0, false) := by
  obtain ⟨hi, rfl⟩ := List.getElem?_eq_some_iff.1 hx
  rw [List.drop_eq_getElem_cons hi, fnd, if_neg h1, if_pos h2]

theorem ins_at {L : List En} {e : En} (h : (fnd L e.1).2 = false) : ins L e = L.take (fnd L e.1).1 ++ e :: L.drop (fnd L e.1).1 := by
  induction L with
  | nil => simp [fnd, ins]
  | cons x L ih =>
    rw [fnd] at h ⊢
    rw [ins]
    split at h
    · simp at h
    · rename_i h1
      rw [if_neg h1, if_neg h1]
      split at h
      · rename_i h2; rw [if_pos h2, if_pos h2]; simp
      · rename_i h2
        rw [if_neg h2, if_neg h2]
        simp only [List.take_succ_cons, List.drop_succ_cons, List.cons_append]
        rw [ih h]
theorem del_at {L : List En} {k : Ky} (h : (fnd L k).2 = true) : del L k = L.take (fnd L k).1 ++ L.drop ((fnd L k).1 + 1) := by
  induction L with
  | nil => simp [fnd] at h
  | cons x L ih =>
    rw [fnd] at h ⊢
    rw [del]
    split at h
    · rename_i h1; rw [if_pos h1, if_pos h1]; simp
    · rename_i h1
      split at h
      · simp at h
      · rename_i h2
        rw [if_neg h1, if_neg h1, if_neg h2, if_neg h2]
        simp only [List.take_succ_cons, List.drop_succ_cons, List.cons_append]
        rw [ih h]
theorem ins_length {L : List En} {e : En} (h : (fnd L e.1).2 = false) : (ins L e).length = L.length + 1 := by
  rw [ins_at h]; have := fnd_le L e.1; simp; omega
theorem del_length {L : List En} {k : Ky} (h : (fnd L k).2 = true) : (del L k).length + 1 = L.length := by
  rw [del_at h]; have := fnd_lt h; simp; omega
theorem ins_mem {L : List En} {e y : En} (h : y ∈ ins L e) : y = e ∨ y ∈ L := by
  induction L with
  | nil => simp [ins] at h; exact .inl h
  | cons x L ih =>
    rw [ins] at h
    split at h
    · exact .inr h
    · split at h
      · simpa using h
      · rcases List.mem_cons.1 h with rfl | h
        · exact .inr (List.mem_cons_self ..)
        · rcases ih h with h | h
          · exact .inl h
          · exact .inr (List.mem_cons_of_mem _ h)
theorem del_mem {L : List En} {k : Ky} {y : En} (h : y ∈ del L k) : y ∈ L := by
  induction L with
  | nil => simp [del] at h
  | cons x L ih =>
    rw [del] at h
    split at h
    · exact List.mem_cons_of_mem _ h
    · split at h
      · exact h
      · rcases List.mem_cons.1 h with rfl | h
        · exact List.mem_cons_self ..
        · exact List.mem_cons_of_mem _ (ih h)
theorem ins_srt {L : List En} (e : En) (h : Srt L) : Srt (ins L e) := by
  induction L with
  | nil => simp [ins, Srt]
  | cons x L ih =>
    have h' := List.pairwise_cons.1 h
    rw [ins]
    split
    · exact h
    · rename_i h1
      split
      · rename_i h2
        refine List.pairwise_cons.2 ⟨fun y hy => ?_, h⟩
        rcases List.mem_cons.1 hy with rfl | hy
        · exact h2
        · exact bef_trans h2 (h'.1 y hy)
      · rename_i h2
        refine List.pairwise_cons.2 ⟨fun y hy => ?_, ih h'.2⟩
        rcases ins_mem hy with rfl | hy
        · rcases bef_tri x.1 y.1 with h | h | h
          · exact absurd h h1
          · exact h
          · exact absurd h h2
        · exact h'.1 y hy
theorem del_srt {L : List En} (k : Ky) (h : Srt L) : Srt (del L k) := by
  induction L with
  | nil => simp [del, Srt]
  | cons x L ih =>
    have h' := List.pairwise_cons.1 h
    rw [del]
    split
    · exact h'.2
    · split
      · exact h
      · exact List.pairwise_cons.2 ⟨fun y hy => h'.1 y (del_mem hy), ih h'.2⟩

theorem look_past {L : List En} {k : Ky} (h : ∀ y ∈ L, bef k y.1) : look L k = none := by
  induction L with
  | nil => rfl
  | cons x L ih => rw [look, if_neg (fun e => bef_ne (h x (List.mem_cons_self ..)) e.symm)]; exact ih fun y hy => h y (List.mem_cons_of_mem _ hy)
theorem srt_past {x : En} {L : List En} {k : Ky} (h : Srt (x :: L)) (hk : bef k x.1) : ∀ y ∈ x :: L, bef k y.1 := fun y hy => by
  rcases List.mem_cons.1 hy with rfl | hy
  · exact hk
  · exact bef_trans hk ((List.pairwise_cons.1 h).1 y hy)
theorem fnd_look {L : List En} (h : Srt L) (k : Ky) : (fnd L k).2 = (look L k).isSome ∧ ∀ x, (fnd L k).2 = true → L[(fnd L k).1]? = some x → look L k = some x.2 := by
  induction L with
  | nil => simp [fnd, look]
  | cons x L ih =>
    rw [fnd]
    by_cases h1 : x.1 = k
    · rw [if_pos h1, look, if_pos h1]
      exact ⟨rfl, fun y _ hy => by simp at hy; rw [hy]⟩
    · rw [if_neg h1]
      by_cases h2 : bef k x.1
      · rw [if_pos h2, look_past (srt_past h h2)]
        exact ⟨rfl, fun y hy => by cases hy⟩
      · rw [if_neg h2, look, if_neg h1]
        obtain ⟨i1, i2⟩ := ih (List.pairwise_cons.1 h).2
        exact ⟨i1, fun y hy hx => i2 y hy (by simpa using hx)⟩
theorem look_ins {L : List En} (h : Srt L) (e : En) (hn : (fnd L e.1).2 = false) (k : Ky) : look (ins L e) k = if e.1 = k then some e.2 else look L k := by
  induction L with
  | nil => simp [ins, look]
  | cons x L ih =>
    rw [fnd] at hn
    rw [ins]
    split at hn
    · simp at hn
    · rename_i h1
      rw [if_neg h1]
      split at hn
      · rename_i h2; rw [if_pos h2]; rw [look]
      · rename_i h2
        rw [if_neg h2, look, look, ih (List.pairwise_cons.1 h).2 hn]
        by_cases h3 : x.1 = k
        · rw [if_pos h3, if_pos h3, if_neg (fun e' => h1 (h3.trans e'.symm))]
        · rw [if_neg h3, if_neg h3]
theorem look_del {L : List En} (h : Srt L) (q k : Ky) : look (del L q) k = if q = k then none else look L k := by
  induction L with
  | nil => simp [del, look]
  | cons x L ih =>
    have h' := List.pairwise_cons.1 h
    rw [del]
    by_cases h1 : x.1 = q
    · rw [if_pos h1, look]
      by_cases h3 : q = k
      · rw [if_pos h3]; exact look_past fun y hy => by rw [← h3, ← h1]; exact h'.1 y hy
      · rw [if_neg h3, if_neg (fun e => h3 (h1.symm.trans e))]
    · rw [if_neg h1]
      by_cases h2 : bef q x.1
      · rw [if_pos h2]
        by_cases h3 : q = k
        · rw [if_pos h3]; exact look_past (h3 ▸ srt_past h h2)
        · rw [if_neg h3]
      · rw [if_neg h2, look, look, ih h'.2]
        by_cases h3 : x.1 = k
        · rw [if_pos h3, if_pos h3, if_neg (fun e => h1 (h3.trans e.symm))]
        · rw [if_neg h3, if_neg h3]
theorem del_none {L : List En} (h : Srt L) {k : Ky} (hn : (fnd L k).2 = false) : del L k = L := by
  induction L with
  | nil => rfl
  | cons x L ih =>
    rw [fnd] at hn
    rw [del]
    split at hn
    · simp at hn
    · rename_i h1
      rw [if_neg h1]
      split at hn
      · rename_i h2; rw [if_pos h2]
      · rename_i h2; rw [if_neg h2, ih (List.pairwise_cons.1 h).2 hn]
/-- What is put in, and taken out, leaves what there was; and it is there till then. -/
theorem del_ins {L : List En} {e : En} (hn : (fnd L e.1).2 = false) : del (ins L e) e.1 = L ∧ (fnd (ins L e) e.1).2 = true := by
  induction L with
  | nil => simp [ins, del, fnd]
  | cons x L ih =>
    rw [fnd] at hn
    rw [ins]
    split at hn
    · simp at hn
    · rename_i h1
      rw [if_neg h1]
      split at hn
      · rename_i h2; rw [if_pos h2, del, if_pos rfl, fnd, if_pos rfl]; exact ⟨rfl, rfl⟩
      · rename_i h2
        obtain ⟨i1, i2⟩ := ih hn
        rw [if_neg h2, del, if_neg h1, if_neg h2, fnd, if_neg h1, if_neg h2, i1]
        exact ⟨rfl, i2⟩
theorem ins_end {L : List En} {e : En} (h : ∀ y ∈ L, bef y.1 e.1) : ins L e = L ++ [e] ∧ (fnd L e.1).2 = false := by
  induction L with
  | nil => simp [ins, fnd]
  | cons x L ih =>
    have hx := h x (List.mem_cons_self ..)
    obtain ⟨i1, i2⟩ := ih fun y hy => h y (List.mem_cons_of_mem _ hy)
    rw [ins, fnd, if_neg (bef_ne hx), if_neg (bef_asymm hx), if_neg (bef_ne hx), if_neg (bef_asymm hx), i1, i2]
    exact ⟨rfl, rfl⟩
theorem srt_take {L : List En} (h : Srt L) (i : Nat) : Srt (L.take i) := List.Pairwise.sublist (List.take_sublist i L) h
theorem srt_drop {L : List En} (h : Srt L) (i : Nat) : Srt (L.drop i) := List.Pairwise.sublist (List.drop_sublist i L) h
theorem srt_lt {L : List En} (h : Srt L) {i j : Nat} {x y : En} (hi : L[i]? = some x) (hj : L[j]? = some y) (hij : i < j) : bef x.1 y.1 := by
  obtain ⟨h1, rfl⟩ := List.getElem?_eq_some_iff.1 hi
  obtain ⟨h2, rfl⟩ := List.getElem?_eq_some_iff.1 hj
  exact List.pairwise_iff_getElem.1 h i j h1 h2 hij

/-- What a table holds: entries in order, whose keys can be, no more than there is room for. -/
structure Ok (L : List En) (room : Nat) : Prop where
  srt : Srt L
  rig : ∀ x ∈ L, rightK x.1 = true
  len : L.length ≤ room
  room : room ≤ 64
/-- What Put answers, and leaves. -/
def putE (L : List En) (room : Nat) (k : Ky) : Int := if rightK k = false then 1 else if (fnd L k).2 = true then 7 else if L.length = room then 9 else 0
def putL (L : List En) (room : Nat) (e : En) : List En := if putE L room e.1 = 0 then ins L e else L
theorem putE_zero {L : List En} {room : Nat} {k : Ky} (h : putE L room k = 0) : rightK k = true ∧ (fnd L k).2 = false ∧ L.length ≠ room := by
  unfold putE at h
  split at h
  · omega
  · rename_i h1
    split at h
    · omega
    · rename_i h2
      split at h
      · omega
      · rename_i h3
        exact ⟨by simpa using h1, by simpa using h2, h3⟩
theorem Ok.put {L : List En} {room : Nat} (h : Ok L room) (e : En) : Ok (putL L room e) room := by
  unfold putL
  split
  · rename_i h0
    obtain ⟨h1, h2, h3⟩ := putE_zero h0
    refine ⟨ins_srt e h.srt, fun x hx => ?_, by rw [ins_length h2]; have := h.len; omega, h.room⟩
    rcases ins_mem hx with rfl | hx
    · exact h1
    · exact h.rig x hx
  · exact h
/-- What Get answers; what Drop answers, and leaves. -/
def getN (L : List En) (k : Ky) : Int := (look L k).getD 0
def getB (L : List En) (k : Ky) : Bool := (look L k).isSome
theorem Ok.del {L : List En} {room : Nat} (h : Ok L room) (k : Ky) : Ok (del L k) room := by
  refine ⟨del_srt k h.srt, fun x hx => h.rig x (del_mem hx), ?_, h.room⟩
  cases hb : (fnd L k).2 with
  | true => have := del_length hb; have := h.len; omega
  | false => rw [del_none h.srt hb]; exact h.len
theorem ok_nil {room : Nat} (h : room ≤ 64) : Ok [] room := ⟨List.Pairwise.nil, by simp, by simp, h⟩
theorem Ok.get_no {L : List En} {room : Nat} (h : Ok L room) {k : Ky} (hb : (fnd L k).2 = false) : getN L k = 0 ∧ getB L k = false := by
  have h1 := (fnd_look h.srt k).1
  rw [hb] at h1
  unfold getN getB
  cases hl : look L k with
  | none => simp
  | some x => rw [hl] at h1; cases h1
theorem Ok.get_yes {L : List En} {room : Nat} (h : Ok L room) {k : Ky} (hb : (fnd L k).2 = true) {x : En} (hx : L[(fnd L k).1]? = some x) : getN L k = x.2 ∧ getB L k = true := by
  have h1 := (fnd_look h.srt k).2 x hb hx
  unfold getN getB
  rw [h1]
  exact ⟨rfl, rfl⟩
theorem Ok.fndB {L : List En} {room : Nat} (h : Ok L room) (k : Ky) : (fnd L k).2 = getB L k := (fnd_look h.srt k).1
end Go.Proofs.Ytgimmaancnlbcaa
