/- Proved here: how slices of bookings lie in memory, and how they are appended. Conditions: as each theorem states them. -/
import Derived.Laws.OwnMore
import Derived.Lib.AppendZerosOnto
import Derived.Test.YtpljpndegadckaaXv
namespace Go.Proofs.Ytpljpndegadckaa
set_option linter.unusedSimpArgs false
set_option linter.unusedVariables false
open Go.RowKit Go.Shelf

theorem below_box (w : World) (o : Obj) : Below w.heap.size w (w.alloc o) := (Below.refl _ w).alloc (Nat.le_refl _) o
/-- The cells of bookings that lie side by side. -/
def ecells (L : List En) : List Value := L.flatMap fun x => [.int .i64 x.1, .int .i64 x.2]
theorem ecells_nil : ecells [] = [] := rfl
theorem ecells_cons (x : En) (L : List En) : ecells (x :: L) = .int .i64 x.1 :: .int .i64 x.2 :: ecells L := by simp [ecells]
theorem ecells_append (L M : List En) : ecells (L ++ M) = ecells L ++ ecells M := by simp [ecells]
theorem ecells_length (L : List En) : (ecells L).length = L.length * 2 := by
  induction L with
  | nil => rfl
  | cons x L ih => rw [ecells_cons]; simp [ih]; omega
theorem ecells_get {L : List En} {j : Nat} {x : En} (h : L[j]? = some x) : (ecells L)[j * 2]? = some (.int .i64 x.1) ∧ (ecells L)[j * 2 + 1]? = some (.int .i64 x.2) := by
  induction L generalizing j with
  | nil => cases h
  | cons y L ih =>
    rw [ecells_cons]
    cases j with
    | zero => simp at h; subst h; simp
    | succ j =>
      have := ih (j := j) (by simpa using h)
      simp only [show (j + 1) * 2 = j * 2 + 1 + 1 by omega, show j * 2 + 1 + 1 + 1 = (j * 2 + 1) + 1 + 1 by omega, List.getElem?_cons_succ]
      exact this
theorem ecells_one {L : List En} : ∀ v ∈ ecells L, v.oneCell' = true := by
  intro v hv
  simp only [ecells, List.mem_flatMap] at hv
  obtain ⟨x, _, hx⟩ := hv
  simp at hx
  rcases hx with rfl | rfl <;> rfl

/-- A slice of bookings holds L; it lies below n. -/
def IsE (n : Nat) (W : World) (a : Option Addr) (len c : Nat) (L : List En) : Prop :=
  len = L.length ∧ (a = none → c = 0) ∧ (L = [] ∨ ∃ b off, a = some ⟨b, off, none⟩ ∧ b < n ∧ ∀ j v, (ecells L)[j]? = some v → W.cell? ⟨b, off + j, none⟩ = some v)
theorem IsE.below {n m : Nat} {A B : World} {a : Option Addr} {len c : Nat} {L : List En} (h : IsE n A a len c L) (hb : Below m A B) (hm : n ≤ m) : IsE n B a len c L := by
  obtain ⟨h1, h2, h3⟩ := h
  refine ⟨h1, h2, ?_⟩
  rcases h3 with h3 | ⟨b, off, e, hl, hc⟩
  · exact .inl h3
  · exact .inr ⟨b, off, e, hl, fun j v hv => (hb.cell (p := ⟨b, off + j, none⟩) (by show b < m; omega)).trans (hc j v hv)⟩
theorem IsE.mono {n m : Nat} {A : World} {a : Option Addr} {len c : Nat} {L : List En} (h : IsE n A a len c L) (hm : n ≤ m) : IsE m A a len c L := by
  obtain ⟨h1, h2, h3⟩ := h
  refine ⟨h1, h2, ?_⟩
  rcases h3 with h3 | ⟨b, off, e, hl, hc⟩
  · exact .inl h3
  · exact .inr ⟨b, off, e, by omega, hc⟩
/-- What lies at its i-th place. -/
theorem IsE.at {n : Nat} {W : World} {a : Option Addr} {len c : Nat} {L : List En} (h : IsE n W a len c L) {i : Nat} (hi : i < len) :
    ∃ b off x, a = some ⟨b, off, none⟩ ∧ b < n ∧ L[i]? = some x ∧ ∀ W' : World, W'.heap[b]? = W.heap[b]? → W'.cell? ⟨b, off + i * 2, none⟩ = some (.int .i64 x.1) ∧ W'.cell? ⟨b, off + i * 2 + 1, none⟩ = some (.int .i64 x.2) := by
  have hl : i < L.length := by have := h.1; omega
  have hx : L[i]? = some L[i] := List.getElem?_eq_getElem hl
  obtain ⟨g0, g1⟩ := ecells_get hx
  rcases h.2.2 with rfl | ⟨b, off, e, hb', hc⟩
  · cases hx
  · refine ⟨b, off, _, e, hb', hx, fun W' hW => ?_⟩
    have cc : ∀ k, W'.cell? ⟨b, k, none⟩ = W.cell? ⟨b, k, none⟩ := fun k => by unfold World.cell?; rw [hW]
    exact ⟨(cc _).trans (hc _ _ g0), (cc _).trans (hc _ _ g1)⟩
/-- A part of it. -/
theorem IsE.take {n : Nat} {W : World} {a : Option Addr} {len c : Nat} {L : List En} (h : IsE n W a len c L) {k : Nat} (hk : k ≤ len) : IsE n W a k c (L.take k) := by
  obtain ⟨h1, h2, h3⟩ := h
  refine ⟨by rw [List.length_take]; omega, h2, ?_⟩
  rcases h3 with rfl | ⟨b, off, e, hl, hc⟩
  · exact .inl (by simp)
  · refine .inr ⟨b, off, e, hl, fun j v hv => hc j v ?_⟩
    have e2 : ecells L = ecells (L.take k) ++ ecells (L.drop k) := by rw [← ecells_append, List.take_append_drop]
    rw [e2, List.getElem?_append_left (List.getElem?_eq_some_iff.1 hv).1]
    exact hv

/-- A slice of bookings in a block of its own, from base on. -/
def ES (base : Nat) (w : World) (a : Option Addr) (n c : Nat) (L : List En) : Prop := n = L.length ∧ w.ownsRow base 60 2 (.slice a n c) n (ecells L)
theorem es_nil (base : Nat) (w : World) : ES base w none 0 0 [] := ⟨rfl, World.ownsRow_nil w base _ 2⟩
theorem es_lit (base : Nat) (w : World) (hb : base ≤ w.heap.size) (x : En) : ES base (w.alloc (.cells #[.int .i64 x.1, .int .i64 x.2] 60)) (some ⟨w.heap.size, 0, none⟩) 1 1 [x] :=
  ⟨rfl, World.ownsRow_lit w #[.int .i64 x.1, .int .i64 x.2] 1 hb (by decide) rfl⟩
theorem ES.mono {base base' : Nat} {w : World} {a : Option Addr} {n c : Nat} {L : List En} (h : ES base w a n c L) (hb : base' ≤ base) : ES base' w a n c L := by
  obtain ⟨hn, hl, ho⟩ := h
  refine ⟨hn, hl, ?_⟩
  rcases ho with ho | ⟨g, cap, cur, e, hg, r⟩
  · exact .inl ho
  · exact .inr ⟨g, cap, cur, e, by omega, r⟩
theorem ES.isE {base : Nat} {w : World} {a : Option Addr} {n c : Nat} {L : List En} (h : ES base w a n c L) : IsE w.heap.size w a n c L := by
  obtain ⟨hn, hl, ho⟩ := h
  rcases ho with ⟨e, h0⟩ | ⟨g, cap, cur, e, hg, hh, h1, h2, h3, h4⟩
  · simp only [Value.slice.injEq] at e
    exact ⟨hn, fun _ => e.2.2, .inl (List.eq_nil_of_length_eq_zero (by omega))⟩
  · simp only [Value.slice.injEq] at e
    refine ⟨hn, (fun e0 => by rw [e.1] at e0; cases e0), .inr ⟨g, 0, e.1, (Array.getElem?_eq_some_iff.1 hh).1, fun j v hv => ?_⟩⟩
    rw [Nat.zero_add]
    rw [← h4, List.getElem?_take] at hv
    split at hv
    · exact BK.cell hh j v (by simpa using hv)
    · cases hv
/-- Bookings lie as they lay. -/
def KE (w w' : World) : Prop := ∀ k vs, BK w k vs 60 → BK w' k vs 60
theorem KE.of {m : Nat} {w w' : World} (h : Below m w w') (hm : w.heap.size ≤ m) : KE w w' := fun k vs hb => hb.below h (by have := hb.lt; omega)
theorem KE.trans {a b c : World} (h : KE a b) (k : KE b c) : KE a c := fun j vs hb => k j vs (h j vs hb)
theorem KE.but {m r : Nat} {w w' : World} {us : Array Value} {t : TypeId} (h : But r m w w') (hm : w.heap.size ≤ m) (hr : BK w r us t) (ht : t ≠ 60) : KE w w' := fun k vs hb =>
  hb.but h (by have := hb.lt; omega) (fun e => by subst e; have hb' : w.heap[k]? = _ := hb; rw [show w.heap[k]? = _ from hr] at hb'; cases hb'; exact ht rfl)
theorem KE.x {m b mb n : Nat} {w w' : World} {L : List En} {room : Int} (h : But2 b mb m w w') (hm : w.heap.size ≤ m) (hx : XV w b mb L room n) : KE w w' := fun k vs hb => by
  refine hb.but2 h (by have := hb.lt; omega) (fun e => ?_) (fun e => ?_)
  · subst e
    have hb' : w.heap[k]? = _ := hb
    rw [show w.heap[k]? = _ from hx.bk] at hb'
    cases hb'
  · subst e
    obtain ⟨D, ⟨es, c, h1, _⟩, _⟩ := hx.map
    have hb' : w.heap[k]? = _ := hb
    rw [h1] at hb'
    cases hb'
theorem ES.ke {base : Nat} {A B : World} {a : Option Addr} {n c : Nat} {L : List En} (h : ES base A a n c L) (hk : KE A B) : ES base B a n c L := by
  obtain ⟨hn, hl, ho⟩ := h
  refine ⟨hn, hl, ?_⟩
  rcases ho with ho | ⟨g, cap, cur, e, hg, hh, r⟩
  · exact .inl ho
  · exact .inr ⟨g, cap, cur, e, hg, hk g cur hh, r⟩
theorem ES.below {base m : Nat} {A B : World} {a : Option Addr} {n c : Nat} {L : List En} (h : ES base A a n c L) (hb : Below m A B) (hm : A.heap.size ≤ m) : ES base B a n c L := h.ke (KE.of hb hm)

theorem info_e : (Try.prog.info? 60).map (fun i => (i.zero, i.size, i.bytes)) = some (some (.agg #[.int .i64 0, .int .i64 0]), 2, 16) := by kernel_rfl

/-- Bookings appended to a slice of one's own. -/
theorem run_app_e (w : World) (base : Nat) (hbase : base ≤ w.heap.size) (a : Option Addr) (n c : Nat) (L : List En) (hv : ES base w a n c L) (ty : TypeId) (k : Nat) (a2 : Option Addr) (m c2 : Nat) (M : List En) (hM : IsE k w a2 m c2 M) (hn : n + m ≤ 2000) :
    ∃ a' c' w', (Builtin.append_ #[37, 37] ty #[.slice a n c, .slice a2 m c2]).run Try.prog w = .ok (.slice a' (n + m) c') w' ∧ ES base w' a' (n + m) c' (L ++ M) ∧ Below base w w' ∧ w.grownBy w' (Value.slice a n c).ownBlock := by
  obtain ⟨i0, hi, hz0, hz1, hz2⟩ := info_parts info_e
  have ht := Try.underlying37
  obtain ⟨rfl, hown⟩ := hv
  obtain ⟨hmM, hc0, hM⟩ := hM
  cases a2 with
  | none =>
    obtain rfl : M = [] := by
      rcases hM with h | ⟨b, off, e, _⟩
      · exact h
      · cases e
    obtain rfl : m = 0 := hmM
    obtain rfl := hc0 rfl
    exact ⟨a, c, w, run_append_owned_none (P := Try.prog) (w := w) base _ ty _ i0 2 ht hi _ _ _ hown, ⟨by simp, by simpa using hown⟩, Below.refl _ _, ⟨rfl, rfl, rfl, Nat.le_refl _, fun _ _ _ => rfl⟩⟩
  | some y =>
    have hnews : ∀ j u, (ecells M)[j]? = some u → w.cell? (y.add j) = some u := by
      intro j u hu
      rcases hM with rfl | ⟨b, off, e, _, hc⟩
      · simp [ecells_nil] at hu
      · simp only [Option.some.injEq] at e
        subst e
        rw [Addr.add_lit]
        exact hc j u hu
    obtain ⟨v', w', hrun, ho, hgr, hne⟩ := run_append_own (P := Try.prog) w base _ ty _ i0 _ 2 16 ht hi hz0 hz1 hz2 rfl (by decide) _ _ _ hown y m c2 (ecells M) (by rw [ecells_length, hmM]) hnews ecells_one (by unfold maxLen; omega) (by omega) hbase
    have hB : Below base w w' := (Below.refl base w).grown hgr hbase (fun k e => (hown.lt k e).1)
    obtain ⟨hl, h⟩ := ho
    have h' := h
    rcases h with ⟨e1, hn0⟩ | ⟨g', cap, cur', e1, _⟩
    · subst e1
      refine ⟨none, 0, w', by rw [hn0]; exact hrun, ⟨by simp [hmM], ⟨by rw [ecells_append]; exact hl, by rw [ecells_append, hn0]; rw [hn0] at h'; exact h'⟩⟩, hB, hgr⟩
    · subst e1
      exact ⟨_, cap, w', hrun, ⟨by simp [hmM], ⟨by rw [ecells_append]; exact hl, by rw [ecells_append]; exact h'⟩⟩, hB, hgr⟩
/-- One booking, as it is spelled in a slice of its own. -/
theorem isE_lit (w : World) (x y : Int) (t : TypeId) (m : Nat) (hm : w.heap.size < m) : IsE m (w.alloc (.cells #[.int .i64 x, .int .i64 y] t)) (some ⟨w.heap.size, 0, none⟩) 1 1 [(x, y)] :=
  ⟨rfl, (fun e => by cases e), .inr ⟨w.heap.size, 0, rfl, hm, fun j v hv => by
    rw [Nat.zero_add]
    exact cell_alloc_any w _ t _ j v (by simpa [ecells] using hv)⟩⟩
end Go.Proofs.Ytpljpndegadckaa
