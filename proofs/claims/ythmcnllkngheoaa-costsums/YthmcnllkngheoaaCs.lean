/- Proved here: how slices of contracts lie in memory, how they are appended, and what their costs sum up to. Conditions: as each theorem states them. -/
import Derived.Laws.OwnMore
import Derived.Lib.AppendZerosOnto
import Derived.Test.YthmcnllkngheoaaPl
namespace Go.Proofs.Ythmcnllkngheoaa
set_option linter.unusedSimpArgs false
set_option linter.unusedVariables false
open Go.RowKit Go.Shelf

/-- A contract by its numbers. -/
structure C6 where
  k : Int
  p : Int
  e : Int
  w : Int
  b : Int
  l : Int
abbrev C6.V (x : C6) : Value := cV x.k x.p x.e x.w x.b x.l
/-- What it costs; what many cost. -/
def costC (x : C6) : Int := needN x.k x.p x.e x.w x.b x.l
theorem costC_bounds (x : C6) : 0 ≤ costC x ∧ costC x ≤ 1048576 := need_bounds _ _ _ _ _ _
def sumI : List Int → Int
  | [] => 0
  | x :: l => x + sumI l
theorem sumI_append (l m : List Int) : sumI (l ++ m) = sumI l + sumI m := by
  induction l with
  | nil => simp [sumI]
  | cons x l ih => rw [List.cons_append, sumI, sumI, ih]; omega
theorem sumI_snoc (l : List Int) (x : Int) : sumI (l ++ [x]) = sumI l + x := by rw [sumI_append]; simp [sumI]
theorem sumI_bounds {l : List Int} (h : ∀ x ∈ l, 0 ≤ x ∧ x ≤ 1048576) : 0 ≤ sumI l ∧ sumI l ≤ l.length * 1048576 := by
  induction l with
  | nil => simp [sumI]
  | cons x l ih =>
    have h1 := h x (List.mem_cons_self ..)
    have h2 := ih fun y hy => h y (List.mem_cons_of_mem _ hy)
    rw [sumI, List.length_cons]
    push_cast
    omega
def sumC (L : List C6) : Int := sumI (L.map costC)
theorem sumC_nil : sumC [] = 0 := rfl
theorem sumC_append (L M : List C6) : sumC (L ++ M) = sumC L + sumC M := by unfold sumC; rw [List.map_append, sumI_append]
theorem sumC_one (x : C6) : sumC [x] = costC x := by simp [sumC, sumI]
theorem sumC_snoc (L : List C6) (x : C6) : sumC (L ++ [x]) = sumC L + costC x := by rw [sumC_append, sumC_one]
theorem sumC_bounds (L : List C6) : 0 ≤ sumC L ∧ sumC L ≤ L.length * 1048576 := by
  have := sumI_bounds (l := L.map costC) (by
    intro x hx
    obtain ⟨y, _, rfl⟩ := List.mem_map.1 hx
    exact costC_bounds y)
  rwa [List.length_map] at this
theorem sumC_reverse (L : List C6) : sumC L.reverse = sumC L := by
  induction L with
  | nil => rfl
  | cons x L ih => rw [List.reverse_cons, sumC_append, ih, sumC_one, show x :: L = [x] ++ L from rfl, sumC_append, sumC_one]; omega
theorem sumC_rep (x : C6) (n : Nat) : sumC (List.replicate n x) = n * costC x := by
  induction n with
  | zero => simp [sumC_nil]
  | succ n ih => rw [List.replicate_succ', sumC_snoc, ih]; push_cast; rw [Int.add_mul]; omega

/-- The cells of contracts that lie side by side. -/
def ccells (L : List C6) : List Value := L.flatMap fun x => [.int .i64 x.k, .int .i64 x.p, .int .i64 x.e, .int .i64 x.w, .int .i64 x.b, .int .i64 x.l]
theorem ccells_nil : ccells [] = [] := rfl
theorem ccells_cons (x : C6) (L : List C6) : ccells (x :: L) = .int .i64 x.k :: .int .i64 x.p :: .int .i64 x.e :: .int .i64 x.w :: .int .i64 x.b :: .int .i64 x.l :: ccells L := by simp [ccells]
theorem ccells_append (L M : List C6) : ccells (L ++ M) = ccells L ++ ccells M := by simp [ccells]
theorem ccells_length (L : List C6) : (ccells L).length = L.length * 6 := by
  induction L with
  | nil => rfl
  | cons x L ih => rw [ccells_cons]; simp [ih]; omega
theorem ccells_get {L : List C6} {j : Nat} {x : C6} (h : L[j]? = some x) :
    (ccells L)[j * 6]? = some (.int .i64 x.k) ∧ (ccells L)[j * 6 + 1]? = some (.int .i64 x.p) ∧ (ccells L)[j * 6 + 2]? = some (.int .i64 x.e) ∧ (ccells L)[j * 6 + 3]? = some (.int .i64 x.w) ∧ (ccells L)[j * 6 + 4]? = some (.int .i64 x.b) ∧ (ccells L)[j * 6 + 5]? = some (.int .i64 x.l) := by
  induction L generalizing j with
  | nil => cases h
  | cons y L ih =>
    rw [ccells_cons]
    cases j with
    | zero => simp at h; subst h; simp
    | succ j =>
      have := ih (j := j) (by simpa using h)
      simp only [show (j + 1) * 6 = j * 6 + 1 + 1 + 1 + 1 + 1 + 1 by omega, show j * 6 + 1 + 1 + 1 + 1 + 1 + 1 + 1 = (j * 6 + 1) + 1 + 1 + 1 + 1 + 1 + 1 by omega, show j * 6 + 1 + 1 + 1 + 1 + 1 + 1 + 2 = (j * 6 + 2) + 1 + 1 + 1 + 1 + 1 + 1 by omega, show j * 6 + 1 + 1 + 1 + 1 + 1 + 1 + 3 = (j * 6 + 3) + 1 + 1 + 1 + 1 + 1 + 1 by omega, show j * 6 + 1 + 1 + 1 + 1 + 1 + 1 + 4 = (j * 6 + 4) + 1 + 1 + 1 + 1 + 1 + 1 by omega, show j * 6 + 1 + 1 + 1 + 1 + 1 + 1 + 5 = (j * 6 + 5) + 1 + 1 + 1 + 1 + 1 + 1 by omega, List.getElem?_cons_succ]
      exact this
theorem ccells_one {L : List C6} : ∀ v ∈ ccells L, v.oneCell' = true := by
  intro v hv
  simp only [ccells, List.mem_flatMap] at hv
  obtain ⟨x, _, hx⟩ := hv
  simp at hx
  rcases hx with rfl | rfl | rfl | rfl | rfl | rfl <;> rfl

/-- A slice of contracts holds L; it lies below n. -/
def IsT (n : Nat) (W : World) (a : Option Addr) (len c : Nat) (L : List C6) : Prop :=
  len = L.length ∧ (a = none → c = 0) ∧ (L = [] ∨ ∃ b off, a = some ⟨b, off, none⟩ ∧ b < n ∧ ∀ j v, (ccells L)[j]? = some v → W.cell? ⟨b, off + j, none⟩ = some v)
theorem IsT.below {n m : Nat} {A B : World} {a : Option Addr} {len c : Nat} {L : List C6} (h : IsT n A a len c L) (hb : Below m A B) (hm : n ≤ m) : IsT n B a len c L := by
  obtain ⟨h1, h2, h3⟩ := h
  refine ⟨h1, h2, ?_⟩
  rcases h3 with h3 | ⟨b, off, e, hl, hc⟩
  · exact .inl h3
  · exact .inr ⟨b, off, e, hl, fun j v hv => (hb.cell (p := ⟨b, off + j, none⟩) (by show b < m; omega)).trans (hc j v hv)⟩
theorem IsT.mono {n m : Nat} {A : World} {a : Option Addr} {len c : Nat} {L : List C6} (h : IsT n A a len c L) (hm : n ≤ m) : IsT m A a len c L := by
  obtain ⟨h1, h2, h3⟩ := h
  refine ⟨h1, h2, ?_⟩
  rcases h3 with h3 | ⟨b, off, e, hl, hc⟩
  · exact .inl h3
  · exact .inr ⟨b, off, e, by omega, hc⟩
theorem isT_nil (n : Nat) (W : World) : IsT n W none 0 0 [] := ⟨rfl, fun _ => rfl, .inl rfl⟩
/-- What lies at its i-th place. -/
theorem IsT.at {n : Nat} {W : World} {a : Option Addr} {len c : Nat} {L : List C6} (h : IsT n W a len c L) {i : Nat} (hi : i < len) :
    ∃ b off x, a = some ⟨b, off, none⟩ ∧ b < n ∧ L[i]? = some x ∧ ∀ W' : World, W'.heap[b]? = W.heap[b]? → W'.cell? ⟨b, off + i * 6, none⟩ = some (.int .i64 x.k) ∧ W'.cell? ⟨b, off + i * 6 + 1, none⟩ = some (.int .i64 x.p) ∧ W'.cell? ⟨b, off + i * 6 + 1 + 1, none⟩ = some (.int .i64 x.e) ∧ W'.cell? ⟨b, off + i * 6 + 1 + 1 + 1, none⟩ = some (.int .i64 x.w) ∧ W'.cell? ⟨b, off + i * 6 + 1 + 1 + 1 + 1, none⟩ = some (.int .i64 x.b) ∧ W'.cell? ⟨b, off + i * 6 + 1 + 1 + 1 + 1 + 1, none⟩ = some (.int .i64 x.l) := by
  have hl : i < L.length := by have := h.1; omega
  have hx : L[i]? = some L[i] := List.getElem?_eq_getElem hl
  obtain ⟨g0, g1, g2, g3, g4, g5⟩ := ccells_get hx
  rcases h.2.2 with rfl | ⟨b, off, e, hb', hc⟩
  · cases hx
  · refine ⟨b, off, _, e, hb', hx, fun W' hW => ?_⟩
    have cc : ∀ k, W'.cell? ⟨b, k, none⟩ = W.cell? ⟨b, k, none⟩ := fun k => by unfold World.cell?; rw [hW]
    exact ⟨(cc _).trans (hc _ _ g0), (cc _).trans (hc _ _ g1), (cc _).trans (hc _ _ g2), (cc _).trans (hc _ _ g3), (cc _).trans (hc _ _ g4), (cc _).trans (hc _ _ g5)⟩

/-- A slice of contracts in a block of its own, from base on. -/
def CS (base : Nat) (w : World) (a : Option Addr) (n c : Nat) (L : List C6) : Prop := n = L.length ∧ w.ownsRow base 23 6 (.slice a n c) n (ccells L)
theorem cs_nil (base : Nat) (w : World) : CS base w none 0 0 [] := ⟨rfl, World.ownsRow_nil w base _ 6⟩
theorem cs_new (base : Nat) (w : World) (hb : base ≤ w.heap.size) : CS base (w.alloc (.cells #[] 23)) (some ⟨w.heap.size, 0, none⟩) 0 0 [] :=
  ⟨rfl, World.ownsRow_made w #[] 0 hb (by decide) rfl⟩
theorem cs_lit (base : Nat) (w : World) (hb : base ≤ w.heap.size) (x : C6) : CS base (w.alloc (.cells #[.int .i64 x.k, .int .i64 x.p, .int .i64 x.e, .int .i64 x.w, .int .i64 x.b, .int .i64 x.l] 23)) (some ⟨w.heap.size, 0, none⟩) 1 1 [x] :=
  ⟨rfl, World.ownsRow_lit w #[.int .i64 x.k, .int .i64 x.p, .int .i64 x.e, .int .i64 x.w, .int .i64 x.b, .int .i64 x.l] 1 hb (by decide) rfl⟩
theorem CS.isT {base : Nat} {w : World} {a : Option Addr} {n c : Nat} {L : List C6} (h : CS base w a n c L) : IsT w.heap.size w a n c L := by
  obtain ⟨hn, hl, ho⟩ := h
  rcases ho with ⟨e, h0⟩ | ⟨g, cap, cur, e, hg, hh, h1, h2, h3, h4⟩
  · simp only [Value.slice.injEq] at e
    exact ⟨hn, fun _ => e.2.2, .inl (List.eq_nil_of_length_eq_zero (by omega))⟩
  · simp only [Value.slice.injEq] at e
    refine ⟨hn, (fun e0 => by rw [e.1] at e0; cases e0), .inr ⟨g, 0, e.1, (Array.getElem?_eq_some_iff.1 hh).1, fun j v hv => ?_⟩⟩
    rw [Nat.zero_add]
    rw [← h4, List.getElem?_take] at hv
    split at hv
    · exact BK.cell hh j v (by simpa using hv)
    · cases hv
theorem CS.below {base m : Nat} {A B : World} {a : Option Addr} {n c : Nat} {L : List C6} (h : CS base A a n c L) (hb : Below m A B) (hm : A.heap.size ≤ m) : CS base B a n c L := by
  obtain ⟨hn, hl, ho⟩ := h
  refine ⟨hn, hl, ?_⟩
  rcases ho with ho | ⟨g, cap, cur, e, hg, hh, r⟩
  · exact .inl ho
  · exact .inr ⟨g, cap, cur, e, hg, (hb.block g (by have := (Array.getElem?_eq_some_iff.1 hh).1; omega)).trans hh, r⟩

theorem info_c : (Try.prog.info? 23).map (fun i => (i.zero, i.size, i.bytes)) = some (some (.agg #[.int .i64 0, .int .i64 0, .int .i64 0, .int .i64 0, .int .i64 0, .int .i64 0]), 6, 48) := by kernel_rfl

/-- Contracts appended to a slice of one's own. -/
theorem run_app_t (w : World) (base : Nat) (hbase : base ≤ w.heap.size) (a : Option Addr) (n c : Nat) (L : List C6) (hv : CS base w a n c L) (ty : TypeId) (k : Nat) (a2 : Option Addr) (m c2 : Nat) (M : List C6) (hM : IsT k w a2 m c2 M) (hn : n + m ≤ 1000) :
    ∃ a' c' w', (Builtin.append_ #[32, 32] ty #[.slice a n c, .slice a2 m c2]).run Try.prog w = .ok (.slice a' (n + m) c') w' ∧ CS base w' a' (n + m) c' (L ++ M) ∧ Below base w w' := by
  obtain ⟨i0, hi, hz0, hz1, hz2⟩ := info_parts info_c
  have ht := Try.underlying32
  obtain ⟨rfl, hown⟩ := hv
  obtain ⟨hmM, hc0, hM⟩ := hM
  cases a2 with
  | none =>
    obtain rfl : M = [] := by
      rcases hM with h | ⟨b, off, e, _⟩
      · exact h
      · cases e
    obtain rfl : m = 0 := hmM
    obtain rfl := hc0 rfl
    exact ⟨a, c, w, run_append_owned_none (P := Try.prog) (w := w) base _ ty _ i0 6 ht hi _ _ _ hown, ⟨by simp, by simpa using hown⟩, Below.refl _ _⟩
  | some y =>
    have hnews : ∀ j u, (ccells M)[j]? = some u → w.cell? (y.add j) = some u := by
      intro j u hu
      rcases hM with rfl | ⟨b, off, e, _, hc⟩
      · simp [ccells_nil] at hu
      · simp only [Option.some.injEq] at e
        subst e
        rw [Addr.add_lit]
        exact hc j u hu
    obtain ⟨v', w', hrun, ho, hgr, hne⟩ := run_append_own (P := Try.prog) w base _ ty _ i0 _ 6 48 ht hi hz0 hz1 hz2 rfl (by decide) _ _ _ hown y m c2 (ccells M) (by rw [ccells_length, hmM]) hnews ccells_one (by unfold maxLen; omega) (by omega) hbase
    have hB : Below base w w' := (Below.refl base w).grown hgr hbase (fun k e => (hown.lt k e).1)
    obtain ⟨hl, h⟩ := ho
    have h' := h
    rcases h with ⟨e1, hn0⟩ | ⟨g', cap, cur', e1, _⟩
    · subst e1
      refine ⟨none, 0, w', by rw [hn0]; exact hrun, ⟨by simp [hmM], ⟨by rw [ccells_append]; exact hl, by rw [ccells_append, hn0]; rw [hn0] at h'; exact h'⟩⟩, hB⟩
    · subst e1
      exact ⟨_, cap, w', hrun, ⟨by simp [hmM], ⟨by rw [ccells_append]; exact hl, by rw [ccells_append]; exact h'⟩⟩, hB⟩
end Go.Proofs.Ythmcnllkngheoaa
