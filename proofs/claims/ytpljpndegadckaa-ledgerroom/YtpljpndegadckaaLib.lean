/- Proved here: appending to, storing into and reading slices of integers of a call's own, over any program. Conditions: as each theorem states them. -/
import Derived.Maps.AppendAt
import Derived.OpenShut
import Derived.WalkKit
import Derived.RangeFuncBox
namespace Go.Proofs.Ytpljpndegadckaa
set_option linter.unusedSimpArgs false
set_option linter.unusedVariables false
open Go.RowKit

def ivals (k : IntKind) (zs : List Int) : List Value := zs.map fun z => Value.int k z
theorem ivals_length (k : IntKind) (zs : List Int) : (ivals k zs).length = zs.length := by simp [ivals]
theorem ivals_append (k : IntKind) (xs ys : List Int) : ivals k (xs ++ ys) = ivals k xs ++ ivals k ys := by simp [ivals]
theorem ivals_get {k : IntKind} {zs : List Int} {j : Nat} {u : Value} (h : (ivals k zs)[j]? = some u) : ∃ x, zs[j]? = some x ∧ u = .int k x := by
  simp only [ivals, List.getElem?_map, Option.map_eq_some_iff] at h
  obtain ⟨x, hx, rfl⟩ := h
  exact ⟨x, hx, rfl⟩

/-- A slice value holds the numbers zs; its cells lie below n. -/
def IsR (k : IntKind) (n : Nat) (W : World) (a : Option Addr) (len : Nat) (zs : List Int) : Prop :=
  len = zs.length ∧ (zs = [] ∨ ∃ b off, a = some ⟨b, off, none⟩ ∧ b < n ∧ ∀ j x, zs[j]? = some x → W.cell? ⟨b, off + j, none⟩ = some (.int k x))
theorem IsR.below {k : IntKind} {n m : Nat} {A B : World} (h : Below m A B) (hm : n ≤ m) {a : Option Addr} {len : Nat} {zs : List Int} : IsR k n A a len zs → IsR k n B a len zs
  | ⟨e, .inl z⟩ => ⟨e, .inl z⟩
  | ⟨e, .inr ⟨b, off, ea, hb, hc⟩⟩ => ⟨e, .inr ⟨b, off, ea, hb, fun j x hx => (h.cell (p := ⟨b, off + j, none⟩) (by show b < m; omega)).trans (hc j x hx)⟩⟩
theorem IsR.mono {k : IntKind} {n m : Nat} {W : World} {a : Option Addr} {len : Nat} {zs : List Int} (h : IsR k n W a len zs) (hm : n ≤ m) : IsR k m W a len zs :=
  ⟨h.1, Or.elim h.2 Or.inl fun ⟨b, off, e, hb, hc⟩ => Or.inr ⟨b, off, e, Nat.lt_of_lt_of_le hb hm, hc⟩⟩
theorem IsR.cell {k : IntKind} {n : Nat} {W : World} {a : Option Addr} {len : Nat} {zs : List Int} (h : IsR k n W a len zs) {i : Nat} {x : Int} (hx : zs[i]? = some x) :
    ∃ b off, a = some ⟨b, off, none⟩ ∧ b < n ∧ ∀ j x, zs[j]? = some x → W.cell? ⟨b, off + j, none⟩ = some (.int k x) := by
  rcases h.2 with rfl | h
  · cases hx
  · exact h

theorem cell_alloc_any (w : World) (o : Array Value) (t : TypeId) (m : Nat × Nat) (k : Nat) (v : Value) (h : o[k]? = some v) : (w.alloc (.cells o t m)).cell? ⟨w.heap.size, k, none⟩ = some v := by
  unfold World.cell?
  rw [show (w.alloc (.cells o t m)).heap[(⟨w.heap.size, k, none⟩ : Addr).block]? = some (.cells o t m) from World.alloc_heap_new w (.cells o t m)]
  exact h
theorem isR_new (k : IntKind) (w : World) (zs : List Int) (t : TypeId) (m : Nat × Nat) : IsR k (w.heap.size + 1) (w.alloc (.cells (ivals k zs).toArray t m)) (some ⟨w.heap.size, 0, none⟩) zs.length zs := by
  refine ⟨rfl, .inr ⟨_, 0, rfl, by omega, fun j x hx => ?_⟩⟩
  rw [Nat.zero_add]
  exact cell_alloc_any w _ t m j _ (by simp [ivals, hx])

/-- A slice of numbers in a block of the call's own, from base on. -/
def OwnR (e : TypeId) (k : IntKind) (base : Nat) (w : World) (a : Option Addr) (n c : Nat) (zs : List Int) : Prop := n = zs.length ∧ w.ownsRow base e 1 (.slice a n c) n (ivals k zs)

theorem OwnR.isR {e : TypeId} {k : IntKind} {base : Nat} {w : World} {a : Option Addr} {n c : Nat} {zs : List Int} (h : OwnR e k base w a n c zs) : IsR k w.heap.size w a n zs ∧ (a = none → c = 0) ∧ n ≤ c := by
  obtain ⟨rfl, hl, h⟩ := h
  rcases h with ⟨e, hn⟩ | ⟨g, cap, cur, e, hg, hh, hc, hm, hsz, ht⟩
  · simp only [Value.slice.injEq] at e
    exact ⟨⟨rfl, .inl (List.eq_nil_of_length_eq_zero hn)⟩, fun _ => e.2.2, by omega⟩
  · cases e
    refine ⟨⟨rfl, .inr ⟨g, 0, rfl, (Array.getElem?_eq_some_iff.1 hh).1, fun j x hx => ?_⟩⟩, (by intro h; cases h), hc⟩
    have hj : j < zs.length := (List.getElem?_eq_some_iff.1 hx).1
    unfold World.cell?
    rw [show w.heap[(⟨g, 0 + j, none⟩ : Addr).block]? = some (.cells cur _ (0, 0)) from hh]
    show cur[0 + j]? = _
    have e1 : (cur.toList.take (zs.length * 1))[j]? = some (.int k x) := by rw [ht]; simp [ivals, hx]
    rw [List.getElem?_take_of_lt (by omega)] at e1
    rw [Nat.zero_add]
    simpa using e1

theorem OwnR.below {e : TypeId} {k : IntKind} {base m : Nat} {A B : World} (h : Below m A B) (hm : A.heap.size ≤ m) {a : Option Addr} {n c : Nat} {zs : List Int} (ho : OwnR e k base A a n c zs) : OwnR e k base B a n c zs := by
  obtain ⟨hn, hl, ho⟩ := ho
  refine ⟨hn, hl, ?_⟩
  rcases ho with ho | ⟨g, cap, cur, e, hg, hh, r⟩
  · exact .inl ho
  · exact .inr ⟨g, cap, cur, e, hg, (h.block g (Nat.lt_of_lt_of_le (Array.getElem?_eq_some_iff.1 hh).1 hm)).trans hh, r⟩
theorem OwnR.mono {e : TypeId} {k : IntKind} {base base' : Nat} {A : World} (hb : base' ≤ base) {a : Option Addr} {n c : Nat} {zs : List Int} (ho : OwnR e k base A a n c zs) : OwnR e k base' A a n c zs := by
  obtain ⟨hn, hl, ho⟩ := ho
  refine ⟨hn, hl, ?_⟩
  rcases ho with ho | ⟨g, cap, cur, e, hg, hh, r⟩
  · exact .inl ho
  · exact .inr ⟨g, cap, cur, e, Nat.le_trans hb hg, hh, r⟩
theorem ownR_nil (e : TypeId) (k : IntKind) (base : Nat) (w : World) : OwnR e k base w none 0 0 [] := ⟨rfl, World.ownsRow_nil w base e 1⟩
theorem ownR_new (e : TypeId) (k : IntKind) (base : Nat) (w : World) (hb : base ≤ w.heap.size) : OwnR e k base (w.alloc (.cells #[] e)) (some ⟨w.heap.size, 0, none⟩) 0 0 [] :=
  ⟨rfl, World.ownsRow_made w #[] 0 hb (by decide) rfl⟩
theorem ownR_lit (e : TypeId) (k : IntKind) (base : Nat) (w : World) (zs : List Int) (hb : base ≤ w.heap.size) (hl : zs.length ≤ 100000) : OwnR e k base (w.alloc (.cells (ivals k zs).toArray e)) (some ⟨w.heap.size, 0, none⟩) zs.length zs.length zs :=
  ⟨rfl, by simp [ivals], .inr ⟨w.heap.size, zs.length, _, rfl, hb, World.alloc_heap_new w _, Nat.le_refl _, by unfold maxLen; omega, by simp [ivals], by
    rw [List.take_of_length_le (by simp [ivals])]⟩⟩

theorem run_appR {P : Program} (t e : TypeId) (k : IntKind) (z0 : Int) (bytes : Nat) (ht : P.underlying t = some (.slice e)) (info : (P.info? e).map (fun i => (i.zero, i.size, i.bytes)) = some (some (.int k z0), 1, bytes)) (hby : bytes ≤ 8)
    (w : World) (base : Nat) (ty : TypeId) (a : Option Addr) (m1 c : Nat) (xs : List Int) (hv : OwnR e k base w a m1 c xs) (a2 : Option Addr) (m c2 : Nat) {n : Nat} (ys : List Int) (hy : IsR k n w a2 m ys) (hnone : a2 = none → c2 = 0)
    (hlen : m1 + m ≤ 100000) (hbase : base ≤ w.heap.size) :
    ∃ a' c' w', (Builtin.append_ #[t, t] ty #[.slice a m1 c, .slice a2 m c2]).run P w = .ok (.slice a' (m1 + m) c') w' ∧ OwnR e k base w' a' (m1 + m) c' (xs ++ ys) ∧ Below base w w' := by
  obtain ⟨i0, hi, hz0, hz1, hz2⟩ := info_parts info
  obtain ⟨rfl, hown⟩ := hv
  obtain ⟨rfl, hys⟩ := hy
  have key : ∀ (ad : Addr), a2 = some ad → (∀ j u, (ivals k ys)[j]? = some u → w.cell? (ad.add j) = some u) →
      ∃ a' c' w', (Builtin.append_ #[t, t] ty #[.slice a xs.length c, .slice a2 ys.length c2]).run P w = .ok (.slice a' (xs.length + ys.length) c') w' ∧ OwnR e k base w' a' (xs.length + ys.length) c' (xs ++ ys) ∧ Below base w w' := by
    intro ad had hc
    have hbb : (xs.length + ys.length) * bytes ≤ 140737488355328 := Nat.le_trans (Nat.mul_le_mul_left _ hby) (by omega)
    obtain ⟨v', w', hrun, ho, hg, _⟩ := run_append_own (P := P) w base t ty e i0 (.int k z0) 1 bytes ht hi hz0 hz1 hz2 rfl (by decide) _ _ _ hown ad ys.length c2 (ivals k ys) (by simp [ivals]) hc
      (by intro u hu; simp only [ivals, List.mem_map] at hu; obtain ⟨x, _, rfl⟩ := hu; rfl) (by unfold maxLen; omega) hbb hbase
    have hB : Below base w w' := (Below.refl base w).grown hg hbase (fun k e => (hown.lt k e).1)
    rw [had]
    obtain ⟨hl, h⟩ := ho
    have h' := h
    rcases h with ⟨e, hn⟩ | ⟨g, cap, cur, e, _⟩
    · subst e
      refine ⟨none, 0, w', by rw [hn]; exact hrun, ⟨by simp, ⟨by rw [ivals_append]; exact hl, by rw [ivals_append, hn]; rw [hn] at h'; exact h'⟩⟩, hB⟩
    · subst e
      exact ⟨_, cap, w', hrun, ⟨by simp, ⟨by rw [ivals_append]; exact hl, by rw [ivals_append]; exact h'⟩⟩, hB⟩
  cases a2 with
  | none =>
    obtain rfl := hnone rfl
    obtain rfl : ys = [] := by
      rcases hys with h | ⟨b, off, e, _⟩
      · exact h
      · cases e
    refine ⟨a, c, w, ?_, ⟨by simp, by simpa using hown⟩, Below.refl _ _⟩
    exact run_append_owned_none (P := P) (w := w) base t ty e i0 1 ht hi _ _ _ hown
  | some ad =>
    refine key ad rfl fun j u hu => ?_
    obtain ⟨x, hx, rfl⟩ := ivals_get hu
    rcases hys with rfl | ⟨b, off, e, _, hc⟩
    · cases hx
    · cases e
      rw [Addr.add_lit]
      exact hc j x hx

theorem OwnR.block {e : TypeId} {k : IntKind} {base : Nat} {w : World} {a : Option Addr} {n c : Nat} {zs : List Int} (h : OwnR e k base w a n c zs) (hn : 0 < n) :
    ∃ g cur, a = some ⟨g, 0, none⟩ ∧ base ≤ g ∧ g < w.heap.size ∧ w.heap[g]? = some (.cells cur e (0, 0)) := by
  obtain ⟨_, _, h⟩ := h
  rcases h with ⟨e, h0⟩ | ⟨g, cap, cur, e, hg, hh, _⟩
  · omega
  · simp only [Value.slice.injEq] at e
    exact ⟨g, cur, e.1, hg, (Array.getElem?_eq_some_iff.1 hh).1, hh⟩
theorem frozen_of_cells {w : World} {g k : Nat} {cur : Array Value} {t : TypeId} (hh : w.heap[g]? = some (.cells cur t (0, 0))) : w.frozen? ⟨g, k, none⟩ = false := by
  unfold World.frozen?
  rw [show w.heap[(⟨g, k, none⟩ : Addr).block]? = some (.cells cur t (0, 0)) from hh]
  simp
theorem OwnR.set {e : TypeId} {k : IntKind} {base : Nat} {w : World} {g n c : Nat} {zs : List Int} (h : OwnR e k base w (some ⟨g, 0, none⟩) n c zs) (i : Nat) (y : Int) :
    OwnR e k base (w.setCell ⟨g, i, none⟩ (.int k y)) (some ⟨g, 0, none⟩) n c (zs.set i y) := by
  obtain ⟨hn, hl, h⟩ := h
  refine ⟨by simpa using hn, by simpa [ivals] using hl, ?_⟩
  rcases h with ⟨e, h0⟩ | ⟨g', cap, cur, e, hg, hh, hc, hm, hsz, ht⟩
  · cases e
  · cases e
    refine .inr ⟨g, c, cur.setIfInBounds i (.int k y), rfl, hg, ?_, hc, hm, by simpa using hsz, ?_⟩
    · show (w.heap.modify g _)[g]? = _
      rw [Array.getElem?_modify, if_pos rfl, hh]; rfl
    · rw [Array.toList_setIfInBounds, List.take_set, ht]
      simp [ivals, List.map_set]
theorem OwnR.get {e : TypeId} {k : IntKind} {base : Nat} {w : World} {g n c : Nat} {zs : List Int} (h : OwnR e k base w (some ⟨g, 0, none⟩) n c zs) {i : Nat} {x : Int} (hx : zs[i]? = some x) : w.cell? ⟨g, i, none⟩ = some (.int k x) := by
  obtain ⟨b, off, e, _, hc⟩ := h.isR.1.cell hx
  cases e
  have := hc i x hx
  rwa [Nat.zero_add] at this
/-- A store into another block. -/
theorem OwnR.other {e : TypeId} {k : IntKind} {base : Nat} {w : World} {a : Option Addr} {n c : Nat} {zs : List Int} (h : OwnR e k base w a n c zs) {p : Addr} (hp : p.block < base) (u : Value) : OwnR e k base (w.setCell p u) a n c zs :=
  ⟨h.1, ownsRow_setCell_below h.2 hp u⟩
end Go.Proofs.Ytpljpndegadckaa
