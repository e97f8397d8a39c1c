/- Proved here: how slices of a call's own go on while a bucket in another block changes. Conditions: as each theorem states them. -/
import Derived.Test.YtkndejpklibkfaaStepT
namespace Go.Proofs.Ytkndejpklibkfaa
set_option linter.unusedSimpArgs false
set_option linter.unusedVariables false
open Go.RowKit

theorem But.cell {r n : Nat} {w w' : World} (h : But r n w w') {p : Addr} (hp : p.block < n) (hr : p.block ≠ r) : w'.cell? p = w.cell? p := by
  unfold World.cell?; rw [h.block _ hp hr]
/-- A slice value holds the numbers zs; its cells lie from lo on, and below n. -/
def IsQ (k : IntKind) (lo n : Nat) (W : World) (a : Option Addr) (len : Nat) (zs : List Int) : Prop :=
  len = zs.length ∧ (zs = [] ∨ ∃ b off, a = some ⟨b, off, none⟩ ∧ lo ≤ b ∧ b < n ∧ ∀ j x, zs[j]? = some x → W.cell? ⟨b, off + j, none⟩ = some (.int k x))
theorem OwnR.isQ {e : TypeId} {k : IntKind} {base : Nat} {w : World} {a : Option Addr} {n c : Nat} {zs : List Int} (h : OwnR e k base w a n c zs) : IsQ k base w.heap.size w a n zs := by
  refine ⟨h.1, ?_⟩
  rcases Nat.eq_zero_or_pos n with h0 | h0
  · left; have := h.1; exact List.eq_nil_of_length_eq_zero (by omega)
  · right
    obtain ⟨g, cur, rfl, hg, hl, _⟩ := h.block h0
    exact ⟨g, 0, rfl, hg, hl, fun j x hx => by rw [Nat.zero_add]; exact h.get hx⟩
theorem IsQ.below {k : IntKind} {lo n m : Nat} {A B : World} {a : Option Addr} {len : Nat} {zs : List Int} (h : IsQ k lo n A a len zs) (hb : Below m A B) (hm : n ≤ m) : IsQ k lo n B a len zs :=
  ⟨h.1, h.2.elim .inl fun ⟨b, off, ea, h0, h1, hc⟩ => .inr ⟨b, off, ea, h0, h1, fun j x hx => (hb.cell (p := ⟨b, off + j, none⟩) (by show b < m; omega)).trans (hc j x hx)⟩⟩
theorem IsQ.but {k : IntKind} {lo n m r : Nat} {A B : World} {a : Option Addr} {len : Nat} {zs : List Int} (h : IsQ k lo n A a len zs) (hb : But r m A B) (hm : n ≤ m) (hr : r < lo) : IsQ k lo n B a len zs :=
  ⟨h.1, h.2.elim .inl fun ⟨b, off, ea, h0, h1, hc⟩ => .inr ⟨b, off, ea, h0, h1, fun j x hx => (hb.cell (p := ⟨b, off + j, none⟩) (by show b < m; omega) (by show b ≠ r; omega)).trans (hc j x hx)⟩⟩
theorem IsQ.at {k : IntKind} {lo n : Nat} {W : World} {a : Option Addr} {len : Nat} {zs : List Int} (h : IsQ k lo n W a len zs) {i : Nat} {x : Int} (hx : zs[i]? = some x) :
    ∃ b off, a = some ⟨b, off, none⟩ ∧ lo ≤ b ∧ b < n ∧ W.cell? ⟨b, off + i, none⟩ = some (.int k x) := by
  rcases h.2 with rfl | ⟨b, off, ea, h0, h1, hc⟩
  · cases hx
  · exact ⟨b, off, ea, h0, h1, hc i x hx⟩
theorem OwnR.but {e : TypeId} {k : IntKind} {base m r : Nat} {A B : World} {a : Option Addr} {n c : Nat} {zs : List Int} (ho : OwnR e k base A a n c zs) (h : But r m A B) (hm : A.heap.size ≤ m) (hr : r < base) : OwnR e k base B a n c zs := by
  obtain ⟨hn, hl, ho⟩ := ho
  refine ⟨hn, hl, ?_⟩
  rcases ho with ho | ⟨g, cap, cur, e, hg, hh, q⟩
  · exact .inl ho
  · exact .inr ⟨g, cap, cur, e, hg, (h.block g (Nat.lt_of_lt_of_le (Array.getElem?_eq_some_iff.1 hh).1 hm) (by omega)).trans hh, q⟩

/-- What is so of the times of cells that were taken, and the time from which on one comes in time: each cell raises that by a step at least. -/
structure Win (s e T : Int) (L : List Int) : Prop where
  up : ∀ (i : Nat) (x : Int), L[i]? = some x → x + ((L.length : Int) - (i : Int)) * s ≤ T
  win : ∀ (i k : Nat) (x y : Int), i ≤ k → L[i]? = some x → L[k]? = some y → ((k : Int) - (i : Int)) * s ≤ y - x + e
theorem win_nil (s e T : Int) : Win s e T [] := ⟨fun i x h => (by cases h), fun i k x y _ h _ => (by cases h)⟩
theorem Win.take {s e T : Int} {L : List Int} (h : Win s e T L) {t : Int} (he : 0 ≤ e) (hf : T - e ≤ t) : Win s e (max T t + s) (L ++ [t]) := by
  have key : ∀ i x, (L ++ [t])[i]? = some x → (L[i]? = some x ∧ i < L.length) ∨ (i = L.length ∧ x = t) := by
    intro i x hx
    rcases Nat.lt_trichotomy i L.length with h1 | h1 | h1
    · left; rw [List.getElem?_append_left h1] at hx; exact ⟨hx, h1⟩
    · right; subst h1; simp at hx; exact ⟨rfl, hx.symm⟩
    · rw [List.getElem?_eq_none (by simp; omega)] at hx; cases hx
  constructor
  · intro i x hx
    have hlen : ((L ++ [t]).length : Int) = (L.length : Int) + 1 := by simp
    rw [hlen]
    rcases key i x hx with ⟨h1, _⟩ | ⟨rfl, rfl⟩
    · have := h.up i x h1
      rw [show (L.length : Int) + 1 - (i : Int) = ((L.length : Int) - (i : Int)) + 1 by omega, Int.add_mul, Int.one_mul]
      omega
    · rw [show (L.length : Int) + 1 - (L.length : Int) = 1 by omega, Int.one_mul]; omega
  · intro i k x y hik hx hy
    rcases key i x hx with ⟨h1, l1⟩ | ⟨rfl, rfl⟩
    · rcases key k y hy with ⟨h2, _⟩ | ⟨rfl, rfl⟩
      · exact h.win i k x y hik h1 h2
      · have := h.up i x h1; omega
    · rcases key k y hy with ⟨_, l2⟩ | ⟨rfl, rfl⟩
      · omega
      · rw [Int.sub_self, Int.zero_mul]; omega
theorem Win.quo {s e T : Int} {L : List Int} (h : Win s e T L) (hs : 1 ≤ s) {i k : Nat} {x y : Int} (hik : i ≤ k) (hx : L[i]? = some x) (hy : L[k]? = some y) : 0 ≤ y - x + e ∧ (k : Int) - (i : Int) ≤ (y - x + e).tdiv s ∧ (y - x + e).tdiv s ≤ y - x + e := by
  have h1 := h.win i k x y hik hx hy
  have h0 : 0 ≤ ((k : Int) - (i : Int)) * s := Int.mul_nonneg (by omega) (by omega)
  refine ⟨by omega, ?_⟩
  rw [Int.tdiv_eq_ediv_of_nonneg (by omega)]
  exact ⟨(Int.le_ediv_iff_mul_le (by omega)).2 h1, Int.ediv_le_self _ (by omega)⟩
end Go.Proofs.Ytkndejpklibkfaa
