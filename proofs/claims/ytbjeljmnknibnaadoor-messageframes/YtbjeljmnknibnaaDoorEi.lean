/- Proved here: how elements lie in memory, side by side, how they are read, and appended. Conditions: as each theorem states them. -/
import Derived.Test.YtbjeljmnknibnaaDoorStp
import Derived.Test.YtbjeljmnknibnaaDoorPl
namespace Go.Proofs.YtbjeljmnknibnaaDoor
set_option linter.unusedSimpArgs false
set_option linter.unusedVariables false
open Go.RowKit Go.Shelf

/-- An element as it lies: its Id, and its Body's slice. -/
abbrev Rw := UInt8 × Option Addr × Nat × Nat
abbrev ieV (i : UInt8) (a : Option Addr) (l c : Nat) : Value := .agg #[.int .u8 (i.toNat : Int), .slice a l c]
abbrev rwV (r : Rw) : Value := ieV r.1 r.2.1 r.2.2.1 r.2.2.2
def rcells (R : List Rw) : List Value := R.flatMap fun r => [.int .u8 (r.1.toNat : Int), .slice r.2.1 r.2.2.1 r.2.2.2]
theorem rcells_nil : rcells [] = [] := rfl
theorem rcells_cons (x : Rw) (L : List Rw) : rcells (x :: L) = .int .u8 (x.1.toNat : Int) :: .slice x.2.1 x.2.2.1 x.2.2.2 :: rcells L := by simp [rcells]
theorem rcells_append (L M : List Rw) : rcells (L ++ M) = rcells L ++ rcells M := by simp [rcells]
theorem rcells_length (L : List Rw) : (rcells L).length = L.length * 2 := by
  induction L with
  | nil => rfl
  | cons x L ih => rw [rcells_cons]; simp [ih]; omega
theorem rcells_get {L : List Rw} {j : Nat} {x : Rw} (h : L[j]? = some x) : (rcells L)[j * 2]? = some (.int .u8 (x.1.toNat : Int)) ∧ (rcells L)[j * 2 + 1]? = some (.slice x.2.1 x.2.2.1 x.2.2.2) := by
  induction L generalizing j with
  | nil => cases h
  | cons y L ih =>
    rw [rcells_cons]
    cases j with
    | zero => simp at h; subst h; simp
    | succ j =>
      have := ih (j := j) (by simpa using h)
      rw [show (j + 1) * 2 = j * 2 + 1 + 1 by omega, show j * 2 + 1 + 1 + 1 = (j * 2 + 1) + 1 + 1 by omega]
      simpa using this
theorem rcells_split {L : List Rw} {j : Nat} {v : Value} (h : (rcells L)[j]? = some v) : ∃ i x, L[i]? = some x ∧ ((j = i * 2 ∧ v = .int .u8 (x.1.toNat : Int)) ∨ (j = i * 2 + 1 ∧ v = .slice x.2.1 x.2.2.1 x.2.2.2)) := by
  have hj : j < L.length * 2 := by have := (List.getElem?_eq_some_iff.1 h).1; rwa [rcells_length] at this
  obtain ⟨x, hx⟩ : ∃ x, L[j / 2]? = some x := ⟨L[j / 2]'(by omega), by rw [List.getElem?_eq_getElem]⟩
  obtain ⟨c0, c1⟩ := rcells_get hx
  refine ⟨j / 2, x, hx, ?_⟩
  rcases Nat.mod_two_eq_zero_or_one j with e | e
  · left; rw [show j / 2 * 2 = j by omega, h] at c0; exact ⟨by omega, Option.some.inj c0⟩
  · right; rw [show j / 2 * 2 + 1 = j by omega, h] at c1; exact ⟨by omega, Option.some.inj c1⟩
theorem rcells_one {L : List Rw} : ∀ v ∈ rcells L, v.oneCell' = true := by
  intro v hv
  simp only [rcells, List.mem_flatMap] at hv
  obtain ⟨x, _, hx⟩ := hv
  simp at hx
  rcases hx with rfl | rfl <;> rfl

/-- A slice of bytes that lies from lo on, below m, and not in block g. -/
def IsO (lo m : Nat) (W : World) (g : Option Nat) (a : Option Addr) (n : Nat) (xs : List UInt8) : Prop :=
  n = xs.length ∧ (xs = [] ∨ ∃ b off, a = some ⟨b, off, none⟩ ∧ lo ≤ b ∧ b < m ∧ some b ≠ g ∧ ∀ (j : Nat) (x : UInt8), xs[j]? = some x → W.cell? ⟨b, off + j, none⟩ = some (.int .u8 (x.toNat : Int)))
theorem IsO.isB {lo m : Nat} {W : World} {g : Option Nat} {a : Option Addr} {n : Nat} {xs : List UInt8} (h : IsO lo m W g a n xs) : IsB m W a n xs :=
  ⟨h.1, h.2.imp id fun ⟨b, off, e, _, hb, _, hc⟩ => ⟨b, off, e, hb, hc⟩⟩
theorem IsB.isO {m : Nat} {W : World} {a : Option Addr} {n : Nat} {xs : List UInt8} (h : IsB m W a n xs) : IsO 0 m W none a n xs :=
  ⟨h.1, h.2.imp id fun ⟨b, off, e, hb, hc⟩ => ⟨b, off, e, Nat.zero_le _, hb, (by simp), hc⟩⟩
theorem IsB.isO_lt {m g : Nat} {W : World} {a : Option Addr} {n : Nat} {xs : List UInt8} (h : IsB m W a n xs) (hg : m ≤ g) : IsO 0 m W (some g) a n xs :=
  ⟨h.1, h.2.imp id fun ⟨b, off, e, hb, hc⟩ => ⟨b, off, e, Nat.zero_le _, hb, (by simp; omega), hc⟩⟩
theorem OwnB.isO {lo base : Nat} {w : World} {a : Option Addr} {n c : Nat} {zs : List UInt8} (h : OwnB base w a n c zs) {g : Option Nat} (hlo : lo ≤ base) (hg : ∀ k, g = some k → k < base) : IsO lo w.heap.size w g a n zs := by
  refine ⟨h.1, ?_⟩
  rcases h.isB.1.2 with e | ⟨b, off, e, hb, hc⟩
  · exact .inl e
  · have h2 := (h.lt b (by rw [e]; rfl)).1
    refine .inr ⟨b, off, e, Nat.le_trans hlo h2, hb, ?_, hc⟩
    intro hk
    have h1 := hg b hk.symm
    omega
theorem IsO.keep {lo m m' : Nat} {W W' : World} {g g' : Option Nat} {a : Option Addr} {n : Nat} {xs : List UInt8} (h : IsO lo m W g a n xs) (hm : m ≤ m') (hk : ∀ k, lo ≤ k → k < m → some k ≠ g → W'.heap[k]? = W.heap[k]?) (hg : ∀ k, k < m → some k ≠ g → some k ≠ g') : IsO lo m' W' g' a n xs :=
  ⟨h.1, h.2.imp id fun ⟨b, off, e, hlo, hb, hbg, hc⟩ => ⟨b, off, e, hlo, by omega, hg b hb hbg, fun j x hx => (World.cell?_of_block (a := ⟨b, off + j, none⟩) (hk b hlo hb hbg)).trans (hc j x hx)⟩⟩

/-- What lies, and what it is. -/
def Mt (lo m : Nat) (W : World) (g : Option Nat) (R : List Rw) (L : List El) : Prop :=
  R.length = L.length ∧ ∀ (i : Nat) (r : Rw) (x : El), R[i]? = some r → L[i]? = some x → r.1 = x.id ∧ IsO lo m W g r.2.1 r.2.2.1 x.body ∧ (r.2.1 = none → r.2.2.2 = 0) ∧ r.2.2.1 ≤ r.2.2.2
theorem Mt.zero {lo m : Nat} {W : World} {g : Option Nat} {R : List Rw} {L : List El} (h : Mt lo m W g R L) : Mt 0 m W g R L :=
  ⟨h.1, fun i r x hr hx => by
    obtain ⟨e, ho, h1, h2⟩ := h.2 i r x hr hx
    exact ⟨e, ⟨ho.1, ho.2.imp id fun ⟨b, off, ea, _, hb⟩ => ⟨b, off, ea, Nat.zero_le _, hb⟩⟩, h1, h2⟩⟩
theorem mt_nil (lo m : Nat) (W : World) (g : Option Nat) : Mt lo m W g [] [] := ⟨rfl, fun i r x h => by cases h⟩
theorem Mt.keep {lo m m' : Nat} {W W' : World} {g g' : Option Nat} {R : List Rw} {L : List El} (h : Mt lo m W g R L) (hm : m ≤ m') (hk : ∀ k, lo ≤ k → k < m → some k ≠ g → W'.heap[k]? = W.heap[k]?) (hg : ∀ k, k < m → some k ≠ g → some k ≠ g') : Mt lo m' W' g' R L :=
  ⟨h.1, fun i r x hr hx => by
    obtain ⟨e, ho, h1, h2⟩ := h.2 i r x hr hx
    exact ⟨e, ho.keep hm hk hg, h1, h2⟩⟩
theorem Mt.append {lo m : Nat} {W : World} {g : Option Nat} {R S : List Rw} {L M : List El} (h : Mt lo m W g R L) (k : Mt lo m W g S M) : Mt lo m W g (R ++ S) (L ++ M) := by
  refine ⟨by simp [h.1, k.1], fun i r x hr hx => ?_⟩
  by_cases hi : i < R.length
  · rw [List.getElem?_append_left hi] at hr
    rw [List.getElem?_append_left (by rw [← h.1]; exact hi)] at hx
    exact h.2 i r x hr hx
  · rw [List.getElem?_append_right (by omega)] at hr
    rw [List.getElem?_append_right (by rw [← h.1]; omega), ← h.1] at hx
    exact k.2 _ r x hr hx
theorem mt_one {lo m : Nat} {W : World} {g : Option Nat} {i : UInt8} {a : Option Addr} {l c : Nat} {body : List UInt8} (h : IsO lo m W g a l body) (h1 : a = none → c = 0) (h2 : l ≤ c) : Mt lo m W g [(i, a, l, c)] [⟨i, body⟩] := by
  refine ⟨rfl, fun j r x hr hx => ?_⟩
  cases j with
  | zero => cases hr; cases hx; exact ⟨rfl, h, h1, h2⟩
  | succ j => cases hr

/-- A slice holds the elements L; all of it lies below m. -/
def IsI (m : Nat) (W : World) (a : Option Addr) (len : Nat) (L : List El) : Prop :=
  len = L.length ∧ ∃ R, Mt 0 m W none R L ∧ (L = [] ∨ ∃ b off, a = some ⟨b, off, none⟩ ∧ b < m ∧ ∀ (j : Nat) (v : Value), (rcells R)[j]? = some v → W.cell? ⟨b, off + j, none⟩ = some v)
theorem IsI.below {n k : Nat} {A B : World} (h : Below k A B) (hk : n ≤ k) {a : Option Addr} {len : Nat} {L : List El} (hI : IsI n A a len L) : IsI n B a len L := by
  obtain ⟨e, R, hm, hc⟩ := hI
  refine ⟨e, R, hm.keep (Nat.le_refl _) (fun j _ hj _ => h.block j (by omega)) (fun j _ hj => hj), hc.imp id fun ⟨b, off, ea, hb, hc⟩ => ⟨b, off, ea, hb, fun j v hv => (h.cell (p := ⟨b, off + j, none⟩) (by show b < k; omega)).trans (hc j v hv)⟩⟩
theorem IsI.mono {n k : Nat} {A : World} (hk : n ≤ k) {a : Option Addr} {len : Nat} {L : List El} (hI : IsI n A a len L) : IsI k A a len L := by
  obtain ⟨e, R, hm, hc⟩ := hI
  exact ⟨e, R, hm.keep hk (fun j _ _ _ => rfl) (fun j _ hj => hj), hc.imp id fun ⟨b, off, ea, hb, hc⟩ => ⟨b, off, ea, by omega, hc⟩⟩
theorem isI_nil (n : Nat) (W : World) (a : Option Addr) : IsI n W a 0 [] := ⟨rfl, [], mt_nil _ _ _ _, .inl rfl⟩
/-- An element is read. -/
theorem IsI.at {n : Nat} {W : World} {a : Option Addr} {len : Nat} {L : List El} (h : IsI n W a len L) {i : Nat} (hi : i < len) :
    ∃ b off x ai li ci, a = some ⟨b, off, none⟩ ∧ b < n ∧ L[i]? = some x ∧ IsB n W ai li x.body ∧ (ai = none → ci = 0) ∧ li ≤ ci ∧
      W.cell? ⟨b, off + i * 2, none⟩ = some (.int .u8 (x.id.toNat : Int)) ∧ W.cell? ⟨b, off + i * 2 + 1, none⟩ = some (.slice ai li ci) := by
  obtain ⟨e, R, hm, hc⟩ := h
  have hl : i < L.length := by omega
  have hx : L[i]? = some L[i] := List.getElem?_eq_getElem hl
  obtain ⟨r, hr⟩ : ∃ r, R[i]? = some r := ⟨R[i]'(by have := hm.1; omega), by rw [List.getElem?_eq_getElem]⟩
  rcases hc with rfl | ⟨b, off, ea, hb, hc⟩
  · cases hx
  · obtain ⟨e1, h1, h2, h3⟩ := hm.2 i r _ hr hx
    obtain ⟨c0, c1⟩ := rcells_get hr
    refine ⟨b, off, _, r.2.1, r.2.2.1, r.2.2.2, ea, hb, hx, h1.isB, h2, h3, ?_, ?_⟩
    · rw [← e1]; exact hc _ _ c0
    · rw [Nat.add_assoc]; exact hc _ _ c1
/-- The same, in whatever world comes later. -/
theorem IsI.atF {n : Nat} {W : World} {a : Option Addr} {len : Nat} {L : List El} (h : IsI n W a len L) {i : Nat} (hi : i < len) :
    ∃ b off x ai li ci, a = some ⟨b, off, none⟩ ∧ b < n ∧ L[i]? = some x ∧ li = x.body.length ∧ (ai = none → ci = 0) ∧ li ≤ ci ∧
      ∀ W', Below n W W' → IsB n W' ai li x.body ∧ W'.cell? ⟨b, off + i * 2, none⟩ = some (.int .u8 (x.id.toNat : Int)) ∧ W'.cell? ⟨b, off + i * 2 + 1, none⟩ = some (.slice ai li ci) := by
  obtain ⟨b, off, x, ai, li, ci, e, hb, hx, hI, h1, h2, c1, c2⟩ := h.at hi
  exact ⟨b, off, x, ai, li, ci, e, hb, hx, hI.1, h1, h2, fun W' hB => ⟨hI.below hB (Nat.le_refl _), (hB.cell (p := ⟨b, off + i * 2, none⟩) hb).trans c1, (hB.cell (p := ⟨b, off + i * 2 + 1, none⟩) hb).trans c2⟩⟩
/-- One of them, by itself. -/
theorem IsI.one {n : Nat} {W : World} {b off len : Nat} {L : List El} (h : IsI n W (some ⟨b, off, none⟩) len L) {i : Nat} {x : El} (hx : L[i]? = some x) : IsI n W (some ⟨b, off + i * 2, none⟩) 1 [x] := by
  obtain ⟨e, R, hm, hc⟩ := h
  have hl : i < L.length := (List.getElem?_eq_some_iff.1 hx).1
  obtain ⟨r, hr⟩ : ∃ r, R[i]? = some r := ⟨R[i]'(by have := hm.1; omega), by rw [List.getElem?_eq_getElem]⟩
  obtain ⟨e1, h1, h2, h3⟩ := hm.2 i r _ hr hx
  obtain ⟨c0, c1⟩ := rcells_get hr
  obtain ⟨i1, a1, l1, k1⟩ := r
  obtain ⟨i2, body⟩ := x
  cases e1
  rcases hc with rfl | ⟨b', off', ea, hb, hc⟩
  · cases hx
  · cases ea
    refine ⟨rfl, [(i1, a1, l1, k1)], mt_one h1 h2 h3, .inr ⟨b, off + i * 2, rfl, hb, fun j v hv => ?_⟩⟩
    rw [rcells_cons, rcells_nil] at hv
    match j, hv with
    | 0, hv => cases hv; exact hc _ _ c0
    | 1, hv => cases hv; rw [Nat.add_assoc]; exact hc _ _ c1
    | j + 2, hv => cases hv
/-- An element that lies in a block of its own. -/
theorem isI_bk {W : World} {g : Nat} {i : UInt8} {a : Option Addr} {l c : Nat} {body : List UInt8} {t : TypeId} (k : BK W g #[.int .u8 (i.toNat : Int), .slice a l c] t) (h : IsB W.heap.size W a l body) (h1 : a = none → c = 0) (h2 : l ≤ c) :
    IsI W.heap.size W (some ⟨g, 0, none⟩) 1 [⟨i, body⟩] := by
  refine ⟨rfl, [(i, a, l, c)], mt_one h.isO h1 h2, .inr ⟨g, 0, rfl, k.lt, fun j v hv => ?_⟩⟩
  rw [rcells_cons, rcells_nil] at hv
  rw [Nat.zero_add]
  exact k.cell j v (by simpa using hv)

/-- Elements in a block of the call's own, from base on; their Bodies lie from lo on. -/
def OwnI (lo base : Nat) (w : World) (a : Option Addr) (n c : Nat) (L : List El) : Prop :=
  ∃ R, w.ownsRow base 60 2 (.slice a n c) n (rcells R) ∧ Mt lo w.heap.size w (Value.slice a n c).ownBlock R L
theorem OwnI.len {lo base : Nat} {w : World} {a : Option Addr} {n c : Nat} {L : List El} (h : OwnI lo base w a n c L) : n = L.length := by
  obtain ⟨R, h1, h2⟩ := h
  have := h1.1
  rw [rcells_length] at this
  have := h2.1
  omega
theorem OwnI.isI {lo base : Nat} {w : World} {a : Option Addr} {n c : Nat} {L : List El} (h : OwnI lo base w a n c L) : IsI w.heap.size w a n L ∧ (a = none → c = 0) ∧ n ≤ c := by
  have hl := h.len
  obtain ⟨R, ⟨h1, h2⟩, h3⟩ := h
  have hm := (h3.keep (g' := none) (Nat.le_refl _) (fun _ _ _ _ => rfl) (fun _ _ _ => by simp)).zero
  rcases h2 with ⟨e, hn⟩ | ⟨g, cap, cur, e, hg, hh, hc, hm', hsz, ht⟩
  · cases e
    exact ⟨⟨hl, R, hm, .inl (List.eq_nil_of_length_eq_zero (by omega))⟩, fun _ => rfl, by omega⟩
  · cases e
    refine ⟨⟨hl, R, hm, .inr ⟨g, 0, rfl, (Array.getElem?_eq_some_iff.1 hh).1, fun j v hv => ?_⟩⟩, (by intro h; cases h), hc⟩
    rw [Nat.zero_add]
    refine BK.cell (vs := cur) (t := 60) hh j v ?_
    rw [← ht] at hv
    have hj := (List.getElem?_eq_some_iff.1 hv).1
    rw [List.length_take] at hj
    rw [List.getElem?_take_of_lt (by omega)] at hv
    simpa using hv
theorem OwnI.lt {lo base : Nat} {w : World} {a : Option Addr} {n c : Nat} {L : List El} (h : OwnI lo base w a n c L) : ∀ k, (Value.slice a n c).ownBlock = some k → base ≤ k ∧ k < w.heap.size := by
  obtain ⟨R, h1, _⟩ := h
  exact h1.lt
theorem OwnI.below {lo base m : Nat} {A B : World} (h : Below m A B) (hm : A.heap.size ≤ m) {a : Option Addr} {n c : Nat} {L : List El} (ho : OwnI lo base A a n c L) : OwnI lo base B a n c L := by
  obtain ⟨R, ⟨h1, h2⟩, h3⟩ := ho
  refine ⟨R, ⟨h1, ?_⟩, h3.keep h.size (fun k _ hk _ => h.block k (by omega)) (fun _ _ hk => hk)⟩
  rcases h2 with h2 | ⟨g, cap, cur, e, hg, hh, r⟩
  · exact .inl h2
  · exact .inr ⟨g, cap, cur, e, hg, (h.block g (Nat.lt_of_lt_of_le (Array.getElem?_eq_some_iff.1 hh).1 hm)).trans hh, r⟩
theorem OwnI.mono {lo base base' : Nat} {A : World} (hb : base' ≤ base) {a : Option Addr} {n c : Nat} {L : List El} (ho : OwnI lo base A a n c L) : OwnI lo base' A a n c L := by
  obtain ⟨R, ⟨h1, h2⟩, h3⟩ := ho
  refine ⟨R, ⟨h1, ?_⟩, h3⟩
  rcases h2 with ho | ⟨g, cap, cur, e, hg, hh, r⟩
  · exact .inl ho
  · exact .inr ⟨g, cap, cur, e, Nat.le_trans hb hg, hh, r⟩
/-- They are as they were, where all from base and lo on is. -/
theorem OwnI.keep {lo base : Nat} {w w' : World} {a : Option Addr} {n c : Nat} {L : List El} (h : OwnI lo base w a n c L) (hb : lo ≤ base) (hs : w.heap.size ≤ w'.heap.size) (hk : ∀ k, lo ≤ k → k < w.heap.size → w'.heap[k]? = w.heap[k]?) : OwnI lo base w' a n c L := by
  obtain ⟨R, ⟨h1, h2⟩, h3⟩ := h
  refine ⟨R, ⟨h1, ?_⟩, h3.keep hs (fun k h1 h2 _ => hk k h1 h2) (fun _ _ hk => hk)⟩
  rcases h2 with h2 | ⟨g, cap, cur, e, hg, hh, r⟩
  · exact .inl h2
  · exact .inr ⟨g, cap, cur, e, hg, (hk g (Nat.le_trans hb hg) (Array.getElem?_eq_some_iff.1 hh).1).trans hh, r⟩
theorem OwnI.zero {lo base : Nat} {w : World} {a : Option Addr} {n c : Nat} {L : List El} (h : OwnI lo base w a n c L) : OwnI 0 base w a n c L := by
  obtain ⟨R, h1, h3⟩ := h
  exact ⟨R, h1, h3.zero⟩
theorem ownI_nil (lo base : Nat) (w : World) : OwnI lo base w none 0 0 [] := ⟨[], World.ownsRow_nil _ _ _ _, mt_nil _ _ _ _⟩
theorem ownI_new (lo base : Nat) (w : World) (hb : base ≤ w.heap.size) : OwnI lo base (w.alloc (.cells #[] 60)) (some ⟨w.heap.size, 0, none⟩) 0 0 [] :=
  ⟨[], World.ownsRow_made w #[] 0 hb (by decide) rfl, mt_nil _ _ _ _⟩

theorem info_ie : (Tryd.prog.info? 60).map (fun i => (i.zero, i.size, i.bytes)) = some (some (.agg #[.int .u8 0, .slice none 0 0]), 2, 32) := by kernel_rfl

theorem size_ie : (Tryd.prog.info? 60).map (·.size) = some 2 := by kernel_rfl
/-- Elements appended: the slice stays in its block, or goes to a new one. -/
theorem run_app_r (w : World) (base : Nat) (hbase : base ≤ w.heap.size) (a : Option Addr) (n c : Nat) (R : List Rw) (hv : w.ownsRow base 60 2 (.slice a n c) n (rcells R)) (hn : n ≤ 1000) (ty : TypeId) (ad : Addr) (m c2 : Nat) (S : List Rw) (hm : m = S.length) (hm2 : m ≤ 1000)
    (hnews : ∀ (j : Nat) (u : Value), (rcells S)[j]? = some u → w.cell? (ad.add j) = some u) :
    ∃ a' c' w', (Builtin.append_ #[22, 22] ty #[.slice a n c, .slice (some ad) m c2]).run Tryd.prog w = .ok (.slice a' (n + m) c') w' ∧ w'.ownsRow base 60 2 (.slice a' (n + m) c') (n + m) (rcells (R ++ S)) ∧
      w.grownBy w' (Value.slice a n c).ownBlock ∧ (∀ g, (Value.slice a' (n + m) c').ownBlock = some g → (Value.slice a n c).ownBlock = some g ∨ w.heap.size ≤ g) := by
  obtain ⟨i0, hi, hz0, hz1, hz2⟩ := info_parts info_ie
  obtain ⟨v', w', hrun, ho, hgr, hne⟩ := run_append_own (P := Tryd.prog) w base 22 ty 60 i0 _ 2 32 Tryd.underlying22 hi hz0 hz1 hz2 rfl (by decide) _ _ _ hv ad m c2 (rcells S) (by rw [rcells_length, hm]) hnews rcells_one (by unfold maxLen; omega) (by omega) hbase
  have hvs : ∃ a' c', v' = .slice a' (n + m) c' := by
    rcases ho.2 with ⟨rfl, e⟩ | ⟨g, cap, cur, rfl, _⟩
    · exact ⟨none, 0, by rw [e]⟩
    · exact ⟨_, _, rfl⟩
  obtain ⟨a', c', rfl⟩ := hvs
  refine ⟨a', c', w', hrun, by rw [rcells_append]; exact ho, hgr, ?_⟩
  intro g' hg'
  rcases hv.2 with ⟨e, h0⟩ | ⟨g, cap, cur, e', hbg, hg, hnc, hcm, hcs, htake⟩
  · right
    by_cases hz : m = 0
    · have := hne.2 ⟨e, hz⟩
      rw [this] at hg'
      cases hg'
    have := run_append_nil (P := Tryd.prog) w 22 ty _ i0 _ Tryd.underlying22 hi hz0 ad m c2 (rcells S) (by rw [hz1, rcells_length, hm]) hnews (by omega) (by omega) (by rw [hz2]; omega)
    rw [e] at hrun
    have hh := hrun.symm.trans this
    simp at hh
    obtain ⟨⟨ha, _⟩, _⟩ := hh
    rw [ha] at hg'
    cases hg'
    exact Nat.le_refl _
  · simp only [Value.slice.injEq] at e'
    obtain ⟨rfl, _, rfl⟩ := e'
    by_cases hroom : n + m ≤ c
    · left
      have := run_append_room (P := Tryd.prog) w 22 ty 60 i0 Tryd.underlying22 hi g n c cur hg ad m c2 (rcells S) (by rw [hz1, rcells_length, hm]) hnews rcells_one hroom (by rw [hz1, hcs, rcells_length]; omega)
      have hh := hrun.symm.trans this
      simp at hh
      obtain ⟨⟨ha, _⟩, _⟩ := hh
      rw [ha] at hg'
      exact hg'
    · right
      have hlen := hv.1
      have := run_append_grow (P := Tryd.prog) w 22 ty 60 i0 _ Tryd.underlying22 hi hz0 ⟨g, 0, none⟩ n c (rcells R) (by rw [hz1]; exact hlen) (hv.cells (g := g) rfl) ad m c2 (rcells S) (by rw [hz1, rcells_length, hm]) hnews (by omega) (by omega) (by rw [hz2]; exact growslice_fits (by omega) (by omega))
      have hh := hrun.symm.trans this
      simp at hh
      obtain ⟨⟨ha, _⟩, _⟩ := hh
      rw [ha] at hg'
      cases hg'
      exact Nat.le_refl _

/-- The same, of elements. -/
theorem run_app_i (w : World) (lo base : Nat) (hbase : base ≤ w.heap.size) (a : Option Addr) (n c : Nat) (A : List El) (hv : OwnI lo base w a n c A) (hn : n ≤ 1000) (ty : TypeId) (a2 : Option Addr) (m c2 : Nat) (B : List El) (S : List Rw) (hB : m = B.length) (hnone : a2 = none → c2 = 0) (hm2 : m ≤ 1000)
    (hS : Mt lo w.heap.size w (Value.slice a n c).ownBlock S B) (hnews : B = [] ∨ ∃ b off, a2 = some ⟨b, off, none⟩ ∧ ∀ (j : Nat) (u : Value), (rcells S)[j]? = some u → w.cell? ⟨b, off + j, none⟩ = some u) :
    ∃ a' c' w', (Builtin.append_ #[22, 22] ty #[.slice a n c, .slice a2 m c2]).run Tryd.prog w = .ok (.slice a' (n + m) c') w' ∧ OwnI lo base w' a' (n + m) c' (A ++ B) ∧ Below base w w' := by
  obtain ⟨i0, hi, hz0, hz1, hz2⟩ := info_parts info_ie
  have hlt := hv.lt
  obtain ⟨R, hv, hR⟩ := hv
  have key : ∀ ad : Addr, a2 = some ad → (∀ (j : Nat) (u : Value), (rcells S)[j]? = some u → w.cell? (ad.add j) = some u) → ∃ a' c' w', (Builtin.append_ #[22, 22] ty #[.slice a n c, .slice a2 m c2]).run Tryd.prog w = .ok (.slice a' (n + m) c') w' ∧ OwnI lo base w' a' (n + m) c' (A ++ B) ∧ Below base w w' := by
    rintro ad rfl hc
    obtain ⟨a', c', w', hrun, ho, hgr, hor⟩ := run_app_r w base hbase a n c R hv hn ty ad m c2 S (by rw [hB]; exact hS.1.symm) hm2 hc
    have hkeep : ∀ (T : List Rw) (M : List El), Mt lo w.heap.size w (Value.slice a n c).ownBlock T M → Mt lo w'.heap.size w' (Value.slice a' (n + m) c').ownBlock T M := fun T M h =>
      h.keep hgr.size (fun k _ hk hne => hgr.block k hk hne) (fun k hk hne he => by
        rcases hor k he.symm with h | h
        · exact hne h.symm
        · omega)
    refine ⟨a', c', w', hrun, ⟨R ++ S, ho, (hkeep _ _ hR).append (hkeep _ _ hS)⟩, (Below.refl base w).grown hgr hbase (fun k e => (hlt k e).1)⟩
  cases a2 with
  | none =>
    obtain rfl := hnone rfl
    obtain rfl : B = [] := by
      rcases hnews with h | ⟨b, off, e, _⟩
      · exact h
      · cases e
    obtain rfl : m = 0 := hB
    refine ⟨a, c, w, run_append_owned_none (P := Tryd.prog) w base 22 ty 60 i0 2 Tryd.underlying22 hi _ _ _ hv, ⟨R, hv, by rw [List.append_nil]; exact hR⟩, Below.refl _ _⟩
  | some ad =>
    refine key ad rfl fun j u hu => ?_
    rcases hnews with rfl | ⟨b, off, e, hc⟩
    · have := hS.1
      obtain rfl : S = [] := List.eq_nil_of_length_eq_zero this
      rw [rcells_nil] at hu
      cases hu
    · cases e
      rw [Addr.add_lit]
      exact hc j u hu
/-- Elements that lie below what is appended to. -/
theorem run_app_old (w : World) (base : Nat) (hbase : base ≤ w.heap.size) (a : Option Addr) (n c : Nat) (A : List El) (hv : OwnI 0 base w a n c A) (hn : n ≤ 1000) (ty : TypeId) (a2 : Option Addr) (m c2 : Nat) (B : List El) (hB : IsI base w a2 m B) (hnone : a2 = none → c2 = 0) (hm2 : m ≤ 1000) :
    ∃ a' c' w', (Builtin.append_ #[22, 22] ty #[.slice a n c, .slice a2 m c2]).run Tryd.prog w = .ok (.slice a' (n + m) c') w' ∧ OwnI 0 base w' a' (n + m) c' (A ++ B) ∧ Below base w w' := by
  obtain ⟨e, S, hS, hc⟩ := hB
  refine run_app_i w 0 base hbase a n c A hv hn ty a2 m c2 B S e hnone hm2 (hS.keep hbase (fun _ _ _ _ => rfl) ?_) (hc.imp id fun ⟨b, off, ea, _, hc⟩ => ⟨b, off, ea, hc⟩)
  intro k hk _ he
  have := (hv.lt k he.symm).1
  omega
/-- One that lies in a block of its own, its Body behind what is appended to. -/
theorem run_app_one (w : World) (lo base : Nat) (hbase : base ≤ w.heap.size) (a : Option Addr) (n c : Nat) (A : List El) (hv : OwnI lo base w a n c A) (hn : n ≤ 1000) (ty : TypeId) (g2 : Nat) (i : UInt8) (ab : Option Addr) (l cb : Nat) (body : List UInt8) {t : TypeId} (h2 : BK w g2 #[.int .u8 (i.toNat : Int), .slice ab l cb] t)
    (hO : IsO lo w.heap.size w (Value.slice a n c).ownBlock ab l body) (h3 : ab = none → cb = 0) (h4 : l ≤ cb) :
    ∃ a' c' w', (Builtin.append_ #[22, 22] ty #[.slice a n c, .slice (some ⟨g2, 0, none⟩) 1 1]).run Tryd.prog w = .ok (.slice a' (n + 1) c') w' ∧ OwnI lo base w' a' (n + 1) c' (A ++ [⟨i, body⟩]) ∧ Below base w w' := by
  refine run_app_i w lo base hbase a n c A hv hn ty (some ⟨g2, 0, none⟩) 1 1 [⟨i, body⟩] [(i, ab, l, cb)] rfl (by intro h; cases h) (by decide) (mt_one hO h3 h4) (.inr ⟨g2, 0, rfl, fun j u hu => ?_⟩)
  rw [rcells_cons, rcells_nil] at hu
  rw [Nat.zero_add]
  exact h2.cell j u (by simpa using hu)

/-! ### As steps -/
theorem run_slI (i : UInt8) (ab : Option Addr) (l cb : Nat) (w : World) : (Instr.buildSlice 22 1 #[(0, ieV i ab l cb)]).run Tryd.prog w = .ok (.slice (some ⟨w.heap.size, 0, none⟩) 1 1) (w.alloc (.cells #[.int .u8 (i.toNat : Int), .slice ab l cb] 60)) := by kernel_rfl
theorem step_slI {w : World} {ops : Array Oper} {o : Oper} {a : Act} {K : Act → World → Prop} {Q : Exit → Act → World → Prop} {E : Prop} (hgd : Region.wanted o (yielded ops a.tmps) = true)
    {i : UInt8} {ab : Option Addr} {l cb : Nat} {x : Operand} (ho : o.op = .buildSlice 22 1 #[(0, x)]) (hx : a.eval x = ieV i ab l cb)
    (h : ∀ b w', w.heap.size ≤ b → BK w' b #[.int .u8 (i.toNat : Int), .slice ab l cb] 60 → Below w.heap.size w w' → K (a.put o.dst (.slice (some ⟨b, 0, none⟩) 1 1)) w') : if Region.wanted o (yielded ops a.tmps) = true then Oper.wp Tryd.prog o a w K Q else E := by
  rw [if_pos hgd]
  unfold Oper.wp
  have e2 : (execOp a.eval o).run Tryd.prog w = .ok (.value (.slice (some ⟨w.heap.size, 0, none⟩) 1 1)) (w.alloc (.cells #[.int .u8 (i.toNat : Int), .slice ab l cb] 60)) := by
    unfold execOp
    simp [ho, hx, run_slI, Result.andThen]
  rw [e2]
  exact h _ _ (Nat.le_refl _) (bk_new w _ _) ((Below.refl _ w).alloc (Nat.le_refl _) _)
theorem wpList_slI {w : World} {ops : Array Oper} {rest : List Oper} {o : Oper} {a : Act} {Q : Exit → Act → World → Prop} (hgd : Region.wanted o (yielded ops a.tmps) = true)
    {i : UInt8} {ab : Option Addr} {l cb : Nat} {x : Operand} (ho : o.op = .buildSlice 22 1 #[(0, x)]) (hx : a.eval x = ieV i ab l cb)
    (h : ∀ b w', w.heap.size ≤ b → BK w' b #[.int .u8 (i.toNat : Int), .slice ab l cb] 60 → Below w.heap.size w w' → wpList Tryd.prog ops Q rest (a.put o.dst (.slice (some ⟨b, 0, none⟩) 1 1)) w') : wpList Tryd.prog ops Q (o :: rest) a w := by
  refine wpList_val (v := .slice (some ⟨w.heap.size, 0, none⟩) 1 1) (w' := w.alloc (.cells #[.int .u8 (i.toNat : Int), .slice ab l cb] 60)) hgd ?_ (h _ _ (Nat.le_refl _) (bk_new w _ _) ((Below.refl _ w).alloc (Nat.le_refl _) _))
  unfold execOp
  simp [ho, hx, run_slI, Result.andThen]
theorem step_appI {w : World} {ops : Array Oper} {o : Oper} {a : Act} {K : Act → World → Prop} {Q : Exit → Act → World → Prop} {E : Prop} (hgd : Region.wanted o (yielded ops a.tmps) = true)
    {lo base n c g2 l cb N : Nat} {a1 ab : Option Addr} {A : List El} {i : UInt8} {body : List UInt8} {t : TypeId} {s x : Operand} (ho : o.op = .call { callee := .builtin .append, args := #[s, x], argTypes := #[22, 22] }) (hs : a.eval s = .slice a1 n c) (hx : a.eval x = .slice (some ⟨g2, 0, none⟩) 1 1)
    (hv : OwnI lo base w a1 n c A) (h2 : BK w g2 #[.int .u8 (i.toNat : Int), .slice ab l cb] t) (hO : IsO lo w.heap.size w (Value.slice a1 n c).ownBlock ab l body) (h3 : ab = none → cb = 0) (h4 : l ≤ cb) (hn : n ≤ 1000) (hbase : base ≤ w.heap.size) (hN : n + 1 = N)
    (h : ∀ a' c' w', OwnI lo base w' a' N c' (A ++ [⟨i, body⟩]) → Below base w w' → K (a.put o.dst (.slice a' N c')) w') : if Region.wanted o (yielded ops a.tmps) = true then Oper.wp Tryd.prog o a w K Q else E := by
  obtain ⟨a', c', w', hap, own, bel⟩ := run_app_one w lo base hbase a1 n c A hv hn o.type g2 i ab l cb body h2 hO h3 h4
  subst hN
  exact step_app hap s x hgd ho rfl hs hx (h _ _ _ own bel)
theorem wpList_appO {w : World} {ops : Array Oper} {rest : List Oper} {o : Oper} {a : Act} {Q : Exit → Act → World → Prop} (hgd : Region.wanted o (yielded ops a.tmps) = true)
    {base n c m c2 N : Nat} {a1 a2 : Option Addr} {A B : List El} {s x : Operand} (ho : o.op = .call { callee := .builtin .append, args := #[s, x], argTypes := #[22, 22] }) (hs : a.eval s = .slice a1 n c) (hx : a.eval x = .slice a2 m c2)
    (hv : OwnI 0 base w a1 n c A) (hB : IsI base w a2 m B) (hnone : a2 = none → c2 = 0) (hn : n ≤ 1000) (hm2 : m ≤ 1000) (hbase : base ≤ w.heap.size) (hN : n + m = N)
    (h : ∀ a' c' w', OwnI 0 base w' a' N c' (A ++ B) → Below base w w' → wpList Tryd.prog ops Q rest (a.put o.dst (.slice a' N c')) w') : wpList Tryd.prog ops Q (o :: rest) a w := by
  obtain ⟨a', c', w', hap, own, bel⟩ := run_app_old w base hbase a1 n c A hv hn o.type a2 m c2 B hB hnone hm2
  subst hN
  exact wpList_app hap s x hgd ho rfl hs hx (h _ _ _ own bel)
theorem step_appO {w : World} {ops : Array Oper} {o : Oper} {a : Act} {K : Act → World → Prop} {Q : Exit → Act → World → Prop} {E : Prop} (hgd : Region.wanted o (yielded ops a.tmps) = true)
    {base n c m c2 N : Nat} {a1 a2 : Option Addr} {A B : List El} {s x : Operand} (ho : o.op = .call { callee := .builtin .append, args := #[s, x], argTypes := #[22, 22] }) (hs : a.eval s = .slice a1 n c) (hx : a.eval x = .slice a2 m c2)
    (hv : OwnI 0 base w a1 n c A) (hB : IsI base w a2 m B) (hnone : a2 = none → c2 = 0) (hn : n ≤ 1000) (hm2 : m ≤ 1000) (hbase : base ≤ w.heap.size) (hN : n + m = N)
    (h : ∀ a' c' w', OwnI 0 base w' a' N c' (A ++ B) → Below base w w' → K (a.put o.dst (.slice a' N c')) w') : if Region.wanted o (yielded ops a.tmps) = true then Oper.wp Tryd.prog o a w K Q else E := by
  obtain ⟨a', c', w', hap, own, bel⟩ := run_app_old w base hbase a1 n c A hv hn o.type a2 m c2 B hB hnone hm2
  subst hN
  exact step_app hap s x hgd ho rfl hs hx (h _ _ _ own bel)
end Go.Proofs.YtbjeljmnknibnaaDoor
