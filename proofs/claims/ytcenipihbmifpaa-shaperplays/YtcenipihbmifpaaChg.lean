/- Proved here: how slices of changes (a step, a time) lie in memory, how one is appended, copied, cleared. Conditions: as each theorem states them. -/
import Derived.Laws.CopyRow
import Derived.Lib.AppendZerosOnto
import Derived.Lib.Overlaps
import Derived.Test.YtcenipihbmifpaaBut
namespace Go.Proofs.Ytcenipihbmifpaa
set_option linter.unusedSimpArgs false
set_option linter.unusedVariables false
open Go.RowKit Go.Shelf

/-- The cells of changes that lie side by side. -/
def ccells (L : List (Int × Int)) : List Value := L.flatMap fun x => [.int .i64 x.1, .int .i64 x.2]
theorem ccells_nil : ccells [] = [] := rfl
theorem ccells_cons (x : Int × Int) (L : List (Int × Int)) : ccells (x :: L) = .int .i64 x.1 :: .int .i64 x.2 :: ccells L := by simp [ccells]
theorem ccells_append (L M : List (Int × Int)) : ccells (L ++ M) = ccells L ++ ccells M := by simp [ccells]
theorem ccells_length (L : List (Int × Int)) : (ccells L).length = L.length * 2 := by
  induction L with
  | nil => rfl
  | cons x L ih => rw [ccells_cons]; simp [ih]; omega
theorem ccells_take (L : List (Int × Int)) (n : Nat) : (ccells L).take (n * 2) = ccells (L.take n) := by
  induction L generalizing n with
  | nil => simp [ccells_nil]
  | cons x L ih =>
    cases n with
    | zero => simp [ccells_nil]
    | succ n => rw [List.take_succ_cons, ccells_cons, ccells_cons, ← ih n, show (n + 1) * 2 = n * 2 + 1 + 1 by omega, List.take_succ_cons, List.take_succ_cons]
theorem ccells_drop (L : List (Int × Int)) (n : Nat) : (ccells L).drop (n * 2) = ccells (L.drop n) := by
  induction L generalizing n with
  | nil => simp [ccells_nil]
  | cons x L ih =>
    cases n with
    | zero => simp
    | succ n => rw [List.drop_succ_cons, ccells_cons, ← ih n, show (n + 1) * 2 = n * 2 + 1 + 1 by omega, List.drop_succ_cons, List.drop_succ_cons]
theorem ccells_get {L : List (Int × Int)} {j : Nat} {x : Int × Int} (h : L[j]? = some x) : (ccells L)[j * 2]? = some (.int .i64 x.1) ∧ (ccells L)[j * 2 + 1]? = some (.int .i64 x.2) := by
  induction L generalizing j with
  | nil => cases h
  | cons y L ih =>
    rw [ccells_cons]
    cases j with
    | zero => simp at h; subst h; simp
    | succ j =>
      have := ih (j := j) (by simpa using h)
      rw [show (j + 1) * 2 = j * 2 + 1 + 1 by omega, show j * 2 + 1 + 1 + 1 = (j * 2 + 1) + 1 + 1 by omega]
      simpa using this
theorem ccells_set (L : List (Int × Int)) (j : Nat) (x : Int × Int) : ((ccells L).set (j * 2) (.int .i64 x.1)).set (j * 2 + 1) (.int .i64 x.2) = ccells (L.set j x) := by
  induction L generalizing j with
  | nil => simp [ccells_nil]
  | cons y L ih =>
    cases j with
    | zero => simp [ccells_cons]
    | succ j =>
      rw [List.set_cons_succ, ccells_cons, ccells_cons, ← ih j, show (j + 1) * 2 = j * 2 + 1 + 1 by omega, show j * 2 + 1 + 1 + 1 = (j * 2 + 1) + 1 + 1 by omega]
      simp
theorem ccells_one {L : List (Int × Int)} : ∀ v ∈ ccells L, v.oneCell' = true := by
  intro v hv
  simp only [ccells, List.mem_flatMap] at hv
  obtain ⟨x, _, hx⟩ := hv
  simp at hx
  rcases hx with rfl | rfl <;> rfl

/-- A slice of changes in a block of its own, from base on. -/
def CS (e : TypeId) (base : Nat) (w : World) (a : Option Addr) (n c : Nat) (L : List (Int × Int)) : Prop := n = L.length ∧ w.ownsRow base e 2 (.slice a n c) n (ccells L)

theorem cs_nil (e : TypeId) (base : Nat) (w : World) : CS e base w none 0 0 [] := ⟨rfl, World.ownsRow_nil w base e 2⟩
theorem cs_new (e : TypeId) (base : Nat) (w : World) (hb : base ≤ w.heap.size) : CS e base (w.alloc (.cells #[] e)) (some ⟨w.heap.size, 0, none⟩) 0 0 [] :=
  ⟨rfl, World.ownsRow_made w #[] 0 hb (by decide) rfl⟩
theorem CS.mono {e : TypeId} {base base' : Nat} {A : World} (hb : base' ≤ base) {a : Option Addr} {n c : Nat} {L : List (Int × Int)} (ho : CS e base A a n c L) : CS e base' A a n c L := by
  obtain ⟨hn, hl, ho⟩ := ho
  refine ⟨hn, hl, ?_⟩
  rcases ho with ho | ⟨g, cap, cur, e, hg, hh, r⟩
  · exact .inl ho
  · exact .inr ⟨g, cap, cur, e, Nat.le_trans hb hg, hh, r⟩
/-- Where the slice lies. -/
theorem CS.block {e : TypeId} {base : Nat} {w : World} {y : Addr} {n c : Nat} {L : List (Int × Int)} (h : CS e base w (some y) n c L) :
    ∃ g cur, y = ⟨g, 0, none⟩ ∧ base ≤ g ∧ BK w g cur e ∧ n ≤ c ∧ c ≤ maxLen ∧ cur.size = c * 2 ∧ cur.toList.take (n * 2) = ccells L := by
  obtain ⟨_, _, h⟩ := h
  rcases h with ⟨e, h0⟩ | ⟨g, cap, cur, e, hg, hh, h1, h2, h3, h4⟩
  · cases e
  · simp only [Value.slice.injEq, Option.some.injEq] at e
    obtain ⟨rfl, _, rfl⟩ := e
    exact ⟨g, cur, rfl, hg, hh, h1, h2, h3, h4⟩
theorem CS.lt {e : TypeId} {base : Nat} {w : World} {y : Addr} {n c : Nat} {L : List (Int × Int)} (h : CS e base w (some y) n c L) : base ≤ y.block ∧ y.block < w.heap.size := by
  obtain ⟨g, cur, rfl, hg, hh, _⟩ := h.block
  exact ⟨hg, hh.lt⟩
theorem CS.none {e : TypeId} {base : Nat} {w : World} {n c : Nat} {L : List (Int × Int)} (h : CS e base w Option.none n c L) : n = 0 ∧ c = 0 ∧ L = [] := by
  obtain ⟨hn, hl, h⟩ := h
  rcases h with ⟨e, h0⟩ | ⟨g, cap, cur, e, _⟩
  · simp at e
    exact ⟨h0, e.2, List.eq_nil_of_length_eq_zero (by omega)⟩
  · cases e
/-- It is as it was, where its block is. -/
theorem CS.keep {e : TypeId} {base : Nat} {w w' : World} {a : Option Addr} {n c : Nat} {L : List (Int × Int)} (h : CS e base w a n c L) (hb : ∀ y, a = some y → w'.heap[y.block]? = w.heap[y.block]?) : CS e base w' a n c L := by
  obtain ⟨hn, hl, ho⟩ := h
  refine ⟨hn, hl, ?_⟩
  rcases ho with ho | ⟨g, cap, cur, e, hg, hh, r⟩
  · exact .inl ho
  · simp only [Value.slice.injEq] at e
    exact .inr ⟨g, cap, cur, by rw [e.1, e.2.2], hg, (hb ⟨g, 0, Option.none⟩ e.1).trans hh, r⟩
theorem CS.below {e : TypeId} {base m : Nat} {A B : World} {a : Option Addr} {n c : Nat} {L : List (Int × Int)} (ho : CS e base A a n c L) (h : Below m A B) (hm : A.heap.size ≤ m) : CS e base B a n c L :=
  ho.keep fun y hy => by subst hy; exact h.block _ (Nat.lt_of_lt_of_le ho.lt.2 hm)
theorem CS.cell {e : TypeId} {base : Nat} {w : World} {a : Option Addr} {n c : Nat} {L : List (Int × Int)} (h : CS e base w a n c L) {j : Nat} {x : Int × Int} (hx : L[j]? = some x) :
    ∃ g, a = some ⟨g, 0, Option.none⟩ ∧ w.cell? ⟨g, j * 2, Option.none⟩ = some (.int .i64 x.1) ∧ w.cell? ⟨g, j * 2 + 1, Option.none⟩ = some (.int .i64 x.2) := by
  have hj : j < L.length := (List.getElem?_eq_some_iff.1 hx).1
  have hn := h.1
  cases a with
  | none => obtain ⟨_, _, rfl⟩ := h.none; cases hx
  | some y =>
    obtain ⟨g, cur, rfl, hg, hh, h1, h2, h3, h4⟩ := h.block
    obtain ⟨e1, e2⟩ := ccells_get hx
    rw [← h4, List.getElem?_take_of_lt (by omega)] at e1 e2
    exact ⟨g, rfl, hh.cell _ _ (by simpa using e1), hh.cell _ _ (by simpa using e2)⟩
theorem CS.frozen {e : TypeId} {base : Nat} {w : World} {g k n c : Nat} {L : List (Int × Int)} (h : CS e base w (some ⟨g, 0, Option.none⟩) n c L) : w.frozen? ⟨g, k, Option.none⟩ = false := by
  obtain ⟨g', cur, e1, hg, hh, _⟩ := h.block
  cases e1
  exact hh.frozen _
theorem CS.store {e : TypeId} {base : Nat} {w : World} {g n c : Nat} {L : List (Int × Int)} (h : CS e base w (some ⟨g, 0, Option.none⟩) n c L) (j : Nat) (x : Int × Int) :
    CS e base ((w.setCell ⟨g, j * 2, Option.none⟩ (.int .i64 x.1)).setCell ⟨g, j * 2 + 1, Option.none⟩ (.int .i64 x.2)) (some ⟨g, 0, Option.none⟩) n c (L.set j x) := by
  obtain ⟨g', cur, e1, hg, hh, h1, h2, h3, h4⟩ := h.block
  cases e1
  refine ⟨by simpa using h.1, by rw [ccells_length]; simpa using congrArg (· * 2) h.1.symm, .inr ⟨g, c, _, rfl, hg, (hh.set _ _).set _ _, h1, h2, by simpa using h3, ?_⟩⟩
  rw [Array.toList_setIfInBounds, Array.toList_setIfInBounds, List.take_set, List.take_set, h4, ccells_set]
/-- Shorter. -/
theorem CS.cut {e : TypeId} {base : Nat} {w : World} {a : Option Addr} {n c : Nat} {L : List (Int × Int)} (h : CS e base w a n c L) {m : Nat} (hm : m ≤ n) : CS e base w a m c (L.take m) := by
  have hn := h.1
  cases a with
  | none => obtain ⟨rfl, rfl, rfl⟩ := h.none; obtain rfl : m = 0 := (by omega); exact cs_nil _ _ _
  | some y =>
    obtain ⟨g, cur, rfl, hg, hh, h1, h2, h3, h4⟩ := h.block
    refine ⟨by rw [List.length_take]; omega, by rw [ccells_length, List.length_take]; omega, .inr ⟨g, c, cur, rfl, hg, hh, by omega, h2, h3, ?_⟩⟩
    rw [← ccells_take, ← h4, List.take_take]
    congr 1
    omega

theorem info_c : (Try.prog.info? 64).map (fun i => (i.zero, i.size, i.bytes)) = some (some (.agg #[.int .i64 0, .int .i64 0]), 2, 16) := by kernel_rfl
theorem info_rc : (Try.prog.info? 66).map (fun i => (i.zero, i.size, i.bytes)) = some (some (.agg #[.int .i64 0, .int .i64 0]), 2, 16) := by kernel_rfl

/-- A change appended: the slice stays in its block, or goes to a new one. -/
theorem run_app_c {t e : TypeId} (ht : Try.prog.underlying t = some (.slice e)) (hinf : (Try.prog.info? e).map (fun i => (i.zero, i.size, i.bytes)) = some (some (.agg #[.int .i64 0, .int .i64 0]), 2, 16))
    (w : World) (base : Nat) (hbase : base ≤ w.heap.size) (a : Option Addr) (n c : Nat) (L : List (Int × Int)) (hv : CS e base w a n c L) (hn : n ≤ 1000) (ty : TypeId) (x : Int × Int) (g2 : Nat) (h2 : BK w g2 #[.int .i64 x.1, .int .i64 x.2] e) :
    ∃ g' c' w', (Builtin.append_ #[t, t] ty #[.slice a n c, .slice (some ⟨g2, 0, none⟩) 1 1]).run Try.prog w = .ok (.slice (some ⟨g', 0, none⟩) (n + 1) c') w' ∧ CS e base w' (some ⟨g', 0, none⟩) (n + 1) c' (L ++ [x]) ∧
      w.grownBy w' (Value.slice a n c).ownBlock ∧ ((∃ y, a = some y ∧ y.block = g') ∨ w.heap.size ≤ g') := by
  obtain ⟨i0, hi, hz0, hz1, hz2⟩ := info_parts hinf
  obtain ⟨rfl, hown⟩ := hv
  have hnews : ∀ j u, (ccells [x])[j]? = some u → w.cell? ((⟨g2, 0, none⟩ : Addr).add j) = some u := by
    intro j u hu
    rw [Addr.add_lit, Nat.zero_add]
    rw [ccells_cons, ccells_nil] at hu
    match j, hu with
    | 0, hu => simp at hu; subst hu; exact h2.cell 0 _ rfl
    | 1, hu => simp at hu; subst hu; exact h2.cell 1 _ rfl
    | j + 2, hu => simp at hu
  obtain ⟨v', w', hrun, ho, hgr, hne⟩ := run_append_own (P := Try.prog) w base t ty e i0 _ 2 16 ht hi hz0 hz1 hz2 rfl (by decide) _ _ _ hown ⟨g2, 0, none⟩ 1 1 (ccells [x]) rfl hnews ccells_one (by unfold maxLen; omega) (by omega) hbase
  obtain ⟨g', c', rfl⟩ := ownsRow_succ ho
  refine ⟨g', c', w', hrun, ⟨by simp, by rw [ccells_append]; exact ho⟩, hgr, ?_⟩
  rcases hown.2 with ⟨e, h0⟩ | ⟨g, cap, cur, e', hbg, hg, hnc, hcm, hcs, htake⟩
  · right
    have := run_append_nil (P := Try.prog) w t ty _ i0 _ ht hi hz0 ⟨g2, 0, none⟩ 1 1 (ccells [x]) (by rw [hz1]; rfl) hnews (by decide) (by decide) (by rw [hz2]; decide)
    rw [e] at hrun
    have hh := hrun.symm.trans this
    simp at hh
    omega
  · simp at e'
    obtain ⟨rfl, rfl⟩ := e'
    by_cases hroom : L.length + 1 ≤ c
    · left
      have := run_append_room (P := Try.prog) w t ty e i0 ht hi g L.length c cur hg ⟨g2, 0, none⟩ 1 1 (ccells [x]) (by rw [hz1]; rfl) hnews ccells_one hroom (by rw [hz1, hcs, ccells_length]; simp; omega)
      have hh := hrun.symm.trans this
      simp at hh
      exact ⟨_, rfl, hh.1.1.symm⟩
    · right
      have := run_append_grow (P := Try.prog) w t ty e i0 _ ht hi hz0 ⟨g, 0, none⟩ L.length c (ccells L) (by rw [hz1, ccells_length]) (hown.cells (g := g) rfl) ⟨g2, 0, none⟩ 1 1 (ccells [x]) (by rw [hz1]; rfl) hnews (by omega) (by omega) (by rw [hz2]; exact growslice_fits (by omega) (by omega))
      have hh := hrun.symm.trans this
      simp at hh
      omega

/-- A slice of changes copied: into another's cells. -/
theorem run_copy_c {t e : TypeId} (ht : Try.prog.underlying t = some (.slice e)) (hinf : (Try.prog.info? e).map (fun i => (i.zero, i.size, i.bytes)) = some (some (.agg #[.int .i64 0, .int .i64 0]), 2, 16))
    (w : World) (ty : TypeId) (g o dLen dCap : Nat) (a : Addr) (sLen sCap : Nat) (cur : Array Value) (t' : TypeId) (L : List (Int × Int)) (hg : BK w g cur t') (hn : L.length = Nat.min sLen dLen)
    (hsrc : ∀ j v, (ccells L)[j]? = some v → w.cell? (a.add j) = some v) (hfit : o + L.length * 2 ≤ cur.size) :
    (Builtin.copy_ #[t, t] ty #[.slice (some ⟨g, o, none⟩) dLen dCap, .slice (some a) sLen sCap]).run Try.prog w =
      .ok (goInt L.length) (w.setRow g (cur.toList.take o ++ ccells L ++ cur.toList.drop (o + L.length * 2)).toArray) := by
  obtain ⟨i0, hi, hz0, hz1, hz2⟩ := info_parts hinf
  have hl := run_firstCells_some (P := Try.prog) w 2 L.length a sLen sCap (ccells L) (ccells_length L) hsrc
  have hst := run_storeCells_at Try.prog g o t' (ccells L) 0 cur w hg (by rw [ccells_length]; simpa using hfit) ccells_one
  rw [Nat.add_zero, ccells_length] at hst
  simp [Builtin.copy_, run_underlying ht, Builtin.lenOf, sizeOf, typeInfo, hi, hz1, ← hn, hl, hst]

theorem zeroCells_pair (m : Nat) : (Builtin.zeroCells #[(.int .i64 0 : Value), .int .i64 0] m).toList = ccells (List.replicate m (0, 0)) := by
  have hs : (Builtin.zeroCells #[(.int .i64 0 : Value), .int .i64 0] m).toList = List.replicate (m * 2) (.int .i64 0) := by
    apply List.ext_getElem
    · simp [Builtin.zeroCells]
    · intro i h1 h2
      simp [Builtin.zeroCells] at h1 ⊢
      rcases Nat.mod_two_eq_zero_or_one i with h | h <;> simp [h]
  rw [hs]
  clear hs
  induction m with
  | zero => rfl
  | succ m ih => rw [List.replicate_succ, ccells_cons, ← ih, show (m + 1) * 2 = m * 2 + 1 + 1 by omega, List.replicate_succ, List.replicate_succ]

/-- Changes cleared, from a place on. -/
theorem run_clear_c (w : World) (ty : TypeId) (g o n c : Nat) (cur : Array Value) (t' : TypeId) (hg : BK w g cur t') (hfit : o + n * 2 ≤ cur.size) :
    (Builtin.clear_ #[57] ty #[.slice (some ⟨g, o, none⟩) n c]).run Try.prog w = .ok (.tuple #[]) (w.setRow g (cur.toList.take o ++ ccells (List.replicate n (0, 0)) ++ cur.toList.drop (o + n * 2)).toArray) := by
  obtain ⟨i0, hi, hz0, hz1, hz2⟩ := info_parts info_c
  cases n with
  | zero =>
    rw [show (cur.toList.take o ++ ccells (List.replicate 0 (0, 0)) ++ cur.toList.drop (o + 0 * 2)).toArray = cur from by simp [ccells_nil], setRow_self w g cur t' (0, 0) hg]
    simp [Builtin.clear_, run_underlying Try.underlying57]
  | succ m =>
    have hst := run_storeCells_at Try.prog g o t' (ccells (List.replicate (m + 1) (0, 0))) 0 cur w hg (by rw [ccells_length, List.length_replicate]; simpa using hfit) ccells_one
    rw [Nat.add_zero, ccells_length, List.length_replicate] at hst
    have hzz := zeroCells_pair (m + 1)
    have hzc : (Value.agg #[.int .i64 0, .int .i64 0]).cells = #[.int .i64 0, .int .i64 0] := rfl
    simp [Builtin.clear_, run_underlying Try.underlying57, zeroValue, typeInfo, hi, hz0, hzc, hzz, hst]
end Go.Proofs.Ytcenipihbmifpaa
