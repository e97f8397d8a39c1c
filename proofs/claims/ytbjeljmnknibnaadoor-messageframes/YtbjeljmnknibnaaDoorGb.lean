/- Proved here: an append leaves all blocks but the slice's own as they were. Conditions: as each theorem states them. -/
import Derived.Test.YtbjeljmnknibnaaDoorEi
import Derived.Test.YtbjeljmnknibnaaDoorStp
namespace Go.Proofs.YtbjeljmnknibnaaDoor
set_option linter.unusedSimpArgs false
set_option linter.unusedVariables false
open Go.RowKit Go.Shelf

def blk (a : Option Addr) : Option Nat := a.map (·.block)
/-- All but the block of a is as it was; a' lies there, or in a new one. -/
structure GB (a : Option Addr) (w : World) (a' : Option Addr) (w' : World) : Prop where
  os : w'.os = w.os
  tape : w'.tape = w.tape
  output : w'.output = w.output
  size : w.heap.size ≤ w'.heap.size
  block : ∀ k, k < w.heap.size → blk a ≠ some k → w'.heap[k]? = w.heap[k]?
  own : ∀ g, blk a' = some g → blk a = some g ∨ w.heap.size ≤ g
theorem GB.of {a : Option Addr} {w w' : World} (h : Below w.heap.size w w') : GB a w a w' := ⟨h.os, h.tape, h.output, h.size, fun k hk _ => h.block k hk, fun g h => .inl h⟩
theorem GB.refl (a : Option Addr) (w : World) : GB a w a w := GB.of (Below.refl _ w)
theorem GB.trans {a a1 a2 : Option Addr} {w w1 w2 : World} (h : GB a w a1 w1) (k : GB a1 w1 a2 w2) : GB a w a2 w2 :=
  ⟨k.os.trans h.os, k.tape.trans h.tape, k.output.trans h.output, Nat.le_trans h.size k.size, fun i hi hne => (k.block i (Nat.lt_of_lt_of_le hi h.size) (fun e => by
    rcases h.own i e with e' | e'
    · exact hne e'
    · omega)).trans (h.block i hi hne), fun g hg => by
    rcases k.own g hg with e | e
    · exact h.own g e
    · exact .inr (Nat.le_trans h.size e)⟩
theorem GB.below {a a' : Option Addr} {w w' : World} {base : Nat} (h : GB a w a' w') (hb : ∀ k, blk a = some k → base ≤ k) (hbase : base ≤ w.heap.size) : Below base w w' :=
  ⟨h.os, h.tape, h.output, h.size, fun k hk => h.block k (by omega) (fun e => by have := hb k e; omega)⟩
theorem GB.bk {a a' : Option Addr} {w w' : World} {b : Nat} {vs : Array Value} {t : TypeId} (h : GB a w a' w') (k : BK w b vs t) (hne : blk a ≠ some b) : BK w' b vs t := (h.block b k.lt hne).trans k
theorem GB.ne {a a' : Option Addr} {w w' : World} {b : Nat} (h : GB a w a' w') (hne : blk a ≠ some b) (hb : b < w.heap.size) : blk a' ≠ some b := fun e => by
  rcases h.own b e with e | e
  · exact hne e
  · omega
theorem blk_own {a : Option Addr} {n c : Nat} : (Value.slice a n c).ownBlock = blk a := by cases a <;> rfl
theorem OwnB.blk_lt {base : Nat} {w : World} {a : Option Addr} {n c : Nat} {zs : List UInt8} (h : OwnB base w a n c zs) : ∀ k, blk a = some k → base ≤ k ∧ k < w.heap.size := fun k hk => h.lt k (by rw [blk_own]; exact hk)

theorem run_app_gb (w : World) (base : Nat) (hbase : base ≤ w.heap.size) (a : Option Addr) (n c : Nat) (xs : List UInt8) (hv : OwnB base w a n c xs) (ty : TypeId) (a2 : Option Addr) (m c2 : Nat) {n2 : Nat} (ys : List UInt8) (hy : IsB n2 w a2 m ys) (hnone : a2 = none → c2 = 0) (hlen : n + m ≤ 100000) :
    ∃ a' c' w', (Builtin.append_ #[25, 25] ty #[.slice a n c, .slice a2 m c2]).run Tryd.prog w = .ok (.slice a' (n + m) c') w' ∧ OwnB base w' a' (n + m) c' (xs ++ ys) ∧ GB a w a' w' := by
  obtain ⟨i0, hi, hz0, hz1, hz2⟩ := info_parts info5
  obtain ⟨rfl, hv⟩ := hv
  obtain ⟨rfl, hys⟩ := hy
  have key : ∀ ad : Addr, a2 = some ad → (∀ (j : Nat) (u : Value), (vals ys)[j]? = some u → w.cell? (ad.add j) = some u) → ∃ a' c' w', (Builtin.append_ #[25, 25] ty #[.slice a xs.length c, .slice a2 ys.length c2]).run Tryd.prog w = .ok (.slice a' (xs.length + ys.length) c') w' ∧ OwnB base w' a' (xs.length + ys.length) c' (xs ++ ys) ∧ GB a w a' w' := by
    rintro ad rfl hnews
    have hone : ∀ u ∈ vals ys, u.oneCell' = true := by
      intro u hu
      simp only [vals, List.mem_map] at hu
      obtain ⟨x, _, rfl⟩ := hu
      rfl
    obtain ⟨v', w', hrun, ho, hgr, hne⟩ := run_append_own (P := Tryd.prog) w base 25 ty 5 i0 (.int .u8 0) 1 1 Tryd.underlying25 hi hz0 hz1 hz2 rfl (by decide) _ _ _ hv ad ys.length c2 (vals ys) (by simp [vals]) hnews hone (by unfold maxLen; omega) (by omega) hbase
    have hvs : ∃ a' c', v' = .slice a' (xs.length + ys.length) c' := by
      rcases ho.2 with ⟨rfl, e⟩ | ⟨g, cap, cur, rfl, _⟩
      · exact ⟨none, 0, by rw [e]⟩
      · exact ⟨_, _, rfl⟩
    obtain ⟨a', c', rfl⟩ := hvs
    refine ⟨a', c', w', hrun, ⟨by simp, by rw [vals_append]; exact ho⟩, ⟨hgr.os, hgr.tape, hgr.output, hgr.size, fun k hk hne => hgr.block k hk (fun e => hne (by rw [← blk_own (n := xs.length) (c := c)]; exact e.symm)), ?_⟩⟩
    intro g' hg'
    rcases hv.2 with ⟨e, h0⟩ | ⟨g, cap, cur, e', hbg, hg, hnc, hcm, hcs, htake⟩
    · right
      by_cases hz : ys.length = 0
      · have := hne.2 ⟨e, hz⟩
        simp only [Value.slice.injEq] at this
        rw [this.1] at hg'
        cases hg'
      have := run_append_nil (P := Tryd.prog) w 25 ty _ i0 _ Tryd.underlying25 hi hz0 ad ys.length c2 (vals ys) (by rw [hz1]; simp [vals]) hnews (by omega) (by omega) (by rw [hz2]; omega)
      rw [e] at hrun
      have hh := hrun.symm.trans this
      simp at hh
      obtain ⟨⟨ha, _⟩, _⟩ := hh
      rw [ha] at hg'
      cases hg'
      exact Nat.le_refl _
    · simp only [Value.slice.injEq] at e'
      obtain ⟨rfl, _, rfl⟩ := e'
      by_cases hroom : xs.length + ys.length ≤ c
      · left
        have := run_append_room (P := Tryd.prog) w 25 ty 5 i0 Tryd.underlying25 hi g xs.length c cur hg ad ys.length c2 (vals ys) (by rw [hz1]; simp [vals]) hnews hone hroom (by rw [hz1, hcs, vals_length]; omega)
        have hh := hrun.symm.trans this
        simp at hh
        obtain ⟨⟨ha, _⟩, _⟩ := hh
        rw [ha] at hg'
        exact hg'
      · right
        have hlen2 := hv.1
        have := run_append_grow (P := Tryd.prog) w 25 ty 5 i0 _ Tryd.underlying25 hi hz0 ⟨g, 0, none⟩ xs.length c (vals xs) (by rw [hz1]; exact hlen2) (hv.cells (g := g) rfl) ad ys.length c2 (vals ys) (by rw [hz1]; simp [vals]) hnews (by omega) (by omega) (by rw [hz2]; exact growslice_fits (by omega) (by omega))
        have hh := hrun.symm.trans this
        simp at hh
        obtain ⟨⟨ha, _⟩, _⟩ := hh
        rw [ha] at hg'
        cases hg'
        exact Nat.le_refl _
  cases a2 with
  | none =>
    obtain rfl := hnone rfl
    obtain rfl : ys = [] := by
      rcases hys with h | ⟨b, off, e, _⟩
      · exact h
      · cases e
    refine ⟨a, c, w, run_append_owned_none (P := Tryd.prog) w base 25 ty 5 i0 1 Tryd.underlying25 hi _ _ _ hv, ⟨by simp, by rw [List.append_nil]; exact hv⟩, GB.refl _ _⟩
  | some ad =>
    refine key ad rfl fun j u hu => ?_
    obtain ⟨x, hx, rfl⟩ := vals_get hu
    rcases hys with rfl | ⟨b, off, e, _, hc⟩
    · cases hx
    · cases e
      rw [Addr.add_lit]
      exact hc j x hx
theorem wpList_appG {w : World} {ops : Array Oper} {rest : List Oper} {o : Oper} {a : Act} {Q : Exit → Act → World → Prop} (hgd : Region.wanted o (yielded ops a.tmps) = true)
    {base n k c m c2 N : Nat} {a1 a2 : Option Addr} {xs ys : List UInt8} {s x : Operand} (ho : o.op = .call { callee := .builtin .append, args := #[s, x], argTypes := #[25, 25] }) (hs : a.eval s = .slice a1 k c) (hx : a.eval x = .slice a2 m c2)
    (hv : OwnB base w a1 k c xs) (hy : IsB n w a2 m ys) (hnone : a2 = none → c2 = 0) (hlen : k + m ≤ 100000) (hbase : base ≤ w.heap.size) (hN : k + m = N)
    (h : ∀ a' c' w', OwnB base w' a' N c' (xs ++ ys) → GB a1 w a' w' → wpList Tryd.prog ops Q rest (a.put o.dst (.slice a' N c')) w') : wpList Tryd.prog ops Q (o :: rest) a w := by
  obtain ⟨a', c', w', hap, own, bel⟩ := run_app_gb w base hbase a1 k c xs hv o.type a2 m c2 ys hy hnone hlen
  subst hN
  exact wpList_app hap s x hgd ho rfl hs hx (h _ _ _ own bel)
theorem step_appG {w : World} {ops : Array Oper} {o : Oper} {a : Act} {K : Act → World → Prop} {Q : Exit → Act → World → Prop} {E : Prop} (hgd : Region.wanted o (yielded ops a.tmps) = true)
    {base n k c m c2 N : Nat} {a1 a2 : Option Addr} {xs ys : List UInt8} {s x : Operand} (ho : o.op = .call { callee := .builtin .append, args := #[s, x], argTypes := #[25, 25] }) (hs : a.eval s = .slice a1 k c) (hx : a.eval x = .slice a2 m c2)
    (hv : OwnB base w a1 k c xs) (hy : IsB n w a2 m ys) (hnone : a2 = none → c2 = 0) (hlen : k + m ≤ 100000) (hbase : base ≤ w.heap.size) (hN : k + m = N)
    (h : ∀ a' c' w', OwnB base w' a' N c' (xs ++ ys) → GB a1 w a' w' → K (a.put o.dst (.slice a' N c')) w') : if Region.wanted o (yielded ops a.tmps) = true then Oper.wp Tryd.prog o a w K Q else E := by
  obtain ⟨a', c', w', hap, own, bel⟩ := run_app_gb w base hbase a1 k c xs hv o.type a2 m c2 ys hy hnone hlen
  subst hN
  exact step_app hap s x hgd ho rfl hs hx (h _ _ _ own bel)
end Go.Proofs.YtbjeljmnknibnaaDoor
