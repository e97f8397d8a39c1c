/- Proved here: appending to, and making, slices of bytes of a call's own. Conditions: as each theorem states them. -/
import Derived.Maps.AppendAt
import Derived.OpenShut
import Derived.Deep.RegionLaw
import Derived.Test.YtbjeljmnknibnaaDoorBase
namespace Go.Proofs.YtbjeljmnknibnaaDoor
set_option linter.unusedSimpArgs false
set_option linter.unusedVariables false
open Go.RowKit

/-- An append whose run is known, as a law for the walk. -/
theorem wpList_app {P : Program} {w w' : World} {t : TypeId} {va vx v' : Value} {ty : TypeId} (hrun : (Builtin.append_ #[t, t] ty #[va, vx]).run P w = .ok v' w')
    {ops : Array Oper} {rest : List Oper} {o : Oper} {a : Act} {Q : Exit → Act → World → Prop} (s x : Operand) (hgd : Region.wanted o (yielded ops a.tmps) = true)
    (ho : o.op = .call { callee := .builtin .append, args := #[s, x], argTypes := #[t, t] }) (hty : o.type = ty) (hs : a.eval s = va) (hx : a.eval x = vx)
    (h : wpList P ops Q rest (a.put o.dst v') w') : wpList P ops Q (o :: rest) a w := by
  refine wpList_step fun K hK => ?_
  rw [if_pos hgd]
  subst hty
  unfold Oper.wp
  simp [execOp, ho, resolve, invoke, builtin, hs, hx, hrun, Result.andThen]
  exact hK _ _ h

/-- The same, as a step of a region that draws its order. -/
theorem step_app {P : Program} {w w' : World} {t : TypeId} {va vx v' : Value} {ty : TypeId} (hrun : (Builtin.append_ #[t, t] ty #[va, vx]).run P w = .ok v' w')
    {ops : Array Oper} {o : Oper} {a : Act} {K : Act → World → Prop} {Q : Exit → Act → World → Prop} {E : Prop} (s x : Operand) (hgd : Region.wanted o (yielded ops a.tmps) = true)
    (ho : o.op = .call { callee := .builtin .append, args := #[s, x], argTypes := #[t, t] }) (hty : o.type = ty) (hs : a.eval s = va) (hx : a.eval x = vx)
    (h : K (a.put o.dst v') w') : if Region.wanted o (yielded ops a.tmps) = true then Oper.wp P o a w K Q else E := by
  rw [if_pos hgd]
  subst hty
  unfold Oper.wp
  simp [execOp, ho, resolve, invoke, builtin, hs, hx, hrun, Result.andThen]
  exact h
/-- A call of a Go function by its contract, as a step of a region that draws its order. -/
theorem step_call {P : Program} {w : World} {f : FuncId} {vs : List Value} {R : Ending → World → Prop} (hc : Calls P f vs.toArray w R) (eg : ∀ args w, (callFunc f args).run P w = .ok (.enter f args) w)
    {ops : Array Oper} {o : Oper} {a : Act} {K : Act → World → Prop} {Q : Exit → Act → World → Prop} {E : Prop} (args : List Operand) (ts : Array TypeId) (hgd : Region.wanted o (yielded ops a.tmps) = true)
    (ho : o.op = .call { callee := .value (.func f), args := args.toArray, argTypes := ts }) (hvs : args.map a.eval = vs)
    (h : ∀ e w', R e w' → ∃ v, e = .returned v ∧ K (a.put o.dst v) w') : if Region.wanted o (yielded ops a.tmps) = true then Oper.wp P o a w K Q else E := by
  rw [if_pos hgd]
  unfold Oper.wp
  have e : (execOp a.eval o).run P w = .ok (.enter f vs.toArray) w := by
    simp [execOp, ho, resolve, invoke, hvs, eg, Deferred.ofValue, Act.eval]
  rw [e]
  refine Calls.mono hc fun e w' hr => ?_
  obtain ⟨v, rfl, hk⟩ := h e w' hr
  exact hk

theorem info5 : (Tryd.prog.info? 5).map (fun i => (i.zero, i.size, i.bytes)) = some (some (.int .u8 0), 1, 1) := by kernel_rfl

theorem vals_length (zs : List UInt8) : (vals zs).length = zs.length := by simp [vals]
theorem vals_append (xs ys : List UInt8) : vals (xs ++ ys) = vals xs ++ vals ys := by simp [vals]
theorem vals_get {zs : List UInt8} {j : Nat} {u : Value} (h : (vals zs)[j]? = some u) : ∃ x, zs[j]? = some x ∧ u = .int .u8 (x.toNat : Int) := by
  simp only [vals, List.getElem?_map, Option.map_eq_some_iff] at h
  obtain ⟨x, hx, rfl⟩ := h
  exact ⟨x, hx, rfl⟩

/-- A slice of bytes in a block of the call's own, from base on. -/
def OwnB (base : Nat) (w : World) (a : Option Addr) (n c : Nat) (zs : List UInt8) : Prop := n = zs.length ∧ w.ownsRow base 5 1 (.slice a n c) n (vals zs)

theorem OwnB.isB {base : Nat} {w : World} {a : Option Addr} {n c : Nat} {zs : List UInt8} (h : OwnB base w a n c zs) : IsB w.heap.size w a n zs ∧ (a = none → c = 0) ∧ n ≤ c := by
  obtain ⟨rfl, hl, h⟩ := h
  rcases h with ⟨e, hn⟩ | ⟨g, cap, cur, e, hg, hh, hc, hm, hsz, ht⟩
  · simp only [Value.slice.injEq] at e
    exact ⟨⟨rfl, .inl (List.eq_nil_of_length_eq_zero hn)⟩, fun _ => e.2.2, by omega⟩
  · cases e
    refine ⟨⟨rfl, .inr ⟨g, 0, rfl, (Array.getElem?_eq_some_iff.1 hh).1, fun j x hx => ?_⟩⟩, (by intro h; cases h), hc⟩
    have hj : j < zs.length := (List.getElem?_eq_some_iff.1 hx).1
    unfold World.cell?
    rw [show w.heap[(⟨g, 0 + j, none⟩ : Addr).block]? = some (.cells cur 5 (0, 0)) from hh]
    show cur[0 + j]? = _
    have e1 : (cur.toList.take (zs.length * 1))[j]? = some (.int .u8 (x.toNat : Int)) := by rw [ht]; simp [vals, hx]
    rw [List.getElem?_take_of_lt (by omega)] at e1
    rw [Nat.zero_add]
    simpa using e1

theorem OwnB.lt {base : Nat} {w : World} {a : Option Addr} {n c : Nat} {zs : List UInt8} (h : OwnB base w a n c zs) : ∀ k, (Value.slice a n c).ownBlock = some k → base ≤ k ∧ k < w.heap.size := h.2.lt

theorem OwnB.below {base m : Nat} {A B : World} (h : Below m A B) (hm : A.heap.size ≤ m) {a : Option Addr} {n c : Nat} {zs : List UInt8} (ho : OwnB base A a n c zs) : OwnB base B a n c zs := by
  obtain ⟨hn, hl, ho⟩ := ho
  refine ⟨hn, hl, ?_⟩
  rcases ho with ho | ⟨g, cap, cur, e, hg, hh, r⟩
  · exact .inl ho
  · exact .inr ⟨g, cap, cur, e, hg, (h.block g (Nat.lt_of_lt_of_le (Array.getElem?_eq_some_iff.1 hh).1 hm)).trans hh, r⟩
theorem OwnB.mono {base base' : Nat} {A : World} (hb : base' ≤ base) {a : Option Addr} {n c : Nat} {zs : List UInt8} (ho : OwnB base A a n c zs) : OwnB base' A a n c zs := by
  obtain ⟨hn, hl, ho⟩ := ho
  refine ⟨hn, hl, ?_⟩
  rcases ho with ho | ⟨g, cap, cur, e, hg, hh, r⟩
  · exact .inl ho
  · exact .inr ⟨g, cap, cur, e, Nat.le_trans hb hg, hh, r⟩

theorem ownB_new (base : Nat) (w : World) (hb : base ≤ w.heap.size) : OwnB base (w.alloc (.cells #[] 5)) (some ⟨w.heap.size, 0, none⟩) 0 0 [] :=
  ⟨rfl, World.ownsRow_made w #[] 0 hb (by decide) rfl⟩

theorem run_app (w : World) (base : Nat) (ty : TypeId) (a : Option Addr) (k c : Nat) (xs : List UInt8) (hv : OwnB base w a k c xs) (a2 : Option Addr) (m c2 : Nat) {n : Nat} (ys : List UInt8) (hy : IsB n w a2 m ys) (hnone : a2 = none → c2 = 0)
    (hlen : k + m ≤ 100000) (hbase : base ≤ w.heap.size) :
    ∃ a' c' w', (Builtin.append_ #[25, 25] ty #[.slice a k c, .slice a2 m c2]).run Tryd.prog w = .ok (.slice a' (k + m) c') w' ∧ OwnB base w' a' (k + m) c' (xs ++ ys) ∧ Below base w w' := by
  obtain ⟨i0, hi, hz0, hz1, hz2⟩ := info_parts info5
  obtain ⟨rfl, hown⟩ := hv
  obtain ⟨rfl, hys⟩ := hy
  have key : ∀ (ad : Addr), a2 = some ad → (∀ j u, (vals ys)[j]? = some u → w.cell? (ad.add j) = some u) →
      ∃ a' c' w', (Builtin.append_ #[25, 25] ty #[.slice a xs.length c, .slice a2 ys.length c2]).run Tryd.prog w = .ok (.slice a' (xs.length + ys.length) c') w' ∧ OwnB base w' a' (xs.length + ys.length) c' (xs ++ ys) ∧ Below base w w' := by
    intro ad had hc
    obtain ⟨v', w', hrun, ho, hg, _⟩ := run_append_own (P := Tryd.prog) w base 25 ty 5 i0 (.int .u8 0) 1 1 Tryd.underlying25 hi hz0 hz1 hz2 rfl (by decide) _ _ _ hown ad ys.length c2 (vals ys) (by simp [vals]) hc
      (by intro u hu; simp only [vals, List.mem_map] at hu; obtain ⟨x, _, rfl⟩ := hu; rfl) (by unfold maxLen; omega) (by omega) hbase
    have hB : Below base w w' := (Below.refl base w).grown hg hbase (fun k e => (hown.lt k e).1)
    rw [had]
    obtain ⟨hl, h⟩ := ho
    have h' := h
    rcases h with ⟨e, hn⟩ | ⟨g, cap, cur, e, _⟩
    · subst e
      refine ⟨none, 0, w', by rw [hn]; exact hrun, ⟨by simp, ⟨by rw [vals_append]; exact hl, by rw [vals_append, hn]; rw [hn] at h'; exact h'⟩⟩, hB⟩
    · subst e
      exact ⟨_, cap, w', hrun, ⟨by simp, ⟨by rw [vals_append]; exact hl, by rw [vals_append]; exact h'⟩⟩, hB⟩
  cases a2 with
  | none =>
    obtain rfl := hnone rfl
    obtain rfl : ys = [] := by
      rcases hys with h | ⟨b, off, e, _⟩
      · exact h
      · cases e
    refine ⟨a, c, w, ?_, ⟨by simp, by simpa using hown⟩, Below.refl _ _⟩
    exact run_append_owned_none (P := Tryd.prog) (w := w) base 25 ty 5 i0 1 Tryd.underlying25 hi _ _ _ hown
  | some ad =>
    refine key ad rfl fun j u hu => ?_
    obtain ⟨x, hx, rfl⟩ := vals_get hu
    rcases hys with rfl | ⟨b, off, e, _, hc⟩
    · cases hx
    · cases e
      rw [Addr.add_lit]
      exact hc j x hx

theorem run_app_grow (w : World) (ty : TypeId) (b off k c : Nat) (xs : List UInt8) {n1 : Nat} (hv : IsB n1 w (some ⟨b, off, none⟩) k xs) (ad : Addr) (m c2 : Nat) {n : Nat} (ys : List UInt8) (hy : IsB n w (some ad) m ys) (hfull : c < k + m) (hlen : k + m ≤ 100000) :
    ∃ a' c' w', (Builtin.append_ #[25, 25] ty #[.slice (some ⟨b, off, none⟩) k c, .slice (some ad) m c2]).run Tryd.prog w = .ok (.slice a' (k + m) c') w' ∧ OwnB w.heap.size w' a' (k + m) c' (xs ++ ys) ∧ Below w.heap.size w w' := by
  obtain ⟨i0, hi, hz0, hz1, hz2⟩ := info_parts info5
  obtain ⟨rfl, hxs⟩ := hv
  obtain ⟨rfl, hys⟩ := hy
  obtain ⟨v', w', hrun, ho, hg⟩ := run_append_arg_grows (P := Tryd.prog) w 25 ty 5 i0 (.int .u8 0) 1 1 Tryd.underlying25 hi hz0 hz1 hz2 rfl (by decide) ⟨b, off, none⟩ xs.length c (vals xs) (by simp [vals])
    (fun j u hu => by
      obtain ⟨x, hx, rfl⟩ := vals_get hu
      rcases hxs with rfl | ⟨b', off', e, _, hc⟩
      · cases hx
      · cases e; rw [Addr.add_lit]; exact hc j x hx) ad ys.length c2 (vals ys) (by simp [vals])
    (fun j u hu => by
      obtain ⟨x, hx, rfl⟩ := vals_get hu
      rcases hys with rfl | ⟨b', off', e, _, hc⟩
      · cases hx
      · cases e; rw [Addr.add_lit]; exact hc j x hx) hfull (by unfold maxLen; omega) (by omega)
  have hB : Below w.heap.size w w' := (Below.refl _ w).grown hg (Nat.le_refl _) (fun k e => by cases e)
  obtain ⟨hl, h⟩ := ho
  have h' := h
  rcases h with ⟨e, hn⟩ | ⟨g, cap, cur, e, _⟩
  · subst e
    refine ⟨none, 0, w', by rw [hn]; exact hrun, ⟨by simp, ⟨by rw [vals_append]; exact hl, by rw [vals_append, hn]; rw [hn] at h'; exact h'⟩⟩, hB⟩
  · subst e
    exact ⟨_, cap, w', hrun, ⟨by simp, ⟨by rw [vals_append]; exact hl, by rw [vals_append]; exact h'⟩⟩, hB⟩

/-! ### A store into a row of the call's own -/
theorem OwnB.block {base : Nat} {w : World} {a : Option Addr} {n c : Nat} {zs : List UInt8} (h : OwnB base w a n c zs) (hn : 0 < n) :
    ∃ g cur, a = some ⟨g, 0, none⟩ ∧ base ≤ g ∧ g < w.heap.size ∧ w.heap[g]? = some (.cells cur 5 (0, 0)) := by
  obtain ⟨_, _, h⟩ := h
  rcases h with ⟨e, h0⟩ | ⟨g, cap, cur, e, hg, hh, _⟩
  · omega
  · simp only [Value.slice.injEq] at e
    exact ⟨g, cur, e.1, hg, (Array.getElem?_eq_some_iff.1 hh).1, hh⟩
theorem frozen_of_block {w : World} {g k : Nat} {cur : Array Value} {t : TypeId} (hh : w.heap[g]? = some (.cells cur t (0, 0))) : w.frozen? ⟨g, k, none⟩ = false := by
  unfold World.frozen?
  rw [show w.heap[(⟨g, k, none⟩ : Addr).block]? = some (.cells cur t (0, 0)) from hh]
  simp
theorem OwnB.set {base : Nat} {w : World} {g n c : Nat} {zs : List UInt8} (h : OwnB base w (some ⟨g, 0, none⟩) n c zs) (k : Nat) (y : UInt8) :
    OwnB base (w.setCell ⟨g, k, none⟩ (.int .u8 (y.toNat : Int))) (some ⟨g, 0, none⟩) n c (zs.set k y) := by
  obtain ⟨hn, hl, h⟩ := h
  refine ⟨by simpa using hn, by simpa [vals] using hl, ?_⟩
  rcases h with ⟨e, h0⟩ | ⟨g', cap, cur, e, hg, hh, hc, hm, hsz, ht⟩
  · cases e
  · cases e
    refine .inr ⟨g, c, cur.setIfInBounds k (.int .u8 (y.toNat : Int)), rfl, hg, ?_, hc, hm, by simpa using hsz, ?_⟩
    · show (w.heap.modify g _)[g]? = _
      rw [Array.getElem?_modify, if_pos rfl, hh]; rfl
    · rw [Array.toList_setIfInBounds, List.take_set, ht]
      simp [vals, List.map_set]

theorem byte_of_wf {z : Int} (h : (Lit.int .u8 z).wf = true) : ∃ x : UInt8, z = (x.toNat : Int) := by
  have hb := bounds_u8 h
  exact ⟨UInt8.ofNat z.toNat, by rw [ofNat_toNat_lt (by omega)]; omega⟩

theorem isB_of_row {w : World} {a : Option Addr} {len cap : Nat} {zs : List Int} (h : (a = none ∧ len = 0 ∧ cap = 0 ∧ zs = []) ∨
    ∃ x, a = some x ∧ len ≤ cap ∧ cap ≤ maxLen ∧ zs.length = cap ∧ (∀ i, i < zs.length → w.cell? (x.add i) = some (.int .u8 (zs.getD i 0))) ∧ ∀ n ∈ zs, (Lit.int .u8 n).wf = true) :
    ∃ bs : List UInt8, bs.length = len ∧ IsB w.heap.size w a len bs ∧ (a = none → cap = 0) ∧ len ≤ cap ∧ bs.length ≤ maxLen := by
  rcases h with ⟨rfl, rfl, rfl, rfl⟩ | ⟨x, rfl, hl, hm, hz, hc, hw⟩
  · exact ⟨[], rfl, ⟨rfl, .inl rfl⟩, fun _ => rfl, Nat.le_refl _, by simp⟩
  · refine ⟨(zs.take len).map fun n => UInt8.ofNat n.toNat, by simp; omega, ⟨by simp; omega, ?_⟩, (by intro h; cases h), hl, by simp; omega⟩
    by_cases h0 : len = 0
    · left; simp [h0]
    · right
      obtain ⟨b, off, rfl, hcx⟩ := ints_at hc (by omega)
      refine ⟨b, off, rfl, World.block_lt_of_cell? w ⟨b, off + 0, none⟩ (hcx 0 (by omega)), fun j y hy => ?_⟩
      have hj : j < ((zs.take len).map fun n => UInt8.ofNat n.toNat).length := (List.getElem?_eq_some_iff.1 hy).1
      simp at hj
      rw [hcx j (by omega)]
      simp only [List.getElem?_map, Option.map_eq_some_iff] at hy
      obtain ⟨n, hn, rfl⟩ := hy
      rw [List.getElem?_take_of_lt (by omega)] at hn
      have hmem : n ∈ zs := List.mem_of_getElem? hn
      have hb := bounds_u8 (hw n hmem)
      rw [List.getD_eq_getElem?_getD, hn]
      simp only [Option.getD_some]
      rw [ofNat_toNat_lt (by omega)]
      congr 2; omega
theorem ownB_nil (base : Nat) (w : World) : OwnB base w none 0 0 [] := ⟨rfl, by simp [vals], .inl ⟨rfl, rfl⟩⟩
end Go.Proofs.YtbjeljmnknibnaaDoor
