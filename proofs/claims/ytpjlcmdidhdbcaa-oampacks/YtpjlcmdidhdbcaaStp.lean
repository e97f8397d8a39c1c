/- Proved here: steps of a region that draws its order: slices of bytes that are written out, appended to, copied; stores. Conditions: as each theorem states them. -/
import Derived.BigRegion
import Derived.Deep.RegionLaw
import Derived.Test.YtpjlcmdidhdbcaaOw
namespace Go.Proofs.Ytpjlcmdidhdbcaa
set_option linter.unusedSimpArgs false
set_option linter.unusedVariables false
open Go.RowKit

theorem step_al {P : Program} {w : World} {ops : Array Oper} {o : Oper} {a : Act} {K : Act → World → Prop} {Q : Exit → Act → World → Prop} {E : Prop} (hgd : Region.wanted o (yielded ops a.tmps) = true)
    {ty : TypeId} {Z : Array Value} (ho : o.op = .alloc ty) (hz : ∀ w, (zeroValue ty).run P w = .ok (.agg Z) w)
    (h : K (a.put o.dst (.pointer (some ⟨w.heap.size, 0, none⟩))) (w.alloc (.cells Z ty))) : if Region.wanted o (yielded ops a.tmps) = true then Oper.wp P o a w K Q else E := by
  rw [if_pos hgd]
  unfold Oper.wp
  have e : (execOp a.eval o).run P w = .ok (.value (.pointer (some ⟨w.heap.size, 0, none⟩))) (w.alloc (.cells Z ty)) := by
    unfold execOp
    simp [ho, Instr.alloc, hz, newVar, newRow, Result.andThen, Value.cells]
    try rfl
  rw [e]
  exact h
theorem ownB_lit (base : Nat) (w : World) (zs : List UInt8) (hb : base ≤ w.heap.size) (hl : zs.length ≤ 100000) : OwnB base (w.alloc (.cells (vals zs).toArray 5)) (some ⟨w.heap.size, 0, none⟩) zs.length zs.length zs :=
  ⟨rfl, by simp [vals], .inr ⟨w.heap.size, zs.length, _, rfl, hb, World.alloc_heap_new w _, Nat.le_refl _, by unfold maxLen; omega, by simp [vals], by
    rw [List.take_of_length_le (by simp [vals])]⟩⟩
theorem run_sl1 (x : UInt8) (w : World) : (Instr.buildSlice 32 1 #[(0, .int .u8 (x.toNat : Int))]).run Try.prog w = .ok (.slice (some ⟨w.heap.size, 0, none⟩) 1 1) (w.alloc (.cells (vals [x]).toArray 5)) := by kernel_rfl
theorem run_sl2 (x y : UInt8) (w : World) : (Instr.buildSlice 32 2 #[(0, .int .u8 (x.toNat : Int)), (1, .int .u8 (y.toNat : Int))]).run Try.prog w = .ok (.slice (some ⟨w.heap.size, 0, none⟩) 2 2) (w.alloc (.cells (vals [x, y]).toArray 5)) := by kernel_rfl
theorem run_sl4 (x y z u : UInt8) (w : World) : (Instr.buildSlice 32 4 #[(0, .int .u8 (x.toNat : Int)), (1, .int .u8 (y.toNat : Int)), (2, .int .u8 (z.toNat : Int)), (3, .int .u8 (u.toNat : Int))]).run Try.prog w = .ok (.slice (some ⟨w.heap.size, 0, none⟩) 4 4) (w.alloc (.cells (vals [x, y, z, u]).toArray 5)) := by kernel_rfl
theorem run_sl5 (x y z u v : UInt8) (w : World) : (Instr.buildSlice 32 5 #[(0, .int .u8 (x.toNat : Int)), (1, .int .u8 (y.toNat : Int)), (2, .int .u8 (z.toNat : Int)), (3, .int .u8 (u.toNat : Int)), (4, .int .u8 (v.toNat : Int))]).run Try.prog w = .ok (.slice (some ⟨w.heap.size, 0, none⟩) 5 5) (w.alloc (.cells (vals [x, y, z, u, v]).toArray 5)) := by kernel_rfl
/-- A slice of bytes is written out. -/
theorem wpList_slB {P : Program} {w : World} {ops : Array Oper} {rest : List Oper} {o : Oper} {a : Act} {Q : Exit → Act → World → Prop} (hgd : Region.wanted o (yielded ops a.tmps) = true)
    {ty : TypeId} {n : Nat} {parts : Array (Nat × Operand)} {vs : List (Nat × Value)} {zs : List UInt8} (base : Nat) (ho : o.op = .buildSlice ty n parts) (hps : parts.toList.map (fun x => (x.1, a.eval x.2)) = vs)
    (hrun : ∀ w, (Instr.buildSlice ty n vs.toArray).run P w = .ok (.slice (some ⟨w.heap.size, 0, none⟩) n n) (w.alloc (.cells (vals zs).toArray 5))) (hn : zs.length = n) (hl : n ≤ 100000) (hbase : base ≤ w.heap.size)
    (h : ∀ b w', base ≤ b → OwnB base w' (some ⟨b, 0, none⟩) n n zs → Below w.heap.size w w' → wpList P ops Q rest (a.put o.dst (.slice (some ⟨b, 0, none⟩) n n)) w') : wpList P ops Q (o :: rest) a w := by
  have e : parts.map (fun x => (x.1, a.eval x.2)) = vs.toArray := by
    rw [← hps]
    cases parts
    simp
  refine wpList_val (v := .slice (some ⟨w.heap.size, 0, none⟩) n n) (w' := w.alloc (.cells (vals zs).toArray 5)) hgd ?_ ?_
  · unfold execOp
    simp only [ho]
    rw [e]
    simp [hrun, Result.andThen]
  · refine h _ _ hbase ?_ ((Below.refl _ w).alloc (Nat.le_refl _) _)
    have := ownB_lit base w zs hbase (by omega)
    rwa [hn] at this
theorem step_slB {P : Program} {w : World} {ops : Array Oper} {o : Oper} {a : Act} {K : Act → World → Prop} {Q : Exit → Act → World → Prop} {E : Prop} (hgd : Region.wanted o (yielded ops a.tmps) = true)
    {ty : TypeId} {n : Nat} {parts : Array (Nat × Operand)} {vs : List (Nat × Value)} {zs : List UInt8} (base : Nat) (ho : o.op = .buildSlice ty n parts) (hps : parts.toList.map (fun x => (x.1, a.eval x.2)) = vs)
    (hrun : ∀ w, (Instr.buildSlice ty n vs.toArray).run P w = .ok (.slice (some ⟨w.heap.size, 0, none⟩) n n) (w.alloc (.cells (vals zs).toArray 5))) (hn : zs.length = n) (hl : n ≤ 100000) (hbase : base ≤ w.heap.size)
    (h : ∀ b w', base ≤ b → OwnB base w' (some ⟨b, 0, none⟩) n n zs → Below w.heap.size w w' → K (a.put o.dst (.slice (some ⟨b, 0, none⟩) n n)) w') : if Region.wanted o (yielded ops a.tmps) = true then Oper.wp P o a w K Q else E := by
  have e : parts.map (fun x => (x.1, a.eval x.2)) = vs.toArray := by
    rw [← hps]
    cases parts
    simp
  rw [if_pos hgd]
  unfold Oper.wp
  have e2 : (execOp a.eval o).run P w = .ok (.value (.slice (some ⟨w.heap.size, 0, none⟩) n n)) (w.alloc (.cells (vals zs).toArray 5)) := by
    unfold execOp
    simp only [ho]
    rw [e]
    simp [hrun, Result.andThen]
  rw [e2]
  refine h _ _ hbase ?_ ((Below.refl _ w).alloc (Nat.le_refl _) _)
  have := ownB_lit base w zs hbase (by omega)
  rwa [hn] at this
/-- Bytes are appended to a slice of the call's own. -/
theorem step_appB {w : World} {ops : Array Oper} {o : Oper} {a : Act} {K : Act → World → Prop} {Q : Exit → Act → World → Prop} {E : Prop} (hgd : Region.wanted o (yielded ops a.tmps) = true)
    {base n k c m c2 N : Nat} {a1 a2 : Option Addr} {xs ys : List UInt8} {s x : Operand} (ho : o.op = .call { callee := .builtin .append, args := #[s, x], argTypes := #[32, 32] }) (hs : a.eval s = .slice a1 k c) (hx : a.eval x = .slice a2 m c2)
    (hv : OwnB base w a1 k c xs) (hy : IsB n w a2 m ys) (hnone : a2 = none → c2 = 0) (hlen : k + m ≤ 100000) (hbase : base ≤ w.heap.size) (hN : k + m = N)
    (h : ∀ a' c' w', OwnB base w' a' N c' (xs ++ ys) → Below base w w' → K (a.put o.dst (.slice a' N c')) w') : if Region.wanted o (yielded ops a.tmps) = true then Oper.wp Try.prog o a w K Q else E := by
  obtain ⟨a', c', w', hap, own, bel⟩ := run_app w base o.type a1 k c xs hv a2 m c2 ys hy hnone hlen hbase
  subst hN
  exact step_app hap s x hgd ho rfl hs hx (h _ _ _ own bel)
theorem wpList_appB {w : World} {ops : Array Oper} {rest : List Oper} {o : Oper} {a : Act} {Q : Exit → Act → World → Prop} (hgd : Region.wanted o (yielded ops a.tmps) = true)
    {base n k c m c2 N : Nat} {a1 a2 : Option Addr} {xs ys : List UInt8} {s x : Operand} (ho : o.op = .call { callee := .builtin .append, args := #[s, x], argTypes := #[32, 32] }) (hs : a.eval s = .slice a1 k c) (hx : a.eval x = .slice a2 m c2)
    (hv : OwnB base w a1 k c xs) (hy : IsB n w a2 m ys) (hnone : a2 = none → c2 = 0) (hlen : k + m ≤ 100000) (hbase : base ≤ w.heap.size) (hN : k + m = N)
    (h : ∀ a' c' w', OwnB base w' a' N c' (xs ++ ys) → Below base w w' → wpList Try.prog ops Q rest (a.put o.dst (.slice a' N c')) w') : wpList Try.prog ops Q (o :: rest) a w := by
  obtain ⟨a', c', w', hap, own, bel⟩ := run_app w base o.type a1 k c xs hv a2 m c2 ys hy hnone hlen hbase
  subst hN
  exact wpList_app hap s x hgd ho rfl hs hx (h _ _ _ own bel)
/-- Bytes are copied into a block. -/
theorem step_cpB {w : World} {ops : Array Oper} {o : Oper} {a : Act} {K : Act → World → Prop} {Q : Exit → Act → World → Prop} {E : Prop} (hgd : Region.wanted o (yielded ops a.tmps) = true)
    {n g off dLen dCap m c N : Nat} {V V2 : Array Value} {t : TypeId} {a2 : Option Addr} {ys : List UInt8} {s x : Operand} (ho : o.op = .call { callee := .builtin .copy, args := #[s, x], argTypes := #[32, 32] }) (hs : a.eval s = .slice (some ⟨g, off, none⟩) dLen dCap) (hx : a.eval x = .slice a2 m c)
    (hb : BK w g V t) (hy : IsB n w a2 m ys) (hpos : 0 < m) (hd : 0 < dLen) (hfit : off + Nat.min m dLen ≤ V.size) (hN : Nat.min m dLen = N) (hV : laidIn V off (ys.take dLen) = V2)
    (h : ∀ w', BK w' g V2 t → (∀ n, n ≤ g → Below n w w') → But g w.heap.size w w' → w'.heap.size = w.heap.size → K (a.put o.dst (goInt N)) w') : if Region.wanted o (yielded ops a.tmps) = true then Oper.wp Try.prog o a w K Q else E := by
  obtain ⟨w', hcp, K1, b1, but, z⟩ := run_cp w o.type g off dLen dCap V t hb a2 m c ys hy hpos hd hfit
  subst hN hV
  exact step_cp hcp s x hgd ho rfl hs hx (h _ K1 b1 but z)
theorem wpList_cpB {w : World} {ops : Array Oper} {rest : List Oper} {o : Oper} {a : Act} {Q : Exit → Act → World → Prop} (hgd : Region.wanted o (yielded ops a.tmps) = true)
    {n g off dLen dCap m c N : Nat} {V V2 : Array Value} {t : TypeId} {a2 : Option Addr} {ys : List UInt8} {s x : Operand} (ho : o.op = .call { callee := .builtin .copy, args := #[s, x], argTypes := #[32, 32] }) (hs : a.eval s = .slice (some ⟨g, off, none⟩) dLen dCap) (hx : a.eval x = .slice a2 m c)
    (hb : BK w g V t) (hy : IsB n w a2 m ys) (hpos : 0 < m) (hd : 0 < dLen) (hfit : off + Nat.min m dLen ≤ V.size) (hN : Nat.min m dLen = N) (hV : laidIn V off (ys.take dLen) = V2)
    (h : ∀ w', BK w' g V2 t → (∀ n, n ≤ g → Below n w w') → But g w.heap.size w w' → w'.heap.size = w.heap.size → wpList Try.prog ops Q rest (a.put o.dst (goInt N)) w') : wpList Try.prog ops Q (o :: rest) a w := by
  obtain ⟨w', hcp, K1, b1, but, z⟩ := run_cp w o.type g off dLen dCap V t hb a2 m c ys hy hpos hd hfit
  subst hN hV
  exact wpList_cp hcp s x hgd ho rfl hs hx (h _ K1 b1 but z)
end Go.Proofs.Ytpjlcmdidhdbcaa
