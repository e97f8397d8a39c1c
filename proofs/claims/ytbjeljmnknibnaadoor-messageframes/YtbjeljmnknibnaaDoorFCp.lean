/- Proved here: copying bytes into a block, and making slices of bytes. Conditions: as each theorem states them. -/
import Derived.Laws.CopyRow
import Derived.Laws.MakeOwn
import Derived.Test.YtbjeljmnknibnaaDoorFBut
namespace Go.Proofs.YtbjeljmnknibnaaDoor.F
set_option linter.unusedSimpArgs false
set_option linter.unusedVariables false
open Go.RowKit

/-- What a copy leaves of a block. -/
def laidIn (V : Array Value) (o : Nat) (xs : List UInt8) : Array Value := (V.toList.take o ++ vals xs ++ V.toList.drop (o + xs.length)).toArray
theorem laidIn_all (V : Array Value) (xs : List UInt8) (h : V.size = xs.length) : laidIn V 0 xs = (vals xs).toArray := by
  have : V.toList.drop (0 + xs.length) = [] := by simp; omega
  unfold laidIn
  rw [this]; simp
theorem run_cp (w : World) (ty : TypeId) (g o dLen dCap : Nat) (V : Array Value) (t : TypeId) (hb : BK w g V t) (a : Option Addr) (m c : Nat) (xs : List UInt8) {n : Nat} (hx : IsB n w a m xs) (hpos : 0 < m) (hd : 0 < dLen) (hfit : o + Nat.min m dLen ≤ V.size) :
    ∃ w', (Builtin.copy_ #[25, 25] ty #[.slice (some ⟨g, o, none⟩) dLen dCap, .slice a m c]).run Tryd.prog w = .ok (goInt (Nat.min m dLen)) w' ∧ BK w' g (laidIn V o (xs.take dLen)) t ∧ (∀ n, n ≤ g → Below n w w') ∧ But g w.heap.size w w' ∧ w'.heap.size = w.heap.size := by
  obtain ⟨rfl, h⟩ := hx
  rcases h with rfl | ⟨b, off, rfl, hbn, hc⟩
  · simp at hpos
  have hlen : (xs.take dLen).length = Nat.min xs.length dLen := by rw [List.length_take, Nat.min_comm]
  have e := run_copy_row (P := Tryd.prog) w 25 25 ty 5 g o dLen dCap ⟨b, off, none⟩ xs.length c V t (vals (xs.take dLen)) Tryd.underlying25 (by kernel_rfl) hb
    (by rw [vals_length, hlen])
    (fun j v hv => by
      obtain ⟨x, hx, rfl⟩ := vals_get hv
      rw [Addr.add_lit]
      exact hc j x (by rw [List.getElem?_take] at hx; split at hx <;> simp_all))
    (by rw [vals_length, hlen]; exact hfit)
    (by intro u hu; simp only [vals, List.mem_map] at hu; obtain ⟨x, _, rfl⟩ := hu; rfl)
  rw [vals_length, hlen] at e
  have hl2 : laidIn V o (xs.take dLen) = (V.toList.take o ++ vals (xs.take dLen) ++ V.toList.drop (o + Nat.min xs.length dLen)).toArray := by unfold laidIn; rw [hlen]
  refine ⟨_, e, ?_, fun n hn => ?_, ?_, by simp⟩
  · rw [hl2]
    exact setRow_heap w g V _ t (0, 0) hb
  · exact ⟨rfl, rfl, rfl, by simp, fun k hk => setRow_other w g k _ (by omega)⟩
  · exact ⟨rfl, rfl, rfl, by simp, fun k _ hk => setRow_other w g k _ hk⟩

/-- Nothing is copied of nothing. -/
theorem run_cp_none (w : World) (ty : TypeId) (d : Addr) (dLen dCap c : Nat) (a : Option Addr) : (Builtin.copy_ #[25, 25] ty #[.slice (some d) dLen dCap, .slice a 0 c]).run Tryd.prog w = .ok (goInt 0) w :=
  run_copy_none (P := Tryd.prog) w 25 25 ty 5 (some d) a dLen dCap 0 c Tryd.underlying25 (by kernel_rfl) (by simp)

theorem wpList_cp {P : Program} {w w' : World} {t : TypeId} {va vx v' : Value} {ty : TypeId} (hrun : (Builtin.copy_ #[t, t] ty #[va, vx]).run P w = .ok v' w')
    {ops : Array Oper} {rest : List Oper} {o : Oper} {a : Act} {Q : Exit → Act → World → Prop} (s x : Operand) (hgd : Region.wanted o (yielded ops a.tmps) = true)
    (ho : o.op = .call { callee := .builtin .copy, args := #[s, x], argTypes := #[t, t] }) (hty : o.type = ty) (hs : a.eval s = va) (hx : a.eval x = vx)
    (h : wpList P ops Q rest (a.put o.dst v') w') : wpList P ops Q (o :: rest) a w := by
  refine wpList_step fun K hK => ?_
  rw [if_pos hgd]
  subst hty
  unfold Oper.wp
  simp [execOp, ho, resolve, invoke, builtin, hs, hx, hrun, Result.andThen]
  exact hK _ _ h
/-- The same, as a step of a region that draws its order. -/
theorem step_cp {P : Program} {w w' : World} {t : TypeId} {va vx v' : Value} {ty : TypeId} (hrun : (Builtin.copy_ #[t, t] ty #[va, vx]).run P w = .ok v' w')
    {ops : Array Oper} {o : Oper} {a : Act} {K : Act → World → Prop} {Q : Exit → Act → World → Prop} {E : Prop} (s x : Operand) (hgd : Region.wanted o (yielded ops a.tmps) = true)
    (ho : o.op = .call { callee := .builtin .copy, args := #[s, x], argTypes := #[t, t] }) (hty : o.type = ty) (hs : a.eval s = va) (hx : a.eval x = vx)
    (h : K (a.put o.dst v') w') : if Region.wanted o (yielded ops a.tmps) = true then Oper.wp P o a w K Q else E := by
  rw [if_pos hgd]
  subst hty
  unfold Oper.wp
  simp [execOp, ho, resolve, invoke, builtin, hs, hx, hrun, Result.andThen]
  exact h

/-- make([]byte, l, c). -/
theorem run_mkc (w : World) (base l c : Nat) (L C : Int) (hL : L = (l : Int)) (hC : C = (c : Int)) (hlc : l ≤ c) (hc : c ≤ 100000) (hbase : base ≤ w.heap.size) :
    ∃ w', (Instr.makeSlice 25 (.int .i64 L) (.int .i64 C)).run Tryd.prog w = .ok (.slice (some ⟨w.heap.size, 0, none⟩) l c) w' ∧ OwnB base w' (some ⟨w.heap.size, 0, none⟩) l c (List.replicate l 0) ∧ Below base w w' ∧ w'.heap.size = w.heap.size + 1 := by
  subst hL hC
  obtain ⟨i0, hi, hz0, hz1, hz2⟩ := info_parts info5
  have hrun := run_make (P := Tryd.prog) w 25 5 i0 (.int .u8 0) Tryd.underlying25 hi hz0 .i64 .i64 l c (by omega) (by omega) (by rw [hz2]; omega) (by omega)
  rw [hz1] at hrun
  simp only [Int.toNat_natCast, Nat.mul_one] at hrun
  refine ⟨_, hrun, ⟨by simp, by simp [vals], .inr ⟨w.heap.size, c, _, rfl, hbase, World.alloc_heap_new w _, hlc, by unfold maxLen; omega, by simp [size_madeCells], ?_⟩⟩, (Below.refl base w).alloc hbase _, by simp⟩
  apply List.ext_getElem
  · simp [vals, size_madeCells]; omega
  · intro j hj1 hj2
    simp [vals, madeCells, Value.cells, Nat.mod_one]
end Go.Proofs.YtbjeljmnknibnaaDoor.F
