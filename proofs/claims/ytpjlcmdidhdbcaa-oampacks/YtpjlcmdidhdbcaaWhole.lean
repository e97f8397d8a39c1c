/- Proved here: how whole arrays, and cells, lie in memory, are read, laid down, built and compared. Conditions: as each theorem states them. -/
import Derived.Deep.WholeRow
import Derived.Deep.MidRow
import Derived.Deep.RegionHeld
import Derived.Deep.RegionHeldLaw
import Derived.Laws.StructEq
import Derived.Test.YtpjlcmdidhdbcaaBut
import Derived.Test.YtpjlcmdidhdbcaaSame
namespace Go.Proofs.Ytpjlcmdidhdbcaa
set_option linter.unusedSimpArgs false
set_option linter.unusedVariables false
open Go.RowKit

/-- A cell's cells: its header's five numbers, and its payload. -/
def cellV (g p v t c : Int) (ps : List UInt8) : Array Value := (([.int .i64 g, .int .i64 p, .int .i64 v, .int .i64 t, .int .i64 c] : List Value) ++ vals ps).toArray
def payV (ps : List UInt8) : Array Value := (vals ps).toArray
/-- An array of zeros. -/
def zer (n : Nat) : List UInt8 := List.replicate n 0
theorem payV_size (ps : List UInt8) : (payV ps).size = ps.length := by simp [payV, vals]
theorem cellV_size (g p v t c : Int) (ps : List UInt8) : (cellV g p v t c ps).size = ps.length + 5 := by simp [cellV, vals]
theorem payV_get {ps : List UInt8} {k : Nat} {x : UInt8} (h : ps[k]? = some x) : (payV ps)[k]? = some (.int .u8 (x.toNat : Int)) := by simp [payV, vals, h]
theorem cellV_get {g p v t c : Int} {ps : List UInt8} {k : Nat} {x : UInt8} (h : ps[k]? = some x) : (cellV g p v t c ps)[5 + k]? = some (.int .u8 (x.toNat : Int)) := by
  rw [Nat.add_comm]; simp [cellV, vals, h]
theorem payV_one (ps : List UInt8) : (payV ps).all (·.oneCell') = true := by
  rw [Array.all_eq_true_iff_forall_mem]
  intro v hv
  simp only [payV, List.mem_toArray, vals, List.mem_map] at hv
  obtain ⟨x, _, rfl⟩ := hv
  rfl
theorem cellV_one (g p v t c : Int) (ps : List UInt8) : (cellV g p v t c ps).all (·.oneCell') = true := by
  rw [Array.all_eq_true_iff_forall_mem]
  intro u hv
  simp only [cellV, List.mem_toArray, List.mem_append, vals, List.mem_map] at hv
  rcases hv with hv | ⟨x, _, rfl⟩
  · simp only [List.mem_cons, List.not_mem_nil, or_false] at hv
    rcases hv with rfl | rfl | rfl | rfl | rfl <;> rfl
  · rfl

theorem info24 : (Try.prog.info? 26).map (fun i => (i.zero, i.size)) = some (some (.agg (payV (zer 48))), 48) := by kernel_rfl
theorem size24 : (Try.prog.info? 26).map (·.size) = some 48 := (zero_of_info info24).2
theorem BK.row {w : World} {b : Nat} {vs : Array Value} {t : TypeId} (h : BK w b vs t) : w.heap[b]? = some (.cells vs t (0, 0)) := h
theorem BK.pay {w : World} {b : Nat} {ps : List UInt8} {t : TypeId} (h : BK w b (payV ps) t) : IsB w.heap.size w (some ⟨b, 0, none⟩) ps.length ps := BK.isB h
theorem BK.payCell {w : World} {b : Nat} {ps : List UInt8} {t : TypeId} (h : BK w b (payV ps) t) {k : Nat} {x : UInt8} (hx : ps[k]? = some x) : w.cell? ⟨b, k, none⟩ = some (.int .u8 (x.toNat : Int)) := h.cell k _ (payV_get hx)
theorem BK.cellPay {w : World} {b : Nat} {g p v t c : Int} {ps : List UInt8} {ty : TypeId} (h : BK w b (cellV g p v t c ps) ty) : IsB w.heap.size w (some ⟨b, 5, none⟩) ps.length ps :=
  ⟨rfl, .inr ⟨b, 5, rfl, h.lt, fun j x hx => h.cell _ _ (cellV_get hx)⟩⟩
theorem BK.hdr {w : World} {b : Nat} {g p v t c : Int} {ps : List UInt8} {ty : TypeId} (h : BK w b (cellV g p v t c ps) ty) :
    w.cell? ⟨b, 0, none⟩ = some (.int .i64 g) ∧ w.cell? ⟨b, 1, none⟩ = some (.int .i64 p) ∧ w.cell? ⟨b, 2, none⟩ = some (.int .i64 v) ∧ w.cell? ⟨b, 3, none⟩ = some (.int .i64 t) ∧ w.cell? ⟨b, 4, none⟩ = some (.int .i64 c) :=
  ⟨h.cell 0 _ rfl, h.cell 1 _ rfl, h.cell 2 _ rfl, h.cell 3 _ rfl, h.cell 4 _ rfl⟩
theorem BK.payRange {w : World} {b : Nat} {ps : List UInt8} {t : TypeId} (h : BK w b (payV ps) t) : w.rangeAt b 0 (vals ps) := fun j v hv => by
  obtain ⟨x, hx, rfl⟩ := vals_get hv
  rw [Nat.zero_add]; exact h.payCell hx
theorem BK.cellRange {w : World} {b : Nat} {g p v t c : Int} {ps : List UInt8} {ty : TypeId} (h : BK w b (cellV g p v t c ps) ty) : w.rangeAt b 5 (vals ps) := fun j v hv => by
  obtain ⟨x, hx, rfl⟩ := vals_get hv
  exact h.cell _ _ (cellV_get hx)

theorem range_below {n b o : Nat} {cs : List Value} {w w' : World} (h : w.rangeAt b o cs) (hb : Below n w w') (hn : b < n) : w'.rangeAt b o cs := fun j v hv =>
  (hb.cell (p := ⟨b, o + j, none⟩) hn).trans (h j v hv)
theorem BK.ofRange {w : World} {b : Nat} {ps : List UInt8} {t : TypeId} (h : BK w b (payV ps) t) : w.drew.rangeAt b 0 (vals ps) := (World.rangeAt_drew _ _ _ _).2 h.payRange

/-! ### Reads -/
theorem run_ld24 (w : World) (b : Nat) (ps : List UInt8) (t : TypeId) (h : BK w b (payV ps) t) (hl : ps.length = 48) :
    (Instr.loadAt 26 (.pointer (some ⟨b, 0, none⟩))).run Try.prog w = .ok (.agg (payV ps)) w := by
  simp only [Instr.loadAt, Instr.sureAddr, Sem.run_bind, Sem.run_pure, Result.andThen_ok]
  rw [run_loadVar_row w b t 26 (payV ps) (0, 0) _ h Try.underlying26 rfl (by rw [size24, payV_size, hl])]
theorem run_ldP (w : World) (b : Nat) (g p v t c : Int) (ps : List UInt8) (ty : TypeId) (h : BK w b (cellV g p v t c ps) ty) (hl : ps.length = 48) :
    (Instr.loadAt 26 (.pointer (some ⟨b, 5, none⟩))).run Try.prog w = .ok (.agg (payV ps)) w :=
  run_loadAt_mid w b 5 26 (vals ps) _ h.cellRange Try.underlying26 rfl (by rw [size24, vals_length, hl])

/-! ### Laws for the walk: an operation whose run is known -/
theorem wpList_val {P : Program} {w w' : World} {v : Value} {ops : Array Oper} {rest : List Oper} {o : Oper} {a : Act} {Q : Exit → Act → World → Prop} (hgd : Region.wanted o (yielded ops a.tmps) = true)
    (hrun : (execOp a.eval o).run P w = .ok (.value v) w') (h : wpList P ops Q rest (a.put o.dst v) w') : wpList P ops Q (o :: rest) a w := by
  refine wpList_step fun K hK => ?_
  rw [if_pos hgd]
  unfold Oper.wp
  rw [hrun]
  exact hK _ _ h
theorem wpList_ld {P : Program} {w : World} {ops : Array Oper} {rest : List Oper} {o : Oper} {a : Act} {Q : Exit → Act → World → Prop} (hgd : Region.wanted o (yielded ops a.tmps) = true)
    {ty : TypeId} {x : Operand} {b k : Nat} {v : Value} (ho : o.op = .load ty x) (hx : a.eval x = .pointer (some ⟨b, k, none⟩)) (hrun : (Instr.loadAt ty (.pointer (some ⟨b, k, none⟩))).run P w = .ok v w)
    (h : wpList P ops Q rest (a.put o.dst v) w) : wpList P ops Q (o :: rest) a w := by
  refine wpList_val (v := v) (w' := w) hgd ?_ h
  unfold execOp
  simp [ho, hx, hrun, Result.andThen]
/-- A load whose run is known, in a region that draws its order. -/
theorem yields_ld {P : Program} {ops : Array Oper} {S : World → Prop} {o : Oper} {a : Act} {ty : TypeId} {x : Operand} {b k : Nat} {v : Value} (ho : o.op = .load ty x) (hw : Region.wanted o (yielded ops a.tmps) = true)
    (hx : a.eval x = .pointer (some ⟨b, k, none⟩)) (hS : ∀ w, S w → (Instr.loadAt ty (.pointer (some ⟨b, k, none⟩))).run P w = .ok v w) : YieldsIf P ops S o v a :=
  .inl ⟨hw, fun w h => by unfold execOp; simp [ho, hx, hS w h, Result.andThen]⟩
/-- A variable is laid down, and its value stored into it. -/
theorem wpList_def {P : Program} {w : World} {ops : Array Oper} {rest : List Oper} {o1 o2 : Oper} {a : Act} {Q : Exit → Act → World → Prop} (hg1 : Region.wanted o1 (yielded ops a.tmps) = true)
    {ty : TypeId} {x y : Operand} {Z C : Array Value} (ho1 : o1.op = .alloc ty) (ho2 : o2.op = .store ty x y)
    (hx : (a.put o1.dst (.pointer (some ⟨w.heap.size, 0, none⟩))).eval x = .pointer (some ⟨w.heap.size, 0, none⟩)) (hy : (a.put o1.dst (.pointer (some ⟨w.heap.size, 0, none⟩))).eval y = .agg C)
    (hz : ∀ w, (zeroValue ty).run P w = .ok (.agg Z) w) (hi : (P.info? ty).map (·.size) = some C.size) (hZ : Z.size = C.size) (h1 : C.all (·.oneCell') = true)
    (hg2 : Region.wanted o2 (yielded ops (a.put o1.dst (.pointer (some ⟨w.heap.size, 0, none⟩))).tmps) = true)
    (h : wpList P ops Q rest ((a.put o1.dst (.pointer (some ⟨w.heap.size, 0, none⟩))).put o2.dst undef) (w.alloc (.cells C ty))) : wpList P ops Q (o1 :: o2 :: rest) a w := by
  refine wpList_val (v := .pointer (some ⟨w.heap.size, 0, none⟩)) (w' := w.alloc (.cells Z ty)) hg1 ?_ ?_
  · unfold execOp
    simp [ho1, Instr.alloc, hz, newVar, newRow, Result.andThen, Value.cells]
    try rfl
  · refine wpList_step fun K hK => ?_
    rw [if_pos hg2]
    unfold Oper.wp execOp
    simp only [ho2, hx, hy]
    have e := run_storeAt_new (P := P) w ty Z C hi hZ h1
    simp only [Sem.run_bind, e, Result.andThen_ok, Sem.run_pure]
    exact hK _ _ h
/-- A value is stored over a block. -/
theorem wpList_st {P : Program} {w : World} {ops : Array Oper} {rest : List Oper} {o : Oper} {a : Act} {Q : Exit → Act → World → Prop} (hgd : Region.wanted o (yielded ops a.tmps) = true)
    {ty : TypeId} {x y : Operand} {b : Nat} {V C : Array Value} (ho : o.op = .store ty x y) (hx : a.eval x = .pointer (some ⟨b, 0, none⟩)) (hy : a.eval y = .agg C) (hb : BK w b V ty)
    (hi : (P.info? ty).map (·.size) = some C.size) (hV : V.size = C.size) (h1 : C.all (·.oneCell') = true)
    (h : ∀ w', BK w' b C ty → (∀ n, n ≤ b → Below n w w') → But b w.heap.size w w' → w'.heap.size = w.heap.size → wpList P ops Q rest (a.put o.dst undef) w') : wpList P ops Q (o :: rest) a w := by
  refine wpList_step fun K hK => ?_
  rw [if_pos hgd]
  unfold Oper.wp execOp
  simp only [ho, hx, hy]
  have e := run_storeVar_row (P := P) w b ty ty V C hb hi hV h1
  simp only [Instr.storeAt, Instr.sureAddr, Sem.run_bind, Sem.run_pure, Result.andThen_ok, e]
  refine hK _ _ (h _ ?_ (fun n hn => ?_) ?_ (by simp))
  · exact setRow_heap w b V C ty (0, 0) hb
  · exact ⟨rfl, rfl, rfl, by simp, fun k hk => setRow_other w b k C (by omega)⟩
  · exact ⟨rfl, rfl, rfl, by simp, fun k _ hk => setRow_other w b k C hk⟩
end Go.Proofs.Ytpjlcmdidhdbcaa
