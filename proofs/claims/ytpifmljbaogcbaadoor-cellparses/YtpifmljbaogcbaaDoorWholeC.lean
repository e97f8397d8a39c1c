/- Proved here: laws of the walk for cells that are built. Conditions: as each theorem states them. -/
import Derived.Laws.ResultCell
import Derived.Laws.Cover3
import Derived.Test.YtpifmljbaogcbaaDoorCp
namespace Go.Proofs.YtpifmljbaogcbaaDoor
set_option linter.unusedSimpArgs false
set_option linter.unusedVariables false
open Go.RowKit

theorem wpList_bldz {w : World} {ops : Array Oper} {rest : List Oper} {o : Oper} {a : Act} {Q : Exit → Act → World → Prop} (hgd : Region.wanted o (yielded ops a.tmps) = true)
    (ho : o.op = .build 27 #[]) (h : wpList Tryd.prog ops Q rest (a.put o.dst (.agg (cellV 0 0 0 0 0 (zer 48)))) w) : wpList Tryd.prog ops Q (o :: rest) a w :=
  wpList_bld (vs := []) hgd ho rfl (run_build27z w) h
theorem wpList_bldh {w : World} {ops : Array Oper} {rest : List Oper} {o : Oper} {a : Act} {Q : Exit → Act → World → Prop} (hgd : Region.wanted o (yielded ops a.tmps) = true) {x : Operand} {g p v t c : Int}
    (ho : o.op = .build 27 #[(0, x)]) (hx : a.eval x = .agg #[.int .i64 g, .int .i64 p, .int .i64 v, .int .i64 t, .int .i64 c]) (h : wpList Tryd.prog ops Q rest (a.put o.dst (.agg (cellV g p v t c (zer 48)))) w) : wpList Tryd.prog ops Q (o :: rest) a w :=
  wpList_bld (vs := [(0, .agg #[.int .i64 g, .int .i64 p, .int .i64 v, .int .i64 t, .int .i64 c])]) hgd ho (by simp [hx]) (run_build27h w g p v t c) h
theorem wpList_bldf {w : World} {ops : Array Oper} {rest : List Oper} {o : Oper} {a : Act} {Q : Exit → Act → World → Prop} (hgd : Region.wanted o (yielded ops a.tmps) = true) {x y : Operand} {g p v t c : Int} {ps : List UInt8} (hl : ps.length = 48)
    (ho : o.op = .build 27 #[(0, x), (1, y)]) (hx : a.eval x = .agg #[.int .i64 g, .int .i64 p, .int .i64 v, .int .i64 t, .int .i64 c]) (hy : a.eval y = .agg (payV ps)) (h : wpList Tryd.prog ops Q rest (a.put o.dst (.agg (cellV g p v t c ps))) w) : wpList Tryd.prog ops Q (o :: rest) a w :=
  wpList_bld (vs := [(0, .agg #[.int .i64 g, .int .i64 p, .int .i64 v, .int .i64 t, .int .i64 c]), (1, .agg (payV ps))]) hgd ho (by simp [hx, hy]) (run_build27 w g p v t c ps hl) h
theorem yields_bldf {ops : Array Oper} {S : World → Prop} {o : Oper} {a : Act} (hw : Region.wanted o (yielded ops a.tmps) = true) {x y : Operand} {g p v t c : Int} {ps : List UInt8} (hl : ps.length = 48)
    (ho : o.op = .build 27 #[(0, x), (1, y)]) (hx : a.eval x = .agg #[.int .i64 g, .int .i64 p, .int .i64 v, .int .i64 t, .int .i64 c]) (hy : a.eval y = .agg (payV ps)) : YieldsIf Tryd.prog ops S o (.agg (cellV g p v t c ps)) a :=
  .inl ⟨hw, fun w _ => by unfold execOp; simp [ho, hx, hy, run_build27 w g p v t c ps hl, Result.andThen]⟩

theorem run_eql_slice_nil (t e : TypeId) (a : Option Addr) (l c : Nat) (h : Tryd.prog.underlying t = some (.slice e)) (w : World) : (binOp .eql t (.slice a l c) (.slice none 0 0)).run Tryd.prog w = .ok (.bool a.isNone) w := by
  simp only [binOp]
  simp [run_equal_slice_nil w t e a l c h]

/-! A header in a block. -/
theorem size23 : (Tryd.prog.info? 23).map (·.size) = some 5 := by kernel_rfl
theorem run_ld23 (w : World) (b : Nat) (g p v t c : Int) (ty : TypeId) (h : BK w b #[.int .i64 g, .int .i64 p, .int .i64 v, .int .i64 t, .int .i64 c] ty) :
    (Instr.loadAt 23 (.pointer (some ⟨b, 0, none⟩))).run Tryd.prog w = .ok (.agg #[.int .i64 g, .int .i64 p, .int .i64 v, .int .i64 t, .int .i64 c]) w := by
  simp only [Instr.loadAt, Instr.sureAddr, Sem.run_bind, Sem.run_pure, Result.andThen_ok]
  rw [run_loadVar_row w b ty 23 _ (0, 0) _ h Tryd.underlying23 rfl size23]
theorem run_ldX (w : World) (b k : Nat) (ty : TypeId) (kd : IntKind) (v : Value) (hu : Tryd.prog.underlying ty = some (.int kd)) (h : w.cell? ⟨b, k, none⟩ = some v) :
    (Instr.loadAt ty (.pointer (some ⟨b, k, none⟩))).run Tryd.prog w = .ok v w := by
  simp [Instr.loadAt, Instr.sureAddr, loadVar, isAgg, run_underlying hu, go_sem, h]

theorem results_cell_tmp_row {P : Program} {fn : Func} {p u : Tmp} {ty : TypeId} (h : fn.results = #[.cell p ty, .tmp u]) (tmps : Array Value) (w : World) (g : Nat) (t : TypeId) (cs : Array Value) (fr : Nat × Nat) (d : TypeDesc) (v : Value)
    (hp : tmps.getD p undef = .pointer (some ⟨g, 0, none⟩)) (hv : tmps.getD u undef = v) (hg : w.heap[g]? = some (.cells cs t fr))
    (hu : P.underlying ty = some d) (hd : (match d with | .struct _ | .array _ _ => true | _ => false) = true) (hi : (P.info? ty).map (·.size) = some cs.size) :
    (results fn tmps).run P w = .ok (.tuple #[.agg cs, v]) w := by
  rw [results_cell_tmp h, hp, hv]
  simp [asAddr, run_loadVar_row w g t ty cs fr d hg hu hd hi]
end Go.Proofs.YtpifmljbaogcbaaDoor
