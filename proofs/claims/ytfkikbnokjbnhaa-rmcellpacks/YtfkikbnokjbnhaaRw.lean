/- Proved here: how a cell of rates lies in memory, is read, laid down and compared. Conditions: as each theorem states them. -/
import Derived.Laws.ResultCell
import Derived.Laws.Cover3
import Derived.Test.YtfkikbnokjbnhaaCp
import Derived.Test.YtfkikbnokjbnhaaRp
import Derived.Test.YtfkikbnokjbnhaaFn
namespace Go.Proofs.Ytfkikbnokjbnhaa
set_option linter.unusedSimpArgs false
set_option linter.unusedVariables false
open Go.RowKit

def rmV (r : Rm) : Array Value := #[.bool r.bk, .bool r.nr, .bool r.ci, .bool r.ni, .bool r.ra, .int .u16 r.er, .int .u16 r.cc, .int .u16 r.mc, .int .u32 r.ql, .int .u32 r.sn]
theorem rmV_one (r : Rm) : (rmV r).all (·.oneCell') = true := by simp [rmV, Value.oneCell']
theorem rmV_size (r : Rm) : (rmV r).size = 10 := rfl
theorem infoA : (Try.prog.info? 31).map (fun i => (i.zero, i.size)) = some (some (.agg (rmV rm0)), 10) := by kernel_rfl
theorem infoB : (Try.prog.info? 25).map (fun i => (i.zero, i.size)) = some (some (.agg (rmV rm0)), 10) := by kernel_rfl
theorem zeroA (w : World) : (zeroValue 31).run Try.prog w = .ok (.agg (rmV rm0)) w := (zero_of_info infoA).1 w
theorem zeroB (w : World) : (zeroValue 25).run Try.prog w = .ok (.agg (rmV rm0)) w := (zero_of_info infoB).1 w
theorem sizeA : (Try.prog.info? 31).map (·.size) = some 10 := (zero_of_info infoA).2
theorem sizeB : (Try.prog.info? 25).map (·.size) = some 10 := (zero_of_info infoB).2
theorem run_bzA (w : World) : (Instr.build 31 #[]).run Try.prog w = .ok (.agg (rmV rm0)) w := by kernel_rfl
theorem run_bzB (w : World) : (Instr.build 25 #[]).run Try.prog w = .ok (.agg (rmV rm0)) w := by kernel_rfl
theorem run_bz24 (w : World) : (Instr.build 26 #[]).run Try.prog w = .ok (.agg (payV (zer 48))) w := by kernel_rfl
theorem run_ldA (w : World) (b : Nat) (r : Rm) (t : TypeId) (h : BK w b (rmV r) t) :
    (Instr.loadAt 31 (.pointer (some ⟨b, 0, none⟩))).run Try.prog w = .ok (.agg (rmV r)) w := by
  simp only [Instr.loadAt, Instr.sureAddr, Sem.run_bind, Sem.run_pure, Result.andThen_ok]
  rw [run_loadVar_row w b t 31 (rmV r) (0, 0) _ h Try.underlying31 rfl sizeA]
theorem run_ldB (w : World) (b : Nat) (r : Rm) (t : TypeId) (h : BK w b (rmV r) t) :
    (Instr.loadAt 25 (.pointer (some ⟨b, 0, none⟩))).run Try.prog w = .ok (.agg (rmV r)) w := by
  simp only [Instr.loadAt, Instr.sureAddr, Sem.run_bind, Sem.run_pure, Result.andThen_ok]
  rw [run_loadVar_row w b t 25 (rmV r) (0, 0) _ h Try.underlying25 rfl sizeB]
theorem BK.rm {w : World} {b : Nat} {r : Rm} {t : TypeId} (h : BK w b (rmV r) t) :
    w.cell? ⟨b, 0, none⟩ = some (.bool r.bk) ∧ w.cell? ⟨b, 1, none⟩ = some (.bool r.nr) ∧ w.cell? ⟨b, 2, none⟩ = some (.bool r.ci) ∧ w.cell? ⟨b, 3, none⟩ = some (.bool r.ni) ∧ w.cell? ⟨b, 4, none⟩ = some (.bool r.ra) ∧
    w.cell? ⟨b, 5, none⟩ = some (.int .u16 r.er) ∧ w.cell? ⟨b, 6, none⟩ = some (.int .u16 r.cc) ∧ w.cell? ⟨b, 7, none⟩ = some (.int .u16 r.mc) ∧ w.cell? ⟨b, 8, none⟩ = some (.int .u32 r.ql) ∧ w.cell? ⟨b, 9, none⟩ = some (.int .u32 r.sn) :=
  ⟨h.cell 0 _ rfl, h.cell 1 _ rfl, h.cell 2 _ rfl, h.cell 3 _ rfl, h.cell 4 _ rfl, h.cell 5 _ rfl, h.cell 6 _ rfl, h.cell 7 _ rfl, h.cell 8 _ rfl, h.cell 9 _ rfl⟩

/-! ### Comparing -/
theorem pt1 (ty : TypeId) (h : ∀ w, (isAgg ty).run Try.prog w = .ok false w) (w : World) (k : Nat) (vs : Array Value) (u : Value) (hu : vs[k]? = some u) : (part ty vs k).run Try.prog w = .ok u w := by
  unfold part
  simp [Sem.run_bind, h, hu]
theorem list10 {α : Type} : ∀ {l : List α}, l.length = 10 → ∃ y0 y1 y2 y3 y4 y5 y6 y7 y8 y9, l = [y0, y1, y2, y3, y4, y5, y6, y7, y8, y9]
  | [y0, y1, y2, y3, y4, y5, y6, y7, y8, y9], _ => ⟨y0, y1, y2, y3, y4, y5, y6, y7, y8, y9, rfl⟩
theorem nat_beq (a b : Nat) : ((a : Int) == (b : Int)) = (a == b) := by
  rw [Bool.eq_iff_iff, beq_iff_eq, beq_iff_eq]; omega
theorem eqR (w : World) (r s : Rm) (d : Nat) (t : TypeId) (hf : (Try.prog.fieldsOf t).toList.map (fun f => (f.name, f.type, f.offset)) = [("Back", 4, 0), ("Near", 4, 1), ("Ci", 4, 2), ("Ni", 4, 3), ("Ra", 4, 4), ("Er", 22, 5), ("Ccr", 22, 6), ("Mcr", 22, 7), ("Ql", 23, 8), ("Sn", 23, 9)])
    (h1 : Try.prog.underlying t = some (.struct (Try.prog.fieldsOf t))) (h2 : Try.prog.stoodInHeld t = false) :
    (Op.equalIn (d + 2) t (.agg (rmV r)) (.agg (rmV s))).run Try.prog w = .ok (eqB r s) w := by
  rw [run_equalIn_struct w (d + 1) t _ _ h1 h2]
  have i4 := fun (a b : Bool) => run_equalIn_bool (P := Try.prog) w d 4 a b Try.underlying4
  have i16 := fun (a b : Nat) => (run_equalIn_int (P := Try.prog) w d 22 .u16 .u16 a b Try.underlying22).trans (by rw [nat_beq])
  have i32 := fun (a b : Nat) => (run_equalIn_int (P := Try.prog) w d 23 .u32 .u32 a b Try.underlying23).trans (by rw [nat_beq])
  have p4 := pt1 4 (fun _ => by kernel_rfl) w
  have p16 := pt1 22 (fun _ => by kernel_rfl) w
  have p32 := pt1 23 (fun _ => by kernel_rfl) w
  generalize (Try.prog.fieldsOf t).toList = F at hf ⊢
  obtain ⟨f0, f1, f2, f3, f4, f5, f6, f7, f8, f9, rfl⟩ := list10 (l := F) (by simpa using congrArg List.length hf)
  simp only [List.map_cons, List.map_nil, List.cons.injEq, Prod.mk.injEq, and_true] at hf
  obtain ⟨⟨n0, t0, o0⟩, ⟨n1, t1, o1⟩, ⟨n2, t2, o2⟩, ⟨n3, t3, o3⟩, ⟨n4, t4, o4⟩, ⟨n5, t5, o5⟩, ⟨n6, t6, o6⟩, ⟨n7, t7, o7⟩, ⟨n8, t8, o8⟩, n9, t9, o9⟩ := hf
  rw [eqF (x := .bool r.bk) (y := .bool s.bk) (r := r.bk == s.bk) (by rw [n0]; decide) (by rw [t0, o0]; exact p4 _ _ _ rfl) (by rw [t0, o0]; exact p4 _ _ _ rfl) (by rw [t0]; exact i4 _ _)]
  rw [eqF (x := .bool r.nr) (y := .bool s.nr) (r := r.nr == s.nr) (by rw [n1]; decide) (by rw [t1, o1]; exact p4 _ _ _ rfl) (by rw [t1, o1]; exact p4 _ _ _ rfl) (by rw [t1]; exact i4 _ _)]
  rw [eqF (x := .bool r.ci) (y := .bool s.ci) (r := r.ci == s.ci) (by rw [n2]; decide) (by rw [t2, o2]; exact p4 _ _ _ rfl) (by rw [t2, o2]; exact p4 _ _ _ rfl) (by rw [t2]; exact i4 _ _)]
  rw [eqF (x := .bool r.ni) (y := .bool s.ni) (r := r.ni == s.ni) (by rw [n3]; decide) (by rw [t3, o3]; exact p4 _ _ _ rfl) (by rw [t3, o3]; exact p4 _ _ _ rfl) (by rw [t3]; exact i4 _ _)]
  rw [eqF (x := .bool r.ra) (y := .bool s.ra) (r := r.ra == s.ra) (by rw [n4]; decide) (by rw [t4, o4]; exact p4 _ _ _ rfl) (by rw [t4, o4]; exact p4 _ _ _ rfl) (by rw [t4]; exact i4 _ _)]
  rw [eqF (x := .int .u16 (r.er : Nat)) (y := .int .u16 (s.er : Nat)) (r := r.er == s.er) (by rw [n5]; decide) (by rw [t5, o5]; exact p16 _ _ _ rfl) (by rw [t5, o5]; exact p16 _ _ _ rfl) (by rw [t5]; exact i16 _ _)]
  rw [eqF (x := .int .u16 (r.cc : Nat)) (y := .int .u16 (s.cc : Nat)) (r := r.cc == s.cc) (by rw [n6]; decide) (by rw [t6, o6]; exact p16 _ _ _ rfl) (by rw [t6, o6]; exact p16 _ _ _ rfl) (by rw [t6]; exact i16 _ _)]
  rw [eqF (x := .int .u16 (r.mc : Nat)) (y := .int .u16 (s.mc : Nat)) (r := r.mc == s.mc) (by rw [n7]; decide) (by rw [t7, o7]; exact p16 _ _ _ rfl) (by rw [t7, o7]; exact p16 _ _ _ rfl) (by rw [t7]; exact i16 _ _)]
  rw [eqF (x := .int .u32 (r.ql : Nat)) (y := .int .u32 (s.ql : Nat)) (r := r.ql == s.ql) (by rw [n8]; decide) (by rw [t8, o8]; exact p32 _ _ _ rfl) (by rw [t8, o8]; exact p32 _ _ _ rfl) (by rw [t8]; exact i32 _ _)]
  rw [eqF (x := .int .u32 (r.sn : Nat)) (y := .int .u32 (s.sn : Nat)) (r := r.sn == s.sn) (by rw [n9]; decide) (by rw [t9, o9]; exact p32 _ _ _ rfl) (by rw [t9, o9]; exact p32 _ _ _ rfl) (by rw [t9]; exact i32 _ _)]
  unfold eqB
  cases r.bk == s.bk
  · rfl
  cases r.nr == s.nr
  · rfl
  cases r.ci == s.ci
  · rfl
  cases r.ni == s.ni
  · rfl
  cases r.ra == s.ra
  · rfl
  cases r.er == s.er
  · rfl
  cases r.cc == s.cc
  · rfl
  cases r.mc == s.mc
  · rfl
  cases r.ql == s.ql
  · rfl
  cases r.sn == s.sn <;> rfl
theorem eqlA (r s : Rm) (w : World) : (binOp .eql 31 (.agg (rmV r)) (.agg (rmV s))).run Try.prog w = .ok (.bool (eqB r s)) w := by
  rw [run_eql_struct, eqR w r s _ 31 (by kernel_rfl) (by kernel_rfl) (by kernel_rfl)]; rfl
theorem neqA (r s : Rm) (w : World) : (binOp .neq 31 (.agg (rmV r)) (.agg (rmV s))).run Try.prog w = .ok (.bool (!eqB r s)) w := by
  rw [run_neq_struct, eqR w r s _ 31 (by kernel_rfl) (by kernel_rfl) (by kernel_rfl)]; rfl
theorem eqlB (r s : Rm) (w : World) : (binOp .eql 25 (.agg (rmV r)) (.agg (rmV s))).run Try.prog w = .ok (.bool (eqB r s)) w := by
  rw [run_eql_struct, eqR w r s _ 25 (by kernel_rfl) (by kernel_rfl) (by kernel_rfl)]; rfl
theorem neqB (r s : Rm) (w : World) : (binOp .neq 25 (.agg (rmV r)) (.agg (rmV s))).run Try.prog w = .ok (.bool (!eqB r s)) w := by
  rw [run_neq_struct, eqR w r s _ 25 (by kernel_rfl) (by kernel_rfl) (by kernel_rfl)]; rfl
end Go.Proofs.Ytfkikbnokjbnhaa
