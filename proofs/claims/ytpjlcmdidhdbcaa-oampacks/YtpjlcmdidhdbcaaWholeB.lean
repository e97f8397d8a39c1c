/- Proved here: how cells are built of a header and a payload, and how payloads, and cells, are compared. Conditions: as each theorem states them. -/
import Derived.Test.YtpjlcmdidhdbcaaWhole
import Derived.Test.YtpjlcmdidhdbcaaLists
namespace Go.Proofs.Ytpjlcmdidhdbcaa
set_option linter.unusedSimpArgs false
set_option linter.unusedVariables false
open Go.RowKit

theorem list2 {α : Type} : ∀ {l : List α}, l.length = 2 → ∃ y0 y1, l = [y0, y1]
  | [y0, y1], _ => ⟨y0, y1, rfl⟩
/-! ### Building -/
theorem fn48 {ps : List UInt8} (h : ps.length = 48) : ∃ f : Nat → UInt8, ps = (List.range 48).map f := by
  refine ⟨fun i => ps[i]?.getD 0, ?_⟩
  apply List.ext_getElem
  · simp [h]
  · intro i h1 h2
    simp [List.getElem?_eq_getElem h1]
theorem zero24 (w : World) : (zeroValue 26).run Try.prog w = .ok (.agg (payV (zer 48))) w := (zero_of_info info24).1 w
theorem wpList_bld {P : Program} {w : World} {ops : Array Oper} {rest : List Oper} {o : Oper} {a : Act} {Q : Exit → Act → World → Prop} (hgd : Region.wanted o (yielded ops a.tmps) = true)
    {ty : TypeId} {parts : Array (Nat × Operand)} {vs : List (Nat × Value)} {v : Value} (ho : o.op = .build ty parts) (hps : parts.toList.map (fun x => (x.1, a.eval x.2)) = vs) (hrun : (Instr.build ty vs.toArray).run P w = .ok v w)
    (h : wpList P ops Q rest (a.put o.dst v) w) : wpList P ops Q (o :: rest) a w := by
  refine wpList_val (v := v) (w' := w) hgd ?_ h
  have e : parts.map (fun x => (x.1, a.eval x.2)) = vs.toArray := by
    rw [← hps]
    cases parts
    simp
  unfold execOp
  simp only [ho]
  rw [e]
  simp [hrun, Result.andThen]
theorem wpList_al {P : Program} {w : World} {ops : Array Oper} {rest : List Oper} {o : Oper} {a : Act} {Q : Exit → Act → World → Prop} (hgd : Region.wanted o (yielded ops a.tmps) = true)
    {ty : TypeId} {Z : Array Value} (ho : o.op = .alloc ty) (hz : ∀ w, (zeroValue ty).run P w = .ok (.agg Z) w)
    (h : wpList P ops Q rest (a.put o.dst (.pointer (some ⟨w.heap.size, 0, none⟩))) (w.alloc (.cells Z ty))) : wpList P ops Q (o :: rest) a w := by
  refine wpList_val (v := .pointer (some ⟨w.heap.size, 0, none⟩)) (w' := w.alloc (.cells Z ty)) hgd ?_ h
  unfold execOp
  simp [ho, Instr.alloc, hz, newVar, newRow, Result.andThen, Value.cells]
  try rfl
theorem payV_set (ps : List UInt8) (k : Nat) (x : UInt8) : (payV ps).setIfInBounds k (.int .u8 (x.toNat : Int)) = payV (ps.set k x) := by
  simp [payV, vals, List.map_set]

/-! ### Comparing -/
theorem part_pay (w : World) (ps : List UInt8) (i : Nat) (x : UInt8) (h : ps[i]? = some x) : (part 5 (payV ps) i).run Try.prog w = .ok (.int .u8 (x.toNat : Int)) w := by
  have e : ∀ w, (isAgg 5).run Try.prog w = .ok false w := fun _ => by kernel_rfl
  unfold part
  simp [Sem.run_bind, e, payV_get h]

theorem equal24 (w : World) (ps qs : List UInt8) (hp : ps.length = 48) (hq : qs.length = 48) (d : Nat) :
    (Op.equalIn (d + 2) 26 (.agg (payV ps)) (.agg (payV qs))).run Try.prog w = .ok (decide (ps = qs)) w := by
  have e5 : ∀ w, (sizeOf 5).run Try.prog w = .ok 1 w := fun _ => by kernel_rfl
  have i5 := fun (w : World) (a b : Int) => run_equalIn_int (P := Try.prog) w d 5 .u8 .u8 a b Try.underlying5
  unfold Op.equalIn
  simp only [Sem.run_bind, run_underlying Try.underlying26, Result.andThen_ok, e5]
  simp only [Std.Legacy.Range.forIn_eq_forIn_range', Std.Legacy.Range.size, Nat.mul_one]
  have key : ∀ n s, s + n = 48 → (Sem.run Try.prog (forIn (List.range' s n) ((none, ()) : Option Bool × Unit) fun i (_ : Option Bool × Unit) => do
      let x ← part 5 (payV ps) i
      let y ← part 5 (payV qs) i
      let e ← Op.equalIn (d + 1) 5 x y
      if (!e) = true then pure (ForInStep.done (some false, ())) else pure (ForInStep.yield (none, ()))) w) = .ok (if ps.drop s = qs.drop s then (none, ()) else (some false, ())) w := by
    intro n
    induction n with
    | zero =>
      intro s hs
      have e1 : ps.drop s = [] := by simp; omega
      have e2 : qs.drop s = [] := by simp; omega
      rw [e1, e2]
      simp
    | succ n ih =>
      intro s hs
      obtain ⟨x, hx⟩ : ∃ x, ps[s]? = some x := ⟨ps[s]'(by omega), by rw [List.getElem?_eq_getElem]⟩
      obtain ⟨y, hy⟩ : ∃ y, qs[s]? = some y := ⟨qs[s]'(by omega), by rw [List.getElem?_eq_getElem]⟩
      have d1 : ps.drop s = x :: ps.drop (s + 1) := by
        rw [List.drop_eq_getElem_cons (show s < ps.length by omega)]
        rw [List.getElem?_eq_getElem (show s < ps.length by omega)] at hx
        rw [Option.some.inj hx]
      have d2 : qs.drop s = y :: qs.drop (s + 1) := by
        rw [List.drop_eq_getElem_cons (show s < qs.length by omega)]
        rw [List.getElem?_eq_getElem (show s < qs.length by omega)] at hy
        rw [Option.some.inj hy]
      have hi := ih (s + 1) (by omega)
      simp only [List.range'_succ, List.forIn_cons, Sem.run_bind, part_pay w ps s x hx, part_pay w qs s y hy, Result.andThen_ok, i5]
      rw [d1, d2]
      by_cases h : x = y
      · subst h
        simp only [beq_self_eq_true, Bool.not_true, Bool.false_eq_true, if_false, Sem.run_pure, Result.andThen_ok, List.cons.injEq, true_and]
        exact hi
      · have hb : (((x.toNat : Int)) == (y.toNat : Int)) = false := by
          rw [beq_eq_false_iff_ne]
          intro e
          exact h (UInt8.toNat_inj.1 (by omega))
        simp [hb, h]
  have := key 48 0 rfl
  simp only [List.drop_zero] at this
  simp only [Nat.sub_zero, Nat.add_sub_cancel, Nat.div_one]
  rw [this]
  by_cases h : ps = qs
  · simp [h]
  · simp [h]

theorem eql24 (ps qs : List UInt8) (hp : ps.length = 48) (hq : qs.length = 48) (w : World) : (binOp .eql 26 (.agg (payV ps)) (.agg (payV qs))).run Try.prog w = .ok (.bool (decide (ps = qs))) w := by
  rw [run_eql_struct, equal24 w ps qs hp hq]; rfl
theorem neq24 (ps qs : List UInt8) (hp : ps.length = 48) (hq : qs.length = 48) (w : World) : (binOp .neq 26 (.agg (payV ps)) (.agg (payV qs))).run Try.prog w = .ok (.bool (!decide (ps = qs))) w := by
  rw [run_neq_struct, equal24 w ps qs hp hq]; rfl

theorem ext0 (g p v t c : Int) (ps : List UInt8) : (cellV g p v t c ps).extract 0 5 = #[.int .i64 g, .int .i64 p, .int .i64 v, .int .i64 t, .int .i64 c] := by
  simp [cellV]
theorem ext5 (g p v t c : Int) (ps : List UInt8) (hl : ps.length = 48) : (cellV g p v t c ps).extract 5 53 = payV ps := by
  simp [cellV, payV, List.extract_eq_take_drop, vals]
  exact List.take_of_length_le (by simp; omega)
theorem eqF {d : Nat} {xs ys : Array Value} {f : Field} {fs : List Field} {w : World} {x y : Value} {r : Bool} (hn : f.name ≠ "_") (hx : (part f.type xs f.offset).run Try.prog w = .ok x w) (hy : (part f.type ys f.offset).run Try.prog w = .ok y w)
    (he : (Op.equalIn d f.type x y).run Try.prog w = .ok r w) : (Op.eqFields d xs ys (f :: fs)).run Try.prog w = if r = true then (Op.eqFields d xs ys fs).run Try.prog w else .ok false w := by
  rw [Op.eqFields, if_pos hn]
  simp only [Sem.run_bind, hx, hy, he, Result.andThen_ok]
  cases r <;> simp
/-- Are two headers alike? -/
def hdrB (g p v t c g' p' v' t' c' : Int) : Bool := g == g' && (p == p' && (v == v' && (t == t' && c == c')))
theorem hdrB_self (g p v t c : Int) : hdrB g p v t c g p v t c = true := by simp [hdrB]
theorem hdrB_iff (g p v t c g' p' v' t' c' : Int) : hdrB g p v t c g' p' v' t' c' = true ↔ g = g' ∧ p = p' ∧ v = v' ∧ t = t' ∧ c = c' := by simp [hdrB]
end Go.Proofs.Ytpjlcmdidhdbcaa
