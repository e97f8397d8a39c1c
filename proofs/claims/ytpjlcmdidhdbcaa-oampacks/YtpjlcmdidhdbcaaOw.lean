/- Proved here: how a maintenance cell, and a place of sixteen bytes, lie in memory, are read, laid down, stored into and compared. Conditions: as each theorem states them. -/
import Derived.Laws.ResultCell
import Derived.Laws.Cover3
import Derived.Test.YtpjlcmdidhdbcaaCp
import Derived.Test.YtpjlcmdidhdbcaaOm
namespace Go.Proofs.Ytpjlcmdidhdbcaa
set_option linter.unusedSimpArgs false
set_option linter.unusedVariables false
open Go.RowKit

/-- The walk stops here. -/
structure Stop (p : Prop) : Prop where
  go : p
theorem stop_here {p : Prop} (h : Stop p) : p := h.go

/-! ### Stores into the middle of a block -/
/-- What a row of cells becomes behind a store. -/
def setN (V : Array Value) : Nat → List Value → Array Value
  | _, [] => V
  | o, v :: r => setN (V.setIfInBounds o v) (o + 1) r
theorem setN_list : ∀ (vs old pre post : List Value), old.length = vs.length → setN (pre ++ old ++ post).toArray pre.length vs = (pre ++ vs ++ post).toArray
  | [], [], pre, post, _ => by simp [setN]
  | v :: r, u :: old, pre, post, h => by
    rw [setN]
    have e : ((pre ++ (u :: old) ++ post).toArray).setIfInBounds pre.length v = ((pre ++ [v]) ++ old ++ post).toArray := by
      simp
    rw [e, show pre.length + 1 = (pre ++ [v]).length by simp, setN_list r old (pre ++ [v]) post (by simpa using h)]
    simp
theorem BK.setCells {b : Nat} {t : TypeId} : ∀ (vs : List Value) (o : Nat) {w : World} {V : Array Value}, BK w b V t → BK (w.setCells b o vs) b (setN V o vs) t
  | [], _, _, _, h => h
  | v :: r, o, _, _, h => BK.setCells r (o + 1) (BK.set h o v)
theorem BK.setCellsOther {b g : Nat} {t : TypeId} (hne : b ≠ g) : ∀ (vs : List Value) (o : Nat) {w : World} {V : Array Value}, BK w b V t → BK (w.setCells g o vs) b V t
  | [], _, _, _, h => h
  | v :: r, o, _, _, h => BK.setCellsOther hne r (o + 1) (BK.setOther (p := ⟨g, o, none⟩) h hne v)
theorem below_setC {n g : Nat} {w0 : World} (hn : n ≤ g) : ∀ (vs : List Value) (o : Nat) {w : World}, Below n w0 w → Below n w0 (w.setCells g o vs)
  | [], _, _, h => h
  | v :: r, o, _, h => below_setC hn r (o + 1) (h.setCell (p := ⟨g, o, none⟩) hn v)
theorem size_setC (g : Nat) : ∀ (vs : List Value) (o : Nat) (w : World), (w.setCells g o vs).heap.size = w.heap.size
  | [], _, _ => rfl
  | v :: r, o, w => (size_setC g r (o + 1) (w.setCell ⟨g, o, none⟩ v)).trans (by simp)
theorem BK.there {w : World} {b : Nat} {V : Array Value} {t : TypeId} (h : BK w b V t) (o n : Nat) (hn : o + n ≤ V.size) : w.there b o n := fun j hj => by
  refine ⟨?_, h.frozen _⟩
  rw [h.cell (o + j) (V[o + j]'(by omega)) (Array.getElem?_eq_getElem (by omega))]
  rfl
/-- A value is stored into the middle of a block. -/
theorem wpList_stm {P : Program} {w : World} {ops : Array Oper} {rest : List Oper} {o : Oper} {a : Act} {Q : Exit → Act → World → Prop} (hgd : Region.wanted o (yielded ops a.tmps) = true)
    {ty t : TypeId} {x y : Operand} {b k : Nat} {V C : Array Value} (ho : o.op = .store ty x y) (hx : a.eval x = .pointer (some ⟨b, k, none⟩)) (hy : a.eval y = .agg C) (hb : BK w b V t)
    (hfit : k + C.size ≤ V.size) (hi : (P.info? ty).map (·.size) = some C.size) (h1 : C.all (·.oneCell') = true)
    (h : ∀ w', w.setCells b k C.toList = w' → wpList P ops Q rest (a.put o.dst undef) w') : wpList P ops Q (o :: rest) a w := by
  refine wpList_step fun K hK => ?_
  rw [if_pos hgd]
  unfold Oper.wp execOp
  simp only [ho, hx, hy, Instr.storeAt, Instr.sureAddr, Sem.run_bind, Sem.run_pure, Result.andThen_ok, run_storeVar_mid w b k ty C (hb.there k C.size hfit) hi h1]
  exact hK _ _ (h _ rfl)
/-- The same, as a step of a region that draws its order. -/
theorem step_stm {P : Program} {w : World} {ops : Array Oper} {o : Oper} {a : Act} {K : Act → World → Prop} {Q : Exit → Act → World → Prop} {E : Prop} (hgd : Region.wanted o (yielded ops a.tmps) = true)
    {ty t : TypeId} {x y : Operand} {b k : Nat} {V C : Array Value} (ho : o.op = .store ty x y) (hx : a.eval x = .pointer (some ⟨b, k, none⟩)) (hy : a.eval y = .agg C) (hb : BK w b V t)
    (hfit : k + C.size ≤ V.size) (hi : (P.info? ty).map (·.size) = some C.size) (h1 : C.all (·.oneCell') = true)
    (h : K (a.put o.dst undef) (w.setCells b k C.toList)) : if Region.wanted o (yielded ops a.tmps) = true then Oper.wp P o a w K Q else E := by
  rw [if_pos hgd]
  unfold Oper.wp execOp
  simp only [ho, hx, hy, Instr.storeAt, Instr.sureAddr, Sem.run_bind, Sem.run_pure, Result.andThen_ok, run_storeVar_mid w b k ty C (hb.there k C.size hfit) hi h1]
  exact h

/-! ### Places -/
theorem info16 : (Try.prog.info? 23).map (fun i => (i.zero, i.size)) = some (some (.agg (payV z16)), 16) := by kernel_rfl
theorem size16 : (Try.prog.info? 23).map (·.size) = some 16 := (zero_of_info info16).2
theorem zero16 (w : World) : (zeroValue 23).run Try.prog w = .ok (.agg (payV z16)) w := (zero_of_info info16).1 w
theorem run_bz16 (w : World) : (Instr.build 23 #[]).run Try.prog w = .ok (.agg (payV z16)) w := by kernel_rfl
theorem run_bz24 (w : World) : (Instr.build 26 #[]).run Try.prog w = .ok (.agg (payV (zer 48))) w := by kernel_rfl
theorem run_ld16 (w : World) (b : Nat) (ps : List UInt8) (t : TypeId) (h : BK w b (payV ps) t) (hl : ps.length = 16) :
    (Instr.loadAt 23 (.pointer (some ⟨b, 0, none⟩))).run Try.prog w = .ok (.agg (payV ps)) w := by
  simp only [Instr.loadAt, Instr.sureAddr, Sem.run_bind, Sem.run_pure, Result.andThen_ok]
  rw [run_loadVar_row w b t 23 (payV ps) (0, 0) _ h Try.underlying23 rfl (by rw [size16, payV_size, hl])]
theorem equal16 (w : World) (ps qs : List UInt8) (hp : ps.length = 16) (hq : qs.length = 16) (d : Nat) :
    (Op.equalIn (d + 2) 23 (.agg (payV ps)) (.agg (payV qs))).run Try.prog w = .ok (decide (ps = qs)) w := by
  have e5 : ∀ w, (sizeOf 5).run Try.prog w = .ok 1 w := fun _ => by kernel_rfl
  have i5 := fun (w : World) (a b : Int) => run_equalIn_int (P := Try.prog) w d 5 .u8 .u8 a b Try.underlying5
  unfold Op.equalIn
  simp only [Sem.run_bind, run_underlying Try.underlying23, Result.andThen_ok, e5]
  simp only [Std.Legacy.Range.forIn_eq_forIn_range', Std.Legacy.Range.size, Nat.mul_one]
  have key : ∀ n s, s + n = 16 → (Sem.run Try.prog (forIn (List.range' s n) ((none, ()) : Option Bool × Unit) fun i (_ : Option Bool × Unit) => do
      let x ← part 5 (payV ps) i
      let y ← part 5 (payV qs) i
      let e ← Op.equalIn (d + 1) 5 x y
      if (!e) = true then pure (ForInStep.done (some false, ())) else pure (ForInStep.yield (none, ()))) w) = .ok (if ps.drop s = qs.drop s then (none, ()) else (some false, ())) w := by
    intro n
    induction n with
    | zero =>
      intro s hs
      have e1 : ps.drop s = [] := by simp; omega
      have e2 : qs.drop s = [] := by simp; omega
      rw [e1, e2]
      simp
    | succ n ih =>
      intro s hs
      obtain ⟨x, hx⟩ : ∃ x, ps[s]? = some x := ⟨ps[s]'(by omega), by rw [List.getElem?_eq_getElem]⟩
      obtain ⟨y, hy⟩ : ∃ y, qs[s]? = some y := ⟨qs[s]'(by omega), by rw [List.getElem?_eq_getElem]⟩
      have d1 : ps.drop s = x :: ps.drop (s + 1) := by
        rw [List.drop_eq_getElem_cons (show s < ps.length by omega)]
        rw [List.getElem?_eq_getElem (show s < ps.length by omega)] at hx
        rw [Option.some.inj hx]
      have d2 : qs.drop s = y :: qs.drop (s + 1) := by
        rw [List.drop_eq_getElem_cons (show s < qs.length by omega)]
        rw [List.getElem?_eq_getElem (show s < qs.length by omega)] at hy
        rw [Option.some.inj hy]
      have hi := ih (s + 1) (by omega)
      simp only [List.range'_succ, List.forIn_cons, Sem.run_bind, part_pay w ps s x hx, part_pay w qs s y hy, Result.andThen_ok, i5]
      rw [d1, d2]
      by_cases h : x = y
      · subst h
        simp only [beq_self_eq_true, Bool.not_true, Bool.false_eq_true, if_false, Sem.run_pure, Result.andThen_ok, List.cons.injEq, true_and]
        exact hi
      · have hb : (((x.toNat : Int)) == (y.toNat : Int)) = false := by
          rw [beq_eq_false_iff_ne]
          intro e
          exact h (UInt8.toNat_inj.1 (by omega))
        simp [hb, h]
  have := key 16 0 rfl
  simp only [List.drop_zero] at this
  simp only [Nat.sub_zero, Nat.add_sub_cancel, Nat.div_one]
  rw [this]
  by_cases h : ps = qs
  · simp [h]
  · simp [h]
theorem eql16 (ps qs : List UInt8) (hp : ps.length = 16) (hq : qs.length = 16) (w : World) : (binOp .eql 23 (.agg (payV ps)) (.agg (payV qs))).run Try.prog w = .ok (.bool (decide (ps = qs))) w := by
  rw [run_eql_struct, equal16 w ps qs hp hq]; rfl
theorem neq16 (ps qs : List UInt8) (hp : ps.length = 16) (hq : qs.length = 16) (w : World) : (binOp .neq 23 (.agg (payV ps)) (.agg (payV qs))).run Try.prog w = .ok (.bool (!decide (ps = qs))) w := by
  rw [run_neq_struct, equal16 w ps qs hp hq]; rfl

/-! ### Cells of maintenance -/
def omV (o : Om) : Array Value := (([.int .i64 o.k, .int .u8 (o.d.toNat : Int), .bool o.a, .int .u32 (o.t : Int)] : List Value) ++ (vals o.p ++ vals o.s)).toArray
theorem omV_one (o : Om) : (omV o).all (·.oneCell') = true := by
  rw [Array.all_eq_true_iff_forall_mem]
  intro u hv
  simp only [omV, List.mem_toArray, List.mem_append, vals, List.mem_map] at hv
  rcases hv with hv | ⟨x, _, rfl⟩ | ⟨x, _, rfl⟩
  · simp only [List.mem_cons, List.not_mem_nil, or_false] at hv
    rcases hv with rfl | rfl | rfl | rfl <;> rfl
  · rfl
  · rfl
theorem omV_size {o : Om} (h : o.Ok) : (omV o).size = 36 := by simp [omV, vals, h.p, h.s]
theorem omV_setP (o : Om) (ps : List UInt8) (h : o.p.length = ps.length) : setN (omV o) 4 (vals ps) = omV ⟨o.k, o.d, o.a, o.t, ps, o.s⟩ := by
  have := setN_list (vals ps) (vals o.p) [.int .i64 o.k, .int .u8 (o.d.toNat : Int), .bool o.a, .int .u32 (o.t : Int)] (vals o.s) (by rw [vals_length, vals_length, h])
  simpa [omV] using this
theorem omV_setS (o : Om) (hp : o.p.length = 16) (ps : List UInt8) (h : o.s.length = ps.length) : setN (omV o) 20 (vals ps) = omV ⟨o.k, o.d, o.a, o.t, o.p, ps⟩ := by
  have := setN_list (vals ps) (vals o.s) ([.int .i64 o.k, .int .u8 (o.d.toNat : Int), .bool o.a, .int .u32 (o.t : Int)] ++ vals o.p) [] (by rw [vals_length, vals_length, h])
  simpa [omV, vals_length, hp] using this
theorem laidIn_list (pre old post : List Value) (xs : List UInt8) (h : old.length = xs.length) : laidIn (pre ++ old ++ post).toArray pre.length xs = (pre ++ vals xs ++ post).toArray := by
  unfold laidIn
  rw [← h]
  simp [List.append_assoc, List.drop_append]
theorem omV_cpP (o : Om) (ps : List UInt8) (h : o.p.length = ps.length) : laidIn (omV o) 4 ps = omV ⟨o.k, o.d, o.a, o.t, ps, o.s⟩ := by
  have := laidIn_list [.int .i64 o.k, .int .u8 (o.d.toNat : Int), .bool o.a, .int .u32 (o.t : Int)] (vals o.p) (vals o.s) ps (by rw [vals_length, h])
  simpa [omV] using this
theorem omV_cpS (o : Om) (hp : o.p.length = 16) (ps : List UInt8) (h : o.s.length = ps.length) : laidIn (omV o) 20 ps = omV ⟨o.k, o.d, o.a, o.t, o.p, ps⟩ := by
  have := laidIn_list ([.int .i64 o.k, .int .u8 (o.d.toNat : Int), .bool o.a, .int .u32 (o.t : Int)] ++ vals o.p) (vals o.s) [] ps (by rw [vals_length, h])
  simpa [omV, vals_length, hp] using this
theorem omV_d (o : Om) (d : UInt8) : (omV o).setIfInBounds 1 (.int .u8 (d.toNat : Int)) = omV ⟨o.k, d, o.a, o.t, o.p, o.s⟩ := by simp [omV]
theorem omV_a (o : Om) (a : Bool) : (omV o).setIfInBounds 2 (.bool a) = omV ⟨o.k, o.d, a, o.t, o.p, o.s⟩ := by simp [omV]
theorem omV_t (o : Om) (t : Nat) : (omV o).setIfInBounds 3 (.int .u32 (t : Int)) = omV ⟨o.k, o.d, o.a, t, o.p, o.s⟩ := by simp [omV]
theorem infoA : (Try.prog.info? 31).map (fun i => (i.zero, i.size)) = some (some (.agg (omV om0)), 36) := by kernel_rfl
theorem infoB : (Try.prog.info? 25).map (fun i => (i.zero, i.size)) = some (some (.agg (omV om0)), 36) := by kernel_rfl
theorem zeroA (w : World) : (zeroValue 31).run Try.prog w = .ok (.agg (omV om0)) w := (zero_of_info infoA).1 w
theorem zeroB (w : World) : (zeroValue 25).run Try.prog w = .ok (.agg (omV om0)) w := (zero_of_info infoB).1 w
theorem sizeA : (Try.prog.info? 31).map (·.size) = some 36 := (zero_of_info infoA).2
theorem sizeB : (Try.prog.info? 25).map (·.size) = some 36 := (zero_of_info infoB).2
theorem run_bzA (w : World) : (Instr.build 31 #[]).run Try.prog w = .ok (.agg (omV om0)) w := by kernel_rfl
theorem run_bzB (w : World) : (Instr.build 25 #[]).run Try.prog w = .ok (.agg (omV om0)) w := by kernel_rfl
theorem run_ldA (w : World) (b : Nat) (o : Om) (t : TypeId) (h : BK w b (omV o) t) (ho : o.Ok) :
    (Instr.loadAt 31 (.pointer (some ⟨b, 0, none⟩))).run Try.prog w = .ok (.agg (omV o)) w := by
  simp only [Instr.loadAt, Instr.sureAddr, Sem.run_bind, Sem.run_pure, Result.andThen_ok]
  rw [run_loadVar_row w b t 31 (omV o) (0, 0) _ h Try.underlying31 rfl (by rw [omV_size ho]; exact sizeA)]
theorem run_ldB (w : World) (b : Nat) (o : Om) (t : TypeId) (h : BK w b (omV o) t) (ho : o.Ok) :
    (Instr.loadAt 25 (.pointer (some ⟨b, 0, none⟩))).run Try.prog w = .ok (.agg (omV o)) w := by
  simp only [Instr.loadAt, Instr.sureAddr, Sem.run_bind, Sem.run_pure, Result.andThen_ok]
  rw [run_loadVar_row w b t 25 (omV o) (0, 0) _ h Try.underlying25 rfl (by rw [omV_size ho]; exact sizeB)]
theorem omV_hiA {o : Om} (h : o.Ok) : (Try.prog.info? 31).map (·.size) = some (omV o).size := by rw [omV_size h]; exact sizeA
theorem omV_hiB {o : Om} (h : o.Ok) : (Try.prog.info? 25).map (·.size) = some (omV o).size := by rw [omV_size h]; exact sizeB
theorem omV_same {r s : Om} (h : r.Ok) (k : s.Ok) : (omV r).size = (omV s).size := by rw [omV_size h, omV_size k]
theorem pay_hi16 {ps : List UInt8} (h : ps.length = 16) : (Try.prog.info? 23).map (·.size) = some (payV ps).size := by rw [payV_size, h]; exact size16
theorem pay_same {ps qs : List UInt8} {n : Nat} (h : ps.length = n) (k : qs.length = n) : (payV ps).size = (payV qs).size := by rw [payV_size, payV_size, h, k]
theorem pay_hi48 {ps : List UInt8} (h : ps.length = 48) : (Try.prog.info? 26).map (·.size) = some (payV ps).size := by rw [payV_size, h]; exact size24
theorem om_fit {o : Om} {ps : List UInt8} (h : o.Ok) (k : ps.length = 16) : 4 + (payV ps).size ≤ (omV o).size := by rw [payV_size, omV_size h, k]; decide
theorem om_fit2 {o : Om} {ps : List UInt8} (h : o.Ok) (k : ps.length = 16) : 20 + (payV ps).size ≤ (omV o).size := by rw [payV_size, omV_size h, k]; decide
theorem BK.om {w : World} {b : Nat} {o : Om} {t : TypeId} (h : BK w b (omV o) t) :
    w.cell? ⟨b, 0, none⟩ = some (.int .i64 o.k) ∧ w.cell? ⟨b, 1, none⟩ = some (.int .u8 (o.d.toNat : Int)) ∧ w.cell? ⟨b, 2, none⟩ = some (.bool o.a) ∧ w.cell? ⟨b, 3, none⟩ = some (.int .u32 (o.t : Int)) :=
  ⟨h.cell 0 _ (by simp [omV]), h.cell 1 _ (by simp [omV]), h.cell 2 _ (by simp [omV]), h.cell 3 _ (by simp [omV])⟩
theorem omV_getP {o : Om} {j : Nat} {x : UInt8} (h : o.p[j]? = some x) : (omV o)[4 + j]? = some (.int .u8 (x.toNat : Int)) := by
  have hj : j < o.p.length := (List.getElem?_eq_some_iff.1 h).1
  have e : 4 + j = j + 1 + 1 + 1 + 1 := by omega
  simp only [omV, List.getElem?_toArray, e, List.cons_append, List.nil_append, List.getElem?_cons_succ]
  rw [List.getElem?_append_left (by rw [vals_length]; exact hj)]
  simp [vals, h]
theorem omV_getS {o : Om} (hp : o.p.length = 16) {j : Nat} {x : UInt8} (h : o.s[j]? = some x) : (omV o)[20 + j]? = some (.int .u8 (x.toNat : Int)) := by
  have e : 20 + j = (16 + j) + 1 + 1 + 1 + 1 := by omega
  simp only [omV, List.getElem?_toArray, e, List.cons_append, List.nil_append, List.getElem?_cons_succ]
  rw [List.getElem?_append_right (by rw [vals_length]; omega), vals_length, hp, show 16 + j - 16 = j by omega]
  simp [vals, h]
theorem BK.rangeP {w : World} {b : Nat} {o : Om} {t : TypeId} (h : BK w b (omV o) t) : w.rangeAt b 4 (vals o.p) := fun j v hv => by
  obtain ⟨x, hx, rfl⟩ := vals_get hv
  exact h.cell _ _ (omV_getP hx)
theorem BK.rangeS {w : World} {b : Nat} {o : Om} {t : TypeId} (h : BK w b (omV o) t) (hp : o.p.length = 16) : w.rangeAt b 20 (vals o.s) := fun j v hv => by
  obtain ⟨x, hx, rfl⟩ := vals_get hv
  exact h.cell _ _ (omV_getS hp hx)
theorem BK.place {w : World} {b : Nat} {o : Om} {t : TypeId} (h : BK w b (omV o) t) (ho : o.Ok) : IsB w.heap.size w (some ⟨b, 4, none⟩) 16 o.p :=
  ⟨ho.p.symm, .inr ⟨b, 4, rfl, h.lt, fun j x hx => h.cell _ _ (omV_getP hx)⟩⟩
theorem BK.source {w : World} {b : Nat} {o : Om} {t : TypeId} (h : BK w b (omV o) t) (ho : o.Ok) : IsB w.heap.size w (some ⟨b, 20, none⟩) 16 o.s :=
  ⟨ho.s.symm, .inr ⟨b, 20, rfl, h.lt, fun j x hx => h.cell _ _ (omV_getS ho.p hx)⟩⟩
theorem run_ldPl (w : World) (b : Nat) (o : Om) (t : TypeId) (h : BK w b (omV o) t) (ho : o.Ok) :
    (Instr.loadAt 23 (.pointer (some ⟨b, 4, none⟩))).run Try.prog w = .ok (.agg (payV o.p)) w :=
  run_loadAt_mid w b 4 23 (vals o.p) _ h.rangeP Try.underlying23 rfl (by rw [size16, vals_length, ho.p])
theorem run_ldSo (w : World) (b : Nat) (o : Om) (t : TypeId) (h : BK w b (omV o) t) (ho : o.Ok) :
    (Instr.loadAt 23 (.pointer (some ⟨b, 20, none⟩))).run Try.prog w = .ok (.agg (payV o.s)) w :=
  run_loadAt_mid w b 20 23 (vals o.s) _ (h.rangeS ho.p) Try.underlying23 rfl (by rw [size16, vals_length, ho.s])

/-! ### Builds -/
theorem fn16 {ps : List UInt8} (h : ps.length = 16) : ∃ f : Nat → UInt8, ps = (List.range 16).map f := by
  refine ⟨fun i => ps[i]?.getD 0, ?_⟩
  apply List.ext_getElem
  · simp [h]
  · intro i h1 h2
    simp [List.getElem?_eq_getElem h1]
theorem run_bldKind (w : World) (k : Int) : (Instr.build 31 #[(0, .int .i64 k)]).run Try.prog w = .ok (.agg (omV ⟨k, 0, false, 0, z16, z16⟩)) w := by kernel_rfl
theorem run_bldKindB (w : World) (k : Int) : (Instr.build 25 #[(0, .int .i64 k)]).run Try.prog w = .ok (.agg (omV ⟨k, 0, false, 0, z16, z16⟩)) w := by kernel_rfl
theorem run_bldOne (w : World) (k : Int) (d : UInt8) (p : List UInt8) (h : p.length = 16) : (Instr.build 31 #[(0, .int .i64 k), (1, .int .u8 (d.toNat : Int)), (4, .agg (payV p))]).run Try.prog w = .ok (.agg (omV ⟨k, d, false, 0, p, z16⟩)) w := by
  obtain ⟨f, rfl⟩ := fn16 h
  kernel_rfl
theorem run_bldLoop (w : World) (k : Int) (a : Bool) (t : Nat) (p s : List UInt8) (h : p.length = 16) (h2 : s.length = 16) : (Instr.build 31 #[(0, .int .i64 k), (2, .bool a), (3, .int .u32 (t : Int)), (4, .agg (payV p)), (5, .agg (payV s))]).run Try.prog w = .ok (.agg (omV ⟨k, 0, a, t, p, s⟩)) w := by
  obtain ⟨f, rfl⟩ := fn16 h
  obtain ⟨g, rfl⟩ := fn16 h2
  kernel_rfl

/-! ### Comparing -/
theorem pt1 (ty : TypeId) (h : ∀ w, (isAgg ty).run Try.prog w = .ok false w) (w : World) (k : Nat) (vs : Array Value) (u : Value) (hu : vs[k]? = some u) : (part ty vs k).run Try.prog w = .ok u w := by
  unfold part
  simp [Sem.run_bind, h, hu]
theorem list6 {α : Type} : ∀ {l : List α}, l.length = 6 → ∃ y0 y1 y2 y3 y4 y5, l = [y0, y1, y2, y3, y4, y5]
  | [y0, y1, y2, y3, y4, y5], _ => ⟨y0, y1, y2, y3, y4, y5, rfl⟩
theorem extP (o : Om) (hp : o.p.length = 16) : (omV o).extract 4 20 = payV o.p := by
  simp [omV, payV, List.extract_eq_take_drop, vals]
  rw [List.take_append_of_le_length (by simp [hp]), List.take_of_length_le (by simp [hp])]
theorem extS (o : Om) (hp : o.p.length = 16) (hs : o.s.length = 16) : (omV o).extract 20 36 = payV o.s := by
  simp [omV, payV, List.extract_eq_take_drop, vals]
  rw [List.drop_append_of_le_length (by simp [hp]), List.drop_of_length_le (by simp [hp]), List.nil_append, List.take_of_length_le (by simp [hs])]
theorem nat_beq (a b : Nat) : ((a : Int) == (b : Int)) = (a == b) := by
  rw [Bool.eq_iff_iff, beq_iff_eq, beq_iff_eq]; omega
theorem u8_beq (a b : UInt8) : ((a.toNat : Int) == (b.toNat : Int)) = (a == b) := by
  rw [Bool.eq_iff_iff, beq_iff_eq, beq_iff_eq, ← UInt8.toNat_inj]; omega
theorem eqO (w : World) (r s : Om) (hr : r.Ok) (hs : s.Ok) (d : Nat) (t : TypeId) (hf : (Try.prog.fieldsOf t).toList.map (fun f => (f.name, f.type, f.offset)) = [("Kind", 3, 0), ("Defect", 5, 1), ("Asks", 4, 2), ("Tag", 22, 3), ("Place", 23, 4), ("Source", 23, 20)])
    (h1 : Try.prog.underlying t = some (.struct (Try.prog.fieldsOf t))) (h2 : Try.prog.stoodInHeld t = false) :
    (Op.equalIn (d + 3) t (.agg (omV r)) (.agg (omV s))).run Try.prog w = .ok (eqB r s) w := by
  rw [run_equalIn_struct w (d + 2) t _ _ h1 h2]
  have i3 := fun (a b : Int) => run_equalIn_int (P := Try.prog) w (d + 1) 3 .i64 .i64 a b Try.underlying3
  have i5 := fun (a b : UInt8) => (run_equalIn_int (P := Try.prog) w (d + 1) 5 .u8 .u8 (a.toNat : Int) (b.toNat : Int) Try.underlying5).trans (by rw [u8_beq])
  have i4 := fun (a b : Bool) => run_equalIn_bool (P := Try.prog) w (d + 1) 4 a b Try.underlying4
  have i32 := fun (a b : Nat) => (run_equalIn_int (P := Try.prog) w (d + 1) 22 .u32 .u32 a b Try.underlying22).trans (by rw [nat_beq])
  have p3 := pt1 3 (fun _ => by kernel_rfl) w
  have p4 := pt1 4 (fun _ => by kernel_rfl) w
  have p5 := pt1 5 (fun _ => by kernel_rfl) w
  have p32 := pt1 22 (fun _ => by kernel_rfl) w
  have c0 : ∀ o : Om, (omV o)[0]? = some (.int .i64 o.k) := fun o => by simp [omV]
  have c1 : ∀ o : Om, (omV o)[1]? = some (.int .u8 (o.d.toNat : Int)) := fun o => by simp [omV]
  have c2 : ∀ o : Om, (omV o)[2]? = some (.bool o.a) := fun o => by simp [omV]
  have c3 : ∀ o : Om, (omV o)[3]? = some (.int .u32 (o.t : Int)) := fun o => by simp [omV]
  have ag : ∀ w, (isAgg 23).run Try.prog w = .ok true w := fun _ => by kernel_rfl
  have sz : ∀ w, (sizeOf 23).run Try.prog w = .ok 16 w := fun _ => by kernel_rfl
  have pP : ∀ o : Om, o.Ok → (part 23 (omV o) 4).run Try.prog w = .ok (.agg (payV o.p)) w := by
    intro o ho
    unfold part
    simp only [Sem.run_bind, ag, sz, Result.andThen_ok, if_true, Sem.run_pure, Nat.reduceAdd, extP o ho.p]
  have pS : ∀ o : Om, o.Ok → (part 23 (omV o) 20).run Try.prog w = .ok (.agg (payV o.s)) w := by
    intro o ho
    unfold part
    simp only [Sem.run_bind, ag, sz, Result.andThen_ok, if_true, Sem.run_pure, Nat.reduceAdd, extS o ho.p ho.s]
  generalize (Try.prog.fieldsOf t).toList = F at hf ⊢
  obtain ⟨f0, f1, f2, f3, f4, f5, rfl⟩ := list6 (l := F) (by simpa using congrArg List.length hf)
  simp only [List.map_cons, List.map_nil, List.cons.injEq, Prod.mk.injEq, and_true] at hf
  obtain ⟨⟨n0, t0, o0⟩, ⟨n1, t1, o1⟩, ⟨n2, t2, o2⟩, ⟨n3, t3, o3⟩, ⟨n4, t4, o4⟩, n5, t5, o5⟩ := hf
  rw [eqF (x := .int .i64 r.k) (y := .int .i64 s.k) (r := r.k == s.k) (by rw [n0]; decide) (by rw [t0, o0]; exact p3 _ _ _ (c0 _)) (by rw [t0, o0]; exact p3 _ _ _ (c0 _)) (by rw [t0]; exact i3 _ _)]
  rw [eqF (x := .int .u8 (r.d.toNat : Int)) (y := .int .u8 (s.d.toNat : Int)) (r := r.d == s.d) (by rw [n1]; decide) (by rw [t1, o1]; exact p5 _ _ _ (c1 _)) (by rw [t1, o1]; exact p5 _ _ _ (c1 _)) (by rw [t1]; exact i5 _ _)]
  rw [eqF (x := .bool r.a) (y := .bool s.a) (r := r.a == s.a) (by rw [n2]; decide) (by rw [t2, o2]; exact p4 _ _ _ (c2 _)) (by rw [t2, o2]; exact p4 _ _ _ (c2 _)) (by rw [t2]; exact i4 _ _)]
  rw [eqF (x := .int .u32 (r.t : Int)) (y := .int .u32 (s.t : Int)) (r := r.t == s.t) (by rw [n3]; decide) (by rw [t3, o3]; exact p32 _ _ _ (c3 _)) (by rw [t3, o3]; exact p32 _ _ _ (c3 _)) (by rw [t3]; exact i32 _ _)]
  rw [eqF (r := decide (r.p = s.p)) (by rw [n4]; decide) (by rw [t4, o4]; exact pP _ hr) (by rw [t4, o4]; exact pP _ hs) (by rw [t4]; exact equal16 w _ _ hr.p hs.p d)]
  rw [eqF (r := decide (r.s = s.s)) (by rw [n5]; decide) (by rw [t5, o5]; exact pS _ hr) (by rw [t5, o5]; exact pS _ hs) (by rw [t5]; exact equal16 w _ _ hr.s hs.s d)]
  unfold eqB
  cases r.k == s.k
  · rfl
  cases r.d == s.d
  · rfl
  cases r.a == s.a
  · rfl
  cases r.t == s.t
  · rfl
  cases decide (r.p = s.p)
  · rfl
  cases decide (r.s = s.s) <;> rfl
theorem eqlA (r s : Om) (hr : r.Ok) (hs : s.Ok) (w : World) : (binOp .eql 31 (.agg (omV r)) (.agg (omV s))).run Try.prog w = .ok (.bool (eqB r s)) w := by
  rw [run_eql_struct, eqO w r s hr hs _ 31 (by kernel_rfl) (by kernel_rfl) (by kernel_rfl)]; rfl
theorem neqA (r s : Om) (hr : r.Ok) (hs : s.Ok) (w : World) : (binOp .neq 31 (.agg (omV r)) (.agg (omV s))).run Try.prog w = .ok (.bool (!eqB r s)) w := by
  rw [run_neq_struct, eqO w r s hr hs _ 31 (by kernel_rfl) (by kernel_rfl) (by kernel_rfl)]; rfl
theorem eqlB (r s : Om) (hr : r.Ok) (hs : s.Ok) (w : World) : (binOp .eql 25 (.agg (omV r)) (.agg (omV s))).run Try.prog w = .ok (.bool (eqB r s)) w := by
  rw [run_eql_struct, eqO w r s hr hs _ 25 (by kernel_rfl) (by kernel_rfl) (by kernel_rfl)]; rfl
theorem neqB (r s : Om) (hr : r.Ok) (hs : s.Ok) (w : World) : (binOp .neq 25 (.agg (omV r)) (.agg (omV s))).run Try.prog w = .ok (.bool (!eqB r s)) w := by
  rw [run_neq_struct, eqO w r s hr hs _ 25 (by kernel_rfl) (by kernel_rfl) (by kernel_rfl)]; rfl
end Go.Proofs.Ytpjlcmdidhdbcaa
