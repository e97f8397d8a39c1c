/- Proved here: how entries, and a table of slots, lie in memory, are read, copied and compared. Conditions: as each theorem states them. -/
import Derived.Deep.WholeRow
import Derived.Deep.MidRow
import Derived.Deep.RegionHeld
import Derived.Deep.RegionHeldLaw
import Derived.Laws.StructEq
import Derived.Laws.CopyRow
import Derived.Test.YtgimmaancnlbcaaBut
import Derived.Test.YtgimmaancnlbcaaPk
namespace Go.Proofs.Ytgimmaancnlbcaa
set_option linter.unusedSimpArgs false
set_option linter.unusedVariables false
open Go.RowKit Go.Shelf

/-! ### Laws for the walk: an operation whose run is known -/
theorem wpList_val {P : Program} {w w' : World} {v : Value} {ops : Array Oper} {rest : List Oper} {o : Oper} {a : Act} {Q : Exit → Act → World → Prop} (hgd : Region.wanted o (yielded ops a.tmps) = true)
    (hrun : (execOp a.eval o).run P w = .ok (.value v) w') (h : wpList P ops Q rest (a.put o.dst v) w') : wpList P ops Q (o :: rest) a w := by
  refine wpList_step fun K hK => ?_
  rw [if_pos hgd]
  unfold Oper.wp
  rw [hrun]
  exact hK _ _ h
theorem wpList_ld {P : Program} {w : World} {ops : Array Oper} {rest : List Oper} {o : Oper} {a : Act} {Q : Exit → Act → World → Prop} (hgd : Region.wanted o (yielded ops a.tmps) = true)
    {ty : TypeId} {x : Operand} {b k : Nat} {v : Value} (ho : o.op = .load ty x) (hx : a.eval x = .pointer (some ⟨b, k, none⟩)) (hrun : (Instr.loadAt ty (.pointer (some ⟨b, k, none⟩))).run P w = .ok v w)
    (h : wpList P ops Q rest (a.put o.dst v) w) : wpList P ops Q (o :: rest) a w := by
  refine wpList_val (v := v) (w' := w) hgd ?_ h
  unfold execOp
  simp [ho, hx, hrun, Result.andThen]
/-- A load whose run is known, in a region that draws its order. -/
theorem yields_ld {P : Program} {ops : Array Oper} {S : World → Prop} {o : Oper} {a : Act} {ty : TypeId} {x : Operand} {b k : Nat} {v : Value} (ho : o.op = .load ty x) (hw : Region.wanted o (yielded ops a.tmps) = true)
    (hx : a.eval x = .pointer (some ⟨b, k, none⟩)) (hS : ∀ w, S w → (Instr.loadAt ty (.pointer (some ⟨b, k, none⟩))).run P w = .ok v w) : YieldsIf P ops S o v a :=
  .inl ⟨hw, fun w h => by unfold execOp; simp [ho, hx, hS w h, Result.andThen]⟩
/-- A variable is laid down, and its value stored into it. -/
theorem wpList_def {P : Program} {w : World} {ops : Array Oper} {rest : List Oper} {o1 o2 : Oper} {a : Act} {Q : Exit → Act → World → Prop} (hg1 : Region.wanted o1 (yielded ops a.tmps) = true)
    {ty : TypeId} {x y : Operand} {Z C : Array Value} (ho1 : o1.op = .alloc ty) (ho2 : o2.op = .store ty x y)
    (hx : (a.put o1.dst (.pointer (some ⟨w.heap.size, 0, none⟩))).eval x = .pointer (some ⟨w.heap.size, 0, none⟩)) (hy : (a.put o1.dst (.pointer (some ⟨w.heap.size, 0, none⟩))).eval y = .agg C)
    (hz : ∀ w, (zeroValue ty).run P w = .ok (.agg Z) w) (hi : (P.info? ty).map (·.size) = some C.size) (hZ : Z.size = C.size) (h1 : C.all (·.oneCell') = true)
    (hg2 : Region.wanted o2 (yielded ops (a.put o1.dst (.pointer (some ⟨w.heap.size, 0, none⟩))).tmps) = true)
    (h : wpList P ops Q rest ((a.put o1.dst (.pointer (some ⟨w.heap.size, 0, none⟩))).put o2.dst undef) (w.alloc (.cells C ty))) : wpList P ops Q (o1 :: o2 :: rest) a w := by
  refine wpList_val (v := .pointer (some ⟨w.heap.size, 0, none⟩)) (w' := w.alloc (.cells Z ty)) hg1 ?_ ?_
  · unfold execOp
    simp [ho1, Instr.alloc, hz, newVar, newRow, Result.andThen, Value.cells]
    try rfl
  · refine wpList_step fun K hK => ?_
    rw [if_pos hg2]
    unfold Oper.wp execOp
    simp only [ho2, hx, hy]
    have e := run_storeAt_new (P := P) w ty Z C hi hZ h1
    simp only [Sem.run_bind, e, Result.andThen_ok, Sem.run_pure]
    exact hK _ _ h
/-- A value is stored over a block. -/
theorem wpList_st {P : Program} {w : World} {ops : Array Oper} {rest : List Oper} {o : Oper} {a : Act} {Q : Exit → Act → World → Prop} (hgd : Region.wanted o (yielded ops a.tmps) = true)
    {ty : TypeId} {x y : Operand} {b : Nat} {V C : Array Value} (ho : o.op = .store ty x y) (hx : a.eval x = .pointer (some ⟨b, 0, none⟩)) (hy : a.eval y = .agg C) (hb : BK w b V ty)
    (hi : (P.info? ty).map (·.size) = some C.size) (hV : V.size = C.size) (h1 : C.all (·.oneCell') = true)
    (h : ∀ w', BK w' b C ty → (∀ n, n ≤ b → Below n w w') → But b w.heap.size w w' → w'.heap.size = w.heap.size → wpList P ops Q rest (a.put o.dst undef) w') : wpList P ops Q (o :: rest) a w := by
  refine wpList_step fun K hK => ?_
  rw [if_pos hgd]
  unfold Oper.wp execOp
  simp only [ho, hx, hy]
  have e := run_storeVar_row (P := P) w b ty ty V C hb hi hV h1
  simp only [Instr.storeAt, Instr.sureAddr, Sem.run_bind, Sem.run_pure, Result.andThen_ok, e]
  refine hK _ _ (h _ ?_ (fun n hn => ?_) ?_ (by simp))
  · exact setRow_heap w b V C ty (0, 0) hb
  · exact ⟨rfl, rfl, rfl, by simp, fun k hk => setRow_other w b k C (by omega)⟩
  · exact ⟨rfl, rfl, rfl, by simp, fun k _ hk => setRow_other w b k C hk⟩
theorem wpList_bld {P : Program} {w : World} {ops : Array Oper} {rest : List Oper} {o : Oper} {a : Act} {Q : Exit → Act → World → Prop} (hgd : Region.wanted o (yielded ops a.tmps) = true)
    {ty : TypeId} {parts : Array (Nat × Operand)} {vs : List (Nat × Value)} {v : Value} (ho : o.op = .build ty parts) (hps : parts.toList.map (fun x => (x.1, a.eval x.2)) = vs) (hrun : (Instr.build ty vs.toArray).run P w = .ok v w)
    (h : wpList P ops Q rest (a.put o.dst v) w) : wpList P ops Q (o :: rest) a w := by
  refine wpList_val (v := v) (w' := w) hgd ?_ h
  have e : parts.map (fun x => (x.1, a.eval x.2)) = vs.toArray := by
    rw [← hps]
    cases parts
    simp
  unfold execOp
  simp only [ho]
  rw [e]
  simp [hrun, Result.andThen]
theorem wpList_al {P : Program} {w : World} {ops : Array Oper} {rest : List Oper} {o : Oper} {a : Act} {Q : Exit → Act → World → Prop} (hgd : Region.wanted o (yielded ops a.tmps) = true)
    {ty : TypeId} {Z : Array Value} (ho : o.op = .alloc ty) (hz : ∀ w, (zeroValue ty).run P w = .ok (.agg Z) w)
    (h : wpList P ops Q rest (a.put o.dst (.pointer (some ⟨w.heap.size, 0, none⟩))) (w.alloc (.cells Z ty))) : wpList P ops Q (o :: rest) a w := by
  refine wpList_val (v := .pointer (some ⟨w.heap.size, 0, none⟩)) (w' := w.alloc (.cells Z ty)) hgd ?_ h
  unfold execOp
  simp [ho, Instr.alloc, hz, newVar, newRow, Result.andThen, Value.cells]
  try rfl
/-- A variable is laid down, and its value stored into it: the world behind is a letter. -/
theorem wpList_defL {P : Program} {w : World} {ops : Array Oper} {rest : List Oper} {o1 o2 : Oper} {a : Act} {Q : Exit → Act → World → Prop} (hg1 : Region.wanted o1 (yielded ops a.tmps) = true)
    {ty : TypeId} {x y : Operand} {Z C : Array Value} (ho1 : o1.op = .alloc ty) (ho2 : o2.op = .store ty x y)
    (hx : (a.put o1.dst (.pointer (some ⟨w.heap.size, 0, none⟩))).eval x = .pointer (some ⟨w.heap.size, 0, none⟩)) (hy : (a.put o1.dst (.pointer (some ⟨w.heap.size, 0, none⟩))).eval y = .agg C)
    (hz : ∀ w, (zeroValue ty).run P w = .ok (.agg Z) w) (hi : (P.info? ty).map (·.size) = some C.size) (hZ : Z.size = C.size) (h1 : C.all (·.oneCell') = true)
    (hg2 : Region.wanted o2 (yielded ops (a.put o1.dst (.pointer (some ⟨w.heap.size, 0, none⟩))).tmps) = true)
    (h : ∀ W, BK W w.heap.size C ty → Below w.heap.size w W → W.heap.size = w.heap.size + 1 → wpList P ops Q rest ((a.put o1.dst (.pointer (some ⟨w.heap.size, 0, none⟩))).put o2.dst undef) W) : wpList P ops Q (o1 :: o2 :: rest) a w :=
  wpList_def hg1 ho1 ho2 hx hy hz hi hZ h1 hg2 (h _ (bk_new w C ty) ((Below.refl _ w).alloc (Nat.le_refl _) _) (by simp))


/-- The cells of entries that lie side by side. -/
def ecells (L : List En) : List Value := L.flatMap fun x => [.int .i64 x.1.1, .int .i64 x.1.2.1, .int .i64 x.1.2.2, .int .i64 x.2]
abbrev keyV (k : Ky) : Value := .agg #[.int .i64 k.1, .int .i64 k.2.1, .int .i64 k.2.2]
abbrev entV (x : En) : Value := .agg #[.int .i64 x.1.1, .int .i64 x.1.2.1, .int .i64 x.1.2.2, .int .i64 x.2]
theorem ecells_nil : ecells [] = [] := rfl
theorem ecells_cons (x : En) (L : List En) : ecells (x :: L) = .int .i64 x.1.1 :: .int .i64 x.1.2.1 :: .int .i64 x.1.2.2 :: .int .i64 x.2 :: ecells L := by simp [ecells]
theorem ecells_append (L M : List En) : ecells (L ++ M) = ecells L ++ ecells M := by simp [ecells]
theorem ecells_length (L : List En) : (ecells L).length = L.length * 4 := by
  induction L with
  | nil => rfl
  | cons x L ih => rw [ecells_cons]; simp [ih]; omega
theorem ecells_take (L : List En) (n : Nat) : (ecells L).take (n * 4) = ecells (L.take n) := by
  induction L generalizing n with
  | nil => simp [ecells_nil]
  | cons x L ih =>
    cases n with
    | zero => simp [ecells_nil]
    | succ n => rw [List.take_succ_cons, ecells_cons, ecells_cons, ← ih n, show (n + 1) * 4 = n * 4 + 1 + 1 + 1 + 1 by omega, List.take_succ_cons, List.take_succ_cons, List.take_succ_cons, List.take_succ_cons]
theorem ecells_drop (L : List En) (n : Nat) : (ecells L).drop (n * 4) = ecells (L.drop n) := by
  induction L generalizing n with
  | nil => simp [ecells_nil]
  | cons x L ih =>
    cases n with
    | zero => simp
    | succ n => rw [List.drop_succ_cons, ecells_cons, ← ih n, show (n + 1) * 4 = n * 4 + 1 + 1 + 1 + 1 by omega, List.drop_succ_cons, List.drop_succ_cons, List.drop_succ_cons, List.drop_succ_cons]
theorem ecells_get {L : List En} {j : Nat} {x : En} (h : L[j]? = some x) :
    (ecells L)[j * 4]? = some (.int .i64 x.1.1) ∧ (ecells L)[j * 4 + 1]? = some (.int .i64 x.1.2.1) ∧ (ecells L)[j * 4 + 2]? = some (.int .i64 x.1.2.2) ∧ (ecells L)[j * 4 + 3]? = some (.int .i64 x.2) := by
  induction L generalizing j with
  | nil => cases h
  | cons y L ih =>
    rw [ecells_cons]
    cases j with
    | zero => simp at h; subst h; simp
    | succ j =>
      have := ih (j := j) (by simpa using h)
      rw [show (j + 1) * 4 = j * 4 + 1 + 1 + 1 + 1 by omega, show j * 4 + 1 + 1 + 1 + 1 + 1 = (j * 4 + 1) + 1 + 1 + 1 + 1 by omega, show j * 4 + 1 + 1 + 1 + 1 + 2 = (j * 4 + 2) + 1 + 1 + 1 + 1 by omega, show j * 4 + 1 + 1 + 1 + 1 + 3 = (j * 4 + 3) + 1 + 1 + 1 + 1 by omega]
      simpa using this
theorem ecells_set (L : List En) (j : Nat) (x : En) : ((((ecells L).set (j * 4) (.int .i64 x.1.1)).set (j * 4 + 1) (.int .i64 x.1.2.1)).set (j * 4 + 2) (.int .i64 x.1.2.2)).set (j * 4 + 3) (.int .i64 x.2) = ecells (L.set j x) := by
  induction L generalizing j with
  | nil => simp [ecells_nil]
  | cons y L ih =>
    cases j with
    | zero => simp [ecells_cons]
    | succ j =>
      rw [List.set_cons_succ, ecells_cons, ecells_cons, ← ih j, show (j + 1) * 4 = j * 4 + 1 + 1 + 1 + 1 by omega, show j * 4 + 1 + 1 + 1 + 1 + 1 = (j * 4 + 1) + 1 + 1 + 1 + 1 by omega, show j * 4 + 1 + 1 + 1 + 1 + 2 = (j * 4 + 2) + 1 + 1 + 1 + 1 by omega, show j * 4 + 1 + 1 + 1 + 1 + 3 = (j * 4 + 3) + 1 + 1 + 1 + 1 by omega]
      simp
theorem ecells_one {L : List En} : ∀ v ∈ ecells L, v.oneCell' = true := by
  intro v hv
  simp only [ecells, List.mem_flatMap] at hv
  obtain ⟨x, _, hx⟩ := hv
  simp at hx
  rcases hx with rfl | rfl | rfl | rfl <;> rfl

/-- A table's cells: its slots, how many keys there are, how much room there is. -/
def tabV (S : List En) (m r : Int) : Array Value := (ecells S ++ ([.int .i64 m, .int .i64 r] : List Value)).toArray
def zeroE : En := ((0, 0, 0), 0)
theorem tabV_size (S : List En) (m r : Int) : (tabV S m r).size = S.length * 4 + 2 := by simp [tabV, ecells_length]
theorem tabV_slot {S : List En} {m r : Int} {j : Nat} {x : En} (h : S[j]? = some x) :
    (tabV S m r)[j * 4]? = some (.int .i64 x.1.1) ∧ (tabV S m r)[j * 4 + 1]? = some (.int .i64 x.1.2.1) ∧ (tabV S m r)[j * 4 + 2]? = some (.int .i64 x.1.2.2) ∧ (tabV S m r)[j * 4 + 3]? = some (.int .i64 x.2) := by
  obtain ⟨h0, h1, h2, h3⟩ := ecells_get h
  have hj : j < S.length := (List.getElem?_eq_some_iff.1 h).1
  have key : ∀ k, k < S.length * 4 → (tabV S m r)[k]? = (ecells S)[k]? := fun k hk => by
    simp only [tabV, List.getElem?_toArray]
    exact List.getElem?_append_left (by rw [ecells_length]; exact hk)
  exact ⟨(key _ (by omega)).trans h0, (key _ (by omega)).trans h1, (key _ (by omega)).trans h2, (key _ (by omega)).trans h3⟩
theorem tabV_many {S : List En} (hS : S.length = 64) (m r : Int) : (tabV S m r)[256]? = some (.int .i64 m) ∧ (tabV S m r)[257]? = some (.int .i64 r) := by
  have hl : (ecells S).length = 256 := by rw [ecells_length, hS]
  constructor
  · simp only [tabV, List.getElem?_toArray]
    rw [List.getElem?_append_right (by omega), hl]; rfl
  · simp only [tabV, List.getElem?_toArray]
    rw [List.getElem?_append_right (by omega), hl]; rfl
theorem tabV_one (S : List En) (m r : Int) : (tabV S m r).all (·.oneCell') = true := by
  rw [Array.all_eq_true_iff_forall_mem]
  intro v hv
  simp only [tabV, List.mem_toArray, List.mem_append] at hv
  rcases hv with hv | hv
  · exact ecells_one v hv
  · simp at hv
    rcases hv with rfl | rfl <;> rfl
theorem tabV_setM {S : List En} (hS : S.length = 64) (m r m' : Int) : (tabV S m r).setIfInBounds 256 (.int .i64 m') = tabV S m' r := by
  have hl : (ecells S).length = 256 := by rw [ecells_length, hS]
  simp only [tabV, List.setIfInBounds_toArray]
  congr 1
  rw [List.set_append_right _ _ (by omega), hl]; rfl
theorem tabV_set {S : List En} (m r : Int) {j : Nat} (hj : j < S.length) (x : En) :
    ((((tabV S m r).setIfInBounds (j * 4) (.int .i64 x.1.1)).setIfInBounds (j * 4 + 1) (.int .i64 x.1.2.1)).setIfInBounds (j * 4 + 2) (.int .i64 x.1.2.2)).setIfInBounds (j * 4 + 3) (.int .i64 x.2) = tabV (S.set j x) m r := by
  have hl := ecells_length S
  simp only [tabV, List.setIfInBounds_toArray]
  congr 1
  rw [List.set_append_left _ _ (by omega), List.set_append_left _ _ (by simp; omega), List.set_append_left _ _ (by simp; omega), List.set_append_left _ _ (by simp; omega), ecells_set]
theorem tabV_copy {S : List En} (m r : Int) {i : Nat} {L : List En} (h : i + L.length ≤ S.length) :
    ((tabV S m r).toList.take (i * 4) ++ ecells L ++ (tabV S m r).toList.drop (i * 4 + L.length * 4)).toArray = tabV (S.take i ++ L ++ S.drop (i + L.length)) m r := by
  have hl := ecells_length S
  simp only [tabV]
  congr 1
  rw [List.take_append_of_le_length (by omega), ← Nat.add_mul, List.drop_append_of_le_length (by omega), ecells_take, ecells_drop, ecells_append, ecells_append]
  simp

theorem info_slot : (Try.prog.info? 59).map (fun i => (i.zero, i.size, i.bytes)) = some (some (.agg #[.int .i64 0, .int .i64 0, .int .i64 0, .int .i64 0]), 4, 32) := by kernel_rfl
theorem info_ent : (Try.prog.info? 65).map (fun i => (i.zero, i.size, i.bytes)) = some (some (.agg #[.int .i64 0, .int .i64 0, .int .i64 0, .int .i64 0]), 4, 32) := by kernel_rfl
theorem info_tab : (Try.prog.info? 62).map (fun i => (i.zero, i.size)) = some (some (.agg (tabV (List.replicate 64 zeroE) 0 0)), 258) := by kernel_rfl
theorem size_tab : (Try.prog.info? 62).map (·.size) = some 258 := (zero_of_info info_tab).2
theorem zero_tab (w : World) : (zeroValue 62).run Try.prog w = .ok (.agg (tabV (List.replicate 64 zeroE) 0 0)) w := (zero_of_info info_tab).1 w

/-- A table in block b: its entries, and how much room there is. -/
structure TB (w : World) (b : Nat) (L : List En) (room : Nat) : Prop where
  ex : ∃ S, S.length = 64 ∧ S.take L.length = L ∧ BK w b (tabV S (L.length : Int) (room : Int)) 62
  ok : Ok L room
theorem TB.lt {w : World} {b : Nat} {L : List En} {room : Nat} (h : TB w b L room) : b < w.heap.size := by obtain ⟨S, _, _, hb⟩ := h.ex; exact hb.lt
theorem TB.below {n b : Nat} {w w' : World} {L : List En} {room : Nat} (h : TB w b L room) (hb : Below n w w') (hn : b < n) : TB w' b L room := by
  obtain ⟨S, h1, h2, h3⟩ := h.ex; exact ⟨⟨S, h1, h2, h3.below hb hn⟩, h.ok⟩
theorem TB.but {r n b : Nat} {w w' : World} {L : List En} {room : Nat} (h : TB w b L room) (hb : But r n w w') (hn : b < n) (hr : b ≠ r) : TB w' b L room := by
  obtain ⟨S, h1, h2, h3⟩ := h.ex; exact ⟨⟨S, h1, h2, h3.but hb hn hr⟩, h.ok⟩
theorem TB.drew {b : Nat} {w : World} {L : List En} {room : Nat} (h : TB w b L room) : TB w.drew b L room := by
  obtain ⟨S, h1, h2, h3⟩ := h.ex; exact ⟨⟨S, h1, h2, h3⟩, h.ok⟩
theorem TB.alloc {b : Nat} {w : World} {L : List En} {room : Nat} (h : TB w b L room) (o : Obj) : TB (w.alloc o) b L room := by
  obtain ⟨S, h1, h2, h3⟩ := h.ex; exact ⟨⟨S, h1, h2, h3.alloc o⟩, h.ok⟩
theorem TB.len {w : World} {b : Nat} {L : List En} {room : Nat} (h : TB w b L room) : L.length ≤ 64 := Nat.le_trans h.ok.len h.ok.room
theorem TB.many {w : World} {b : Nat} {L : List En} {room : Nat} (h : TB w b L room) : w.cell? ⟨b, 256, none⟩ = some (.int .i64 (L.length : Int)) ∧ w.cell? ⟨b, 257, none⟩ = some (.int .i64 (room : Int)) := by
  obtain ⟨S, h1, h2, h3⟩ := h.ex
  exact ⟨h3.cell _ _ (tabV_many h1 _ _).1, h3.cell _ _ (tabV_many h1 _ _).2⟩
theorem TB.slot {w : World} {b : Nat} {L : List En} {room : Nat} (h : TB w b L room) {j : Nat} {x : En} (hx : L[j]? = some x) :
    w.cell? ⟨b, j * 4, none⟩ = some (.int .i64 x.1.1) ∧ w.cell? ⟨b, j * 4 + 1, none⟩ = some (.int .i64 x.1.2.1) ∧ w.cell? ⟨b, j * 4 + 2, none⟩ = some (.int .i64 x.1.2.2) ∧ w.cell? ⟨b, j * 4 + 3, none⟩ = some (.int .i64 x.2) := by
  obtain ⟨S, h1, h2, h3⟩ := h.ex
  have hj : j < L.length := (List.getElem?_eq_some_iff.1 hx).1
  have hS : S[j]? = some x := by rw [← h2, List.getElem?_take_of_lt hj] at hx; exact hx
  obtain ⟨c0, c1, c2, c3⟩ := tabV_slot (m := (L.length : Int)) (r := (room : Int)) hS
  exact ⟨h3.cell _ _ c0, h3.cell _ _ c1, h3.cell _ _ c2, h3.cell _ _ c3⟩

/-- Entries copied into another's cells. -/
theorem run_copy_e {t e : TypeId} (ht : Try.prog.underlying t = some (.slice e)) (hinf : (Try.prog.info? e).map (fun i => (i.zero, i.size, i.bytes)) = some (some (.agg #[.int .i64 0, .int .i64 0, .int .i64 0, .int .i64 0]), 4, 32))
    (w : World) (ty : TypeId) (g o dLen dCap : Nat) (a : Addr) (sLen sCap : Nat) (cur : Array Value) (t' : TypeId) (L : List En) (hg : BK w g cur t') (hn : L.length = Nat.min sLen dLen)
    (hsrc : ∀ j v, (ecells L)[j]? = some v → w.cell? (a.add j) = some v) (hfit : o + L.length * 4 ≤ cur.size) :
    (Builtin.copy_ #[t, t] ty #[.slice (some ⟨g, o, none⟩) dLen dCap, .slice (some a) sLen sCap]).run Try.prog w =
      .ok (goInt L.length) (w.setRow g (cur.toList.take o ++ ecells L ++ cur.toList.drop (o + L.length * 4)).toArray) := by
  obtain ⟨i0, hi, hz0, hz1, hz2⟩ := info_parts hinf
  have hl := run_firstCells_some (P := Try.prog) w 4 L.length a sLen sCap (ecells L) (ecells_length L) hsrc
  have hst := run_storeCells_at Try.prog g o t' (ecells L) 0 cur w hg (by rw [ecells_length]; simpa using hfit) ecells_one
  rw [Nat.add_zero, ecells_length] at hst
  simp [Builtin.copy_, run_underlying ht, Builtin.lenOf, sizeOf, typeInfo, hi, hz1, ← hn, hl, hst]

theorem eql_key (a b : Ky) (w : World) : (binOp .eql 24 (keyV a) (keyV b)).run Try.prog w = .ok (.bool (decide (a = b))) w := by
  obtain ⟨a1, a2, a3⟩ := a
  obtain ⟨b1, b2, b3⟩ := b
  have e : decide ((a1, a2, a3) = (b1, b2, b3)) = (a1 == b1 && (a2 == b2 && a3 == b3)) := by
    rw [Bool.eq_iff_iff]; simp
  rw [e]
  cases h1 : a1 == b1 <;> cases h2 : a2 == b2 <;> cases h3 : a3 == b3 <;> go_simp <;> simp [h1, h2, h3]
theorem neq_ent (a b : En) (w : World) : (binOp .neq 65 (entV a) (entV b)).run Try.prog w = .ok (.bool (!decide (a = b))) w := by
  obtain ⟨⟨a1, a2, a3⟩, a4⟩ := a
  obtain ⟨⟨b1, b2, b3⟩, b4⟩ := b
  have e : decide (((a1, a2, a3), a4) = ((b1, b2, b3), b4)) = (a1 == b1 && (a2 == b2 && (a3 == b3 && a4 == b4))) := by
    rw [Bool.eq_iff_iff]; simp [and_assoc]
  rw [e]
  cases h1 : a1 == b1 <;> cases h2 : a2 == b2 <;> cases h3 : a3 == b3 <;> cases h4 : a4 == b4 <;> go_simp <;> simp [h1, h2, h3, h4]
end Go.Proofs.Ytgimmaancnlbcaa
