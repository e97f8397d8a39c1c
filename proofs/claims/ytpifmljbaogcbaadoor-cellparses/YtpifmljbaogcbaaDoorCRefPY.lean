/- Proved here: what the document's Parse of cells answers of as many bytes as a cell has. Conditions: as each theorem states them. -/
import Derived.Test.YtpifmljbaogcbaaDoorCRefP
namespace Go.Proofs.YtpifmljbaogcbaaDoor
set_option linter.unusedSimpArgs false
set_option linter.unusedVariables false
open Go.RowKit
open H (numN dG dP dV dT dC refunpack_four)

/-- A value is stored over a block, in a region that draws its order. -/
theorem step_st {P : Program} {w : World} {ops : Array Oper} {o : Oper} {a : Act} {K : Act → World → Prop} {Q : Exit → Act → World → Prop} {E : Prop} (hgd : Region.wanted o (yielded ops a.tmps) = true)
    {ty : TypeId} {x y : Operand} {b : Nat} {V C : Array Value} (ho : o.op = .store ty x y) (hx : a.eval x = .pointer (some ⟨b, 0, none⟩)) (hy : a.eval y = .agg C) (hb : BK w b V ty)
    (hi : (P.info? ty).map (·.size) = some C.size) (hV : V.size = C.size) (h1 : C.all (·.oneCell') = true)
    (h : ∀ w', BK w' b C ty → (∀ n, n ≤ b → Below n w w') → But b w.heap.size w w' → w'.heap.size = w.heap.size → K (a.put o.dst undef) w') : if Region.wanted o (yielded ops a.tmps) = true then Oper.wp P o a w K Q else E := by
  rw [if_pos hgd]
  unfold Oper.wp execOp
  simp only [ho, hx, hy]
  have e := run_storeVar_row (P := P) w b ty ty V C hb hi hV h1
  simp only [Instr.storeAt, Instr.sureAddr, Sem.run_bind, Sem.run_pure, Result.andThen_ok, e]
  refine h _ ?_ (fun n hn => ?_) ?_ (by simp)
  · exact setRow_heap w b V C ty (0, 0) hb
  · exact ⟨rfl, rfl, rfl, by simp, fun k hk => setRow_other w b k C (by omega)⟩
  · exact ⟨rfl, rfl, rfl, by simp, fun k _ hk => setRow_other w b k C hk⟩

theorem hdr_one (g p v t c : Int) : (#[.int .i64 g, .int .i64 p, .int .i64 v, .int .i64 t, .int .i64 c] : Array Value).all (·.oneCell') = true := by
  rw [Array.all_eq_true_iff_forall_mem]
  intro u hv
  simp only [List.mem_toArray, List.mem_cons, List.not_mem_nil, or_false] at hv
  rcases hv with rfl | rfl | rfl | rfl | rfl <;> rfl
theorem results_cell_tmp2_row {P : Program} {fn : Func} {p u u2 : Tmp} {ty : TypeId} (h : fn.results = #[.cell p ty, .tmp u, .tmp u2]) (tmps : Array Value) (w : World) (g : Nat) (t : TypeId) (cs : Array Value) (fr : Nat × Nat) (d : TypeDesc) (v v2 : Value)
    (hp : tmps.getD p undef = .pointer (some ⟨g, 0, none⟩)) (hv : tmps.getD u undef = v) (hv2 : tmps.getD u2 undef = v2) (hg : w.heap[g]? = some (.cells cs t fr))
    (hu : P.underlying ty = some d) (hd : (match d with | .struct _ | .array _ _ => true | _ => false) = true) (hi : (P.info? ty).map (·.size) = some cs.size) :
    (results fn tmps).run P w = .ok (.tuple #[.agg cs, v, v2]) w := by
  have hp' : tmps[p]?.getD undef = .pointer (some ⟨g, 0, none⟩) := by simpa using hp
  have hv' : tmps[u]?.getD undef = v := by simpa using hv
  have hw' : tmps[u2]?.getD undef = v2 := by simpa using hv2
  simp [results, h, hp', hv', hw', asAddr, run_loadVar_row w g t ty cs fr d hg hu hd hi]

set_option maxRecDepth 50000 in
set_option maxHeartbeats 2000000 in
theorem refparse_gone (nni : Bool) (q p d : Nat) (c : Bool) (b off cap : Nat) (x0 x1 x2 x3 x4 : UInt8) (ps : List UInt8) (w : World) {n : Nat} (hI : IsB n w (some ⟨b, off, none⟩) 53 ([x0, x1, x2, x3, x4] ++ ps)) (hn : n ≤ q) (hcap : 53 ≤ cap)
    (hQ : QC w q p d c) (hp : p < 1000000) (hd : d < 1000000) (hg : res c [x0, x1, x2, x3, x4] = .gone) :
    Calls Tryd.prog 21 #[.slice (some ⟨b, off, none⟩) 53 cap, .pointer (some ⟨q, 0, none⟩), .bool nni] w fun e w' => e = .returned (.tuple #[.agg #[.int .i64 0, .int .i64 0, .int .i64 0, .int .i64 0, .int .i64 0], .slice none 0 0, .int .i64 4]) ∧ QC w' q p (d + 1) true ∧ But q w.heap.size w w' := by
  have A0 : Below w.heap.size w (w.alloc (.cells #[.int .i64 0, .int .i64 0, .int .i64 0, .int .i64 0, .int .i64 0] 23)) := (Below.refl _ w).alloc (Nat.le_refl _) _
  have K0 := bk_new w #[.int .i64 0, .int .i64 0, .int .i64 0, .int .i64 0, .int .i64 0] 23
  have hq := hQ.lt
  have Q0 := hQ.below A0 hq
  have I0 := (hI.below A0 (by omega)).take 5 (by simp)
  rw [show List.take 5 ([x0, x1, x2, x3, x4] ++ ps) = [x0, x1, x2, x3, x4] from rfl] at I0
  have HG : Hid (res c [x0, x1, x2, x3, x4] = .gone) := hg
  have hc5 : 5 ≤ cap := by omega
  clear hg hQ hI
  go_enter Tryd.func21, Tryd.ntmps21
  go_wp2_with fail
  refine (reftake_calls q p d c b off x0 x1 x2 x3 x4 cap hc5 _ I0 hn Q0 hp hd).mono ?_
  rintro e w1 ⟨a1, c1, rfl, I1, Q1, b1⟩
  rw [HG.out] at Q1 ⊢
  have K1 := K0.but b1 K0.lt (by omega)
  have B1 := (But.of (r := q) A0).trans (b1.mono A0.size)
  clear I1 I0 Q0 A0 K0 b1
  have K4 : BK (((((w1.setCell ⟨w.heap.size, 0, none⟩ (.int .i64 0)).setCell ⟨w.heap.size, 1, none⟩ (.int .i64 0)).setCell ⟨w.heap.size, 2, none⟩ (.int .i64 0)).setCell ⟨w.heap.size, 3, none⟩ (.int .i64 0)).setCell ⟨w.heap.size, 4, none⟩ (.int .i64 0)) w.heap.size #[.int .i64 0, .int .i64 0, .int .i64 0, .int .i64 0, .int .i64 0] 23 := by
    have := ((((K1.set 0 (.int .i64 0)).set 1 (.int .i64 0)).set 2 (.int .i64 0)).set 3 (.int .i64 0)).set 4 (.int .i64 0)
    simpa using this
  have k0 := K1.cell 0 _ rfl
  have k1 := K1.cell 1 _ rfl
  have k2 := K1.cell 2 _ rfl
  have k3 := K1.cell 3 _ rfl
  have k4 := K1.cell 4 _ rfl
  have f0 := K1.frozen 0
  have f1 := K1.frozen 1
  have f2 := K1.frozen 2
  have f3 := K1.frozen 3
  have f4 := K1.frozen 4
  go_wp2
  have hne : q ≠ w.heap.size := by omega
  refine bodyPost_ret (v := .tuple #[.agg #[.int .i64 0, .int .i64 0, .int .i64 0, .int .i64 0, .int .i64 0], .slice none 0 0, .int .i64 4]) (results_cell_tmp2_row Tryd.results21 _ _ _ _ _ _ _ _ _ rfl rfl rfl K4 Tryd.underlying23 rfl size23) rfl ⟨rfl, ?_, ?_⟩
  · exact ((((BK.setOther Q1 (p := ⟨w.heap.size, 0, none⟩) hne _).setOther (p := ⟨w.heap.size, 1, none⟩) hne _).setOther (p := ⟨w.heap.size, 2, none⟩) hne _).setOther (p := ⟨w.heap.size, 3, none⟩) hne _).setOther (p := ⟨w.heap.size, 4, none⟩) hne _
  · exact ((((B1.setNew (p := ⟨w.heap.size, 0, none⟩) (Nat.le_refl _) _).setNew (p := ⟨w.heap.size, 1, none⟩) (Nat.le_refl _) _).setNew (p := ⟨w.heap.size, 2, none⟩) (Nat.le_refl _) _).setNew (p := ⟨w.heap.size, 3, none⟩) (Nat.le_refl _) _).setNew (p := ⟨w.heap.size, 4, none⟩) (Nat.le_refl _) _

set_option maxRecDepth 50000 in
set_option maxHeartbeats 4000000 in
theorem refparse_yes (nni : Bool) (q p d : Nat) (c : Bool) (b off cap : Nat) (x0 x1 x2 x3 x4 y0 y1 y2 y3 : UInt8) (ps : List UInt8) (hl : ps.length = 48) (w : World) {n : Nat} (hI : IsB n w (some ⟨b, off, none⟩) 53 ([x0, x1, x2, x3, x4] ++ ps)) (hn : n ≤ q) (hcap : 53 ≤ cap)
    (hQ : QC w q p d c) (hp : p < 1000000) (hd : d < 1000000) (hy : (res c [x0, x1, x2, x3, x4]).out [x0, x1, x2, x3, x4] = [y0, y1, y2, y3]) (hok : (res c [x0, x1, x2, x3, x4]).ok = true)
    (G P V T C : Int) (hG : dG nni (numN y0 y1 y2 y3) = G) (hP : dP nni (numN y0 y1 y2 y3) = P) (hV : dV (numN y0 y1 y2 y3) = V) (hT : dT (numN y0 y1 y2 y3) = T) (hC : dC (numN y0 y1 y2 y3) = C) :
    Calls Tryd.prog 21 #[.slice (some ⟨b, off, none⟩) 53 cap, .pointer (some ⟨q, 0, none⟩), .bool nni] w fun e w' => ∃ a' c', e = .returned (.tuple #[.agg #[.int .i64 G, .int .i64 P, .int .i64 V, .int .i64 T, .int .i64 C], .slice a' 48 c', .int .i64 0]) ∧ IsB w'.heap.size w' a' 48 ps ∧
      QC w' q (p + (res c [x0, x1, x2, x3, x4]).rep) (d + (res c [x0, x1, x2, x3, x4]).drop) (res c [x0, x1, x2, x3, x4]).careful ∧ But q w.heap.size w w' := by
  have A0 : Below w.heap.size w (w.alloc (.cells #[.int .i64 0, .int .i64 0, .int .i64 0, .int .i64 0, .int .i64 0] 23)) := (Below.refl _ w).alloc (Nat.le_refl _) _
  have K0 := bk_new w #[.int .i64 0, .int .i64 0, .int .i64 0, .int .i64 0, .int .i64 0] 23
  have hq := hQ.lt
  have Q0 := hQ.below A0 hq
  have J0 := hI.below A0 (by omega)
  have I0 := J0.take 5 (by simp)
  rw [show List.take 5 ([x0, x1, x2, x3, x4] ++ ps) = [x0, x1, x2, x3, x4] from rfl] at I0
  have hc5 : 5 ≤ cap := by omega
  have HO : Hid ((res c [x0, x1, x2, x3, x4]).ok = true) := hok
  have HY : Hid ((res c [x0, x1, x2, x3, x4]).out [x0, x1, x2, x3, x4] = [y0, y1, y2, y3]) := hy
  have HG : Hid (dG nni (numN y0 y1 y2 y3) = G) := hG
  have HP : Hid (dP nni (numN y0 y1 y2 y3) = P) := hP
  have HV : Hid (dV (numN y0 y1 y2 y3) = V) := hV
  have HT : Hid (dT (numN y0 y1 y2 y3) = T) := hT
  have HC : Hid (dC (numN y0 y1 y2 y3) = C) := hC
  have HL : Hid (ps.length = 48) := hl
  clear hok hy hG hP hV hT hC hl hQ hI
  go_enter Tryd.func21, Tryd.ntmps21
  go_wp2_with fail
  refine (reftake_calls q p d c b off x0 x1 x2 x3 x4 cap hc5 _ I0 hn Q0 hp hd).mono ?_
  rintro e w1 ⟨a1, c1, rfl, I1, Q1, b1⟩
  rw [HY.out] at I1
  rw [HO.out]
  have K1 := K0.but b1 K0.lt (by omega)
  have J1 := J0.below (b1.below (m := n) (by rw [World.size_alloc]; omega) hn) (Nat.le_refl _)
  have B1 := (But.of (r := q) A0).trans (b1.mono A0.size)
  clear I0 Q0 A0 K0 b1 J0
  go_wp2_with fail
  refine (refunpack_four nni _ _ y0 y1 y2 y3 _ I1 (Nat.le_refl _)).mono ?_
  rintro e w2 ⟨rfl, b2⟩
  rw [HG.out, HP.out, HV.out, HT.out, HC.out]
  have z1 : w.heap.size < w1.heap.size := K1.lt
  have z2 := b2.size
  have q1 : q < w1.heap.size := BK.lt Q1
  have b3 : Below w1.heap.size w1 (w2.alloc (.cells #[.int .i64 G, .int .i64 P, .int .i64 V, .int .i64 T, .int .i64 C] 23)).drew := (b2.alloc b2.size _).drew
  have F3 := (bk_new w2 #[.int .i64 G, .int .i64 P, .int .i64 V, .int .i64 T, .int .i64 C] 23).drew
  have b4 := b3.alloc (o := .cells #[] 5) (by have := b3.size; exact this)
  have F4 := F3.alloc (.cells #[] 5)
  have z3 : (w2.alloc (.cells #[.int .i64 G, .int .i64 P, .int .i64 V, .int .i64 T, .int .i64 C] 23)).drew.heap.size = w2.heap.size + 1 := by show (World.alloc _ _).heap.size = _; simp
  have J4 := (J1.below b4 (by omega)).drop5
  rw [HL.out] at J4
  have O4 := ownB_new (w2.heap.size + 1) (w2.alloc (.cells #[.int .i64 G, .int .i64 P, .int .i64 V, .int .i64 T, .int .i64 C] 23)).drew (by omega)
  rw [z3] at O4
  obtain ⟨a5, c5, w5, hap5, o5, b5⟩ := run_app _ (w2.heap.size + 1) 28 _ 0 0 _ O4 (some ⟨b, off + 5, none⟩) 48 (cap - 5) ps J4 (by intro h; cases h) (by decide) (by rw [World.size_alloc]; omega)
  simp only [Nat.reduceAdd, List.nil_append] at hap5 o5
  have F5 := F4.below b5 (Nat.lt_succ_self _)
  have K5 := (K1.below b4 z1).below b5 (by omega)
  have R5 : QC w5 q _ _ _ := (Q1.below b4 q1).below b5 (by omega)
  have B5 : But q w.heap.size w w5 := B1.trans (But.of ((b4.mono (by omega)).trans (b5.mono (by omega))))
  have hne : w.heap.size ≠ w2.heap.size := by omega
  have ho : ¬ (cap = 5) := by omega
  clear K1 J1 B1 b2 b3 b4 F4 z3 J4 O4 I1 Q1
  have Z3 : Hid ((w2.alloc (.cells #[.int .i64 G, .int .i64 P, .int .i64 V, .int .i64 T, .int .i64 C] 23)).drew.heap.size = w2.heap.size + 1) := by show (World.alloc _ _).heap.size = _; simp
  go_wp2
  refine wp_region_held_drew (S := (fun w' => BK w' w2.heap.size #[.int .i64 G, .int .i64 P, .int .i64 V, .int .i64 T, .int .i64 C] 23)) (by kernel_rfl) F3 (fun hHeld => ?_)
  refine wpAnyH_take (i := 0) (oi := ({ dst := some 37, op := Op.load 23 (Operand.tmp 11), type := 23, pos := _, after := #[], guard := none } : Oper))  rfl (by kernel_rfl) (by kernel_rfl) (by kernel_rfl) (fun _ _ _ h => h) (yields_ld rfl rfl rfl (fun w hS => run_ld23 w _ _ _ _ _ _ _ hS)) hHeld ?_
  try simp only [Act.put, List.setIfInBounds_toArray, List.set_cons_zero, List.set_cons_succ]
  refine wpAnyH_take (i := 2) (oi := ({ dst := some 39, op := Op.move (Operand.tmp 0), type := 28, pos := _, after := #[], guard := none } : Oper)) (v := ?_) rfl (by kernel_rfl) (by kernel_rfl) (by kernel_rfl) (fun _ _ _ h => h) (Or.inl ⟨by rfl, ?_⟩) hHeld ?_
  rotate_left
  · (intro w hS; go_simp; try with_reducible rfl)
  try simp only [Act.put, List.setIfInBounds_toArray, List.set_cons_zero, List.set_cons_succ]
  refine wpAnyH_take (i := 3) (oi := ({ dst := some 40, op := Op.slice 28 (Operand.tmp 39) (some (Operand.const (Value.int IntKind.i64 5))) none none, type := 28, pos := _, after := #[{ on := 2, ground := Ground.data }], guard := none } : Oper)) (v := ?_) rfl (by kernel_rfl) (by kernel_rfl) (by kernel_rfl) (fun _ _ _ h => h) (Or.inl ⟨by rfl, ?_⟩) hHeld ?_
  rotate_left
  · (intro w hS; go_simp; try with_reducible rfl)
  try simp only [Act.put, List.setIfInBounds_toArray, List.set_cons_zero, List.set_cons_succ]
  refine wpAnyH_ready (rs := [1]) (by kernel_rfl) (by simp) ?_
  refine AllReadyH.cons (o := ({ dst := some 38, op := Op.buildSlice 28 0 #[], type := 28, pos := _, after := #[], guard := none } : Oper)) rfl (fun K hK => ?_) AllReadyH.nil
  go_simp
  refine hK.out _ _ (F3.alloc _) (fun hHeld => ?_)
  clear hK K
  try simp only [Act.put, List.setIfInBounds_toArray, List.set_cons_zero, List.set_cons_succ]
  refine wpAnyH_ready (rs := [4]) (by kernel_rfl) (by simp) ?_
  refine AllReadyH.cons (o := ({ dst := some 41, op := Op.call { callee := Callee.builtin Builtin.append, args := #[Operand.tmp 38, Operand.tmp 40], argTypes := #[28, 28] }, type := 28, pos := _, after := #[{ on := 1, ground := Ground.data }, { on := 3, ground := Ground.data }], guard := none } : Oper)) rfl (fun K hK => ?_) AllReadyH.nil
  refine step_app hap5 _ _ rfl rfl rfl rfl rfl ?_
  refine hK.out _ _ F5 (fun hHeld => ?_)
  clear hK K
  try simp only [Act.put, List.setIfInBounds_toArray, List.set_cons_zero, List.set_cons_succ]
  refine wpAnyH_ready (rs := [5]) (by kernel_rfl) (by simp) ?_
  refine AllReadyH.cons (o := ({ dst := none, op := Op.store 23 (Operand.tmp 6) (Operand.tmp 37), type := 0, pos := _, after := #[{ on := 0, ground := Ground.data }, { on := 4, ground := Ground.chain }, { on := 0, ground := Ground.phase }, { on := 1, ground := Ground.textOnly Departure.lateStores }, { on := 2, ground := Ground.textOnly Departure.lateStores }, { on := 3, ground := Ground.textOnly Departure.lateStoresUnsure }, { on := 4, ground := Ground.textOnly Departure.lateStoresUnsure }], guard := none } : Oper)) rfl (fun K hK => ?_) AllReadyH.nil
  refine step_st (ty := 23) (b := w.heap.size) (V := #[.int .i64 0, .int .i64 0, .int .i64 0, .int .i64 0, .int .i64 0]) (C := #[.int .i64 G, .int .i64 P, .int .i64 V, .int .i64 T, .int .i64 C]) (by rfl) (by rfl) (by rfl) (by rfl) (by exact K5) (by exact size23) (by simp) (by exact hdr_one _ _ _ _ _) ?_
  intro w6 K6 b6 but6 z6
  refine hK.out _ _ (F5.but but6 F5.lt hne.symm) (fun hHeld => ?_)
  clear hK K
  try simp only [Act.put, List.setIfInBounds_toArray, List.set_cons_zero, List.set_cons_succ]
  refine wpAnyH_take (i := 6) (oi := ({ dst := some 7, op := Op.assign (Operand.tmp 41), type := 28, pos := _, after := #[{ on := 4, ground := Ground.data }, { on := 5, ground := Ground.chain }, { on := 0, ground := Ground.phase }, { on := 1, ground := Ground.phase }, { on := 2, ground := Ground.phase }, { on := 3, ground := Ground.phase }, { on := 4, ground := Ground.phase }, { on := 5, ground := Ground.phase }], guard := none } : Oper)) (v := ?_) rfl (by kernel_rfl) (by kernel_rfl) (by kernel_rfl) (fun _ _ _ h => h) (Or.inl ⟨by rfl, ?_⟩) hHeld ?_
  rotate_left
  · (intro w hS; go_simp; try with_reducible rfl)
  try simp only [Act.put, List.setIfInBounds_toArray, List.set_cons_zero, List.set_cons_succ]
  refine wpAnyH_take (i := 7) (oi := ({ dst := some 8, op := Op.assign (Operand.const (Value.int IntKind.i64 0)), type := 3, pos := _, after := #[{ on := 6, ground := Ground.chain }, { on := 0, ground := Ground.phase }, { on := 1, ground := Ground.phase }, { on := 2, ground := Ground.phase }, { on := 3, ground := Ground.phase }, { on := 4, ground := Ground.phase }, { on := 5, ground := Ground.phase }, { on := 6, ground := Ground.phase }], guard := none } : Oper)) (v := ?_) rfl (by kernel_rfl) (by kernel_rfl) (by kernel_rfl) (fun _ _ _ h => h) (Or.inl ⟨by rfl, ?_⟩) hHeld ?_
  rotate_left
  · (intro w hS; go_simp; try with_reducible rfl)
  try simp only [Act.put, List.setIfInBounds_toArray, List.set_cons_zero, List.set_cons_succ]
  refine wpAnyH_done (by kernel_rfl) ?_ _
  clear hHeld hap5
  go_wp2
  refine bodyPost_ret (v := .tuple #[.agg #[.int .i64 G, .int .i64 P, .int .i64 V, .int .i64 T, .int .i64 C], .slice a5 48 c5, .int .i64 0]) (results_cell_tmp2_row Tryd.results21 _ _ _ _ _ _ _ _ _ rfl rfl rfl K6 Tryd.underlying23 rfl size23) rfl ⟨_, _, rfl, ?_, ?_, ?_⟩
  · obtain ⟨g, cur, e, hg1, hg2, _⟩ := o5.block (by decide)
    exact (o5.isB.1.but but6 (Nat.le_refl _) (fun ad h => by rw [e] at h; cases h; show g ≠ w.heap.size; omega)).mono (by omega)
  · exact BK.but R5 but6 (BK.lt R5) (by omega)
  · exact B5.trans (But.of (b6 _ (Nat.le_refl _)))
end Go.Proofs.YtpifmljbaogcbaaDoor
