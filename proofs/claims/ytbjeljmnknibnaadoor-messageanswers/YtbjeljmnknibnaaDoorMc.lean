/- Proved here: what a message asks for, told by the code and by the document. Conditions: as each theorem states them. -/
import Derived.Test.YtbjeljmnknibnaaDoorMf
import Derived.Test.YtbjeljmnknibnaaDoorRk
import Derived.Test.YtbjeljmnknibnaaDoorRt
import Derived.Test.YtbjeljmnknibnaaDoorRRk
import Derived.Test.YtbjeljmnknibnaaDoorRRt
namespace Go.Proofs.YtbjeljmnknibnaaDoor
set_option linter.unusedSimpArgs false
set_option linter.unusedVariables false
set_option maxRecDepth 20000
open Go.RowKit Go.Shelf

theorem results_cell2_tmp_row {P : Program} {fn : Func} {p q u : Tmp} {ty ty2 : TypeId} (h : fn.results = #[.cell p ty, .cell q ty2, .tmp u]) (tmps : Array Value) (w : World) (g g2 : Nat) (t t2 : TypeId) (cs cs2 : Array Value) (fr fr2 : Nat × Nat) (d d2 : TypeDesc) (v : Value)
    (hp : tmps.getD p undef = .pointer (some ⟨g, 0, none⟩)) (hq : tmps.getD q undef = .pointer (some ⟨g2, 0, none⟩)) (hv : tmps.getD u undef = v) (hg : w.heap[g]? = some (.cells cs t fr)) (hg2 : w.heap[g2]? = some (.cells cs2 t2 fr2))
    (hu : P.underlying ty = some d) (hd : (match d with | .struct _ | .array _ _ => true | _ => false) = true) (hi : (P.info? ty).map (·.size) = some cs.size)
    (hu2 : P.underlying ty2 = some d2) (hd2 : (match d2 with | .struct _ | .array _ _ => true | _ => false) = true) (hi2 : (P.info? ty2).map (·.size) = some cs2.size) :
    (results fn tmps).run P w = .ok (.tuple #[.agg cs, .agg cs2, v]) w := by
  have e1 := run_loadVar_row w g t ty cs fr d hg hu hd hi
  have e2 := run_loadVar_row w g2 t2 ty2 cs2 fr2 d2 hg2 hu2 hd2 hi2
  simp only [results, h]
  simp only [Sem.run_bind, Result.andThen, List.mapM_cons, List.mapM_nil, Array.mapM_eq_mapM_toList, List.mapM'_cons, hp, hq, hv, asAddr, Sem.run_pure, e1, e2]
  simp [Sem.run_bind, Result.andThen, hp, hq, hv, asAddr, e1, e2]

/-- What a message asks for: the error; the contract; the key. -/
def clE (k : Int) (L : List El) : Int := if k ≠ 5 then 12 else if fdB 89 L = false ∨ fdB 90 L = false then 8 else if rtE (fdX 89 L) ≠ 0 then rtE (fdX 89 L) else (rkN (fdX 90 L)).2
def clC (k : Int) (L : List El) : Array Value := if clE k L = 0 then rtC (fdX 89 L) else cC 0 0 0 0 0 0
def clK (k : Int) (L : List El) : Ky := if clE k L = 0 then (rkN (fdX 90 L)).1 else (0, 0, 0)
theorem rtC_six (x : El) : ∃ k p e v b l, rtC x = cC k p e v b l := by
  unfold rtC
  split
  · exact ⟨_, _, _, _, _, _, rfl⟩
  · exact ⟨_, _, _, _, _, _, rfl⟩
/-- What Call answers. -/
def ClAll (k : Int) (L : List El) (w : World) (e : Ending) (w' : World) : Prop := e = .returned (.tuple #[.agg (clC k L), .agg (kC (clK k L)), .int .i64 (clE k L)]) ∧ Below w.heap.size w w'
theorem cl_no {k : Int} {L : List El} {E : Int} (h : clE k L = E) (h0 : E ≠ 0) : Ending.returned (.tuple #[.agg (cC 0 0 0 0 0 0), .agg (kC (0, 0, 0)), .int .i64 E]) = .returned (.tuple #[.agg (clC k L), .agg (kC (clK k L)), .int .i64 (clE k L)]) := by
  have e1 : clC k L = cC 0 0 0 0 0 0 := by unfold clC; rw [if_neg (by rw [h]; exact h0)]
  have e2 : clK k L = (0, 0, 0) := by unfold clK; rw [if_neg (by rw [h]; exact h0)]
  rw [e1, e2, h]
theorem cl_yes {k : Int} {L : List El} {C : Array Value} {y : Ky} (h : clE k L = 0) (hc : rtC (fdX 89 L) = C) (hy : (rkN (fdX 90 L)).1 = y) : Ending.returned (.tuple #[.agg C, .agg (kC y), .int .i64 0]) = .returned (.tuple #[.agg (clC k L), .agg (kC (clK k L)), .int .i64 (clE k L)]) := by
  have e1 : clC k L = C := by unfold clC; rw [if_pos h, hc]
  have e2 : clK k L = y := by unfold clK; rw [if_pos h, hy]
  rw [e1, e2, h]
theorem cl_kind {k : Int} {L : List El} (h : k ≠ 5) : clE k L = 12 := by unfold clE; rw [if_pos h]
theorem cl_none {L : List El} (h : fdB 89 L = false ∨ fdB 90 L = false) : clE 5 L = 8 := by unfold clE; rw [if_neg (by decide), if_pos h]
theorem cl_rt {L : List El} (h1 : fdB 89 L = true) (h2 : fdB 90 L = true) (h : rtE (fdX 89 L) ≠ 0) : clE 5 L = rtE (fdX 89 L) := by unfold clE; rw [if_neg (by decide), if_neg (by rw [h1, h2]; simp), if_pos h]
theorem cl_rk {L : List El} (h1 : fdB 89 L = true) (h2 : fdB 90 L = true) (h : rtE (fdX 89 L) = 0) : clE 5 L = (rkN (fdX 90 L)).2 := by unfold clE; rw [if_neg (by decide), if_neg (by rw [h1, h2]; simp), if_neg (by simpa using h)]

set_option maxHeartbeats 4000000 in
theorem mcall_calls (r : Int) (b : Bool) (k : Int) (a : Option Addr) (n c : Nat) (L : List El) (w : World) {m0 : Nat} (hv : IsI m0 w a n L) (hm0 : m0 ≤ w.heap.size) (hn : n ≤ 1000) :
    Calls Tryd.prog 19 #[meV r b k a n c] w (ClAll k L w) := by
  have B0 : Below w.heap.size w (((w.alloc (.cells (meC r b k a n c) 24)).alloc (.cells (cC 0 0 0 0 0 0) 41)).alloc (.cells (kC (0, 0, 0)) 43)) := (((Below.refl _ w).alloc (Nat.le_refl _) _).alloc (by simp) _).alloc (by simp; omega) _
  have K0 : BK (((w.alloc (.cells (meC r b k a n c) 24)).alloc (.cells (cC 0 0 0 0 0 0) 41)).alloc (.cells (kC (0, 0, 0)) 43)) w.heap.size (meC r b k a n c) 24 := (me_box.alloc _).alloc _
  have CR : BK (((w.alloc (.cells (meC r b k a n c) 24)).alloc (.cells (cC 0 0 0 0 0 0) 41)).alloc (.cells (kC (0, 0, 0)) 43)) (w.heap.size + 1) (cC 0 0 0 0 0 0) 41 := by
    have := (bk_new (w.alloc (.cells (meC r b k a n c) 24)) (cC 0 0 0 0 0 0) 41).alloc (.cells (kC (0, 0, 0)) 43)
    rwa [World.size_alloc] at this
  have YR : BK (((w.alloc (.cells (meC r b k a n c) 24)).alloc (.cells (cC 0 0 0 0 0 0) 41)).alloc (.cells (kC (0, 0, 0)) 43)) (w.heap.size + 2) (kC (0, 0, 0)) 43 := by
    have := bk_new ((w.alloc (.cells (meC r b k a n c) 24)).alloc (.cells (cC 0 0 0 0 0 0) 41)) (kC (0, 0, 0)) 43
    rwa [World.size_alloc, World.size_alloc] at this
  by_cases hk : k = 5
  · subst hk
    obtain ⟨x, hx⟩ : ∃ x, fdX 89 L = x := ⟨_, rfl⟩
    obtain ⟨y, hy⟩ : ∃ y, fdX 90 L = y := ⟨_, rfl⟩
    obtain ⟨Bx, hBx⟩ : ∃ B, fdB 89 L = B := ⟨_, rfl⟩
    obtain ⟨By, hBy⟩ : ∃ B, fdB 90 L = B := ⟨_, rfl⟩
    have HF : Hid (∀ ww, Below w.heap.size w ww → Calls Tryd.prog 38 #[.slice a n c, .int .u8 ((89 : UInt8).toNat : Int)] ww fun e w' => ∃ (ai : Option Addr) (li ci : Nat), e = .returned (.tuple #[ieV x.id ai li ci, .bool Bx]) ∧ IsB m0 w' ai li x.body ∧ (ai = none → ci = 0) ∧ li ≤ ci ∧ Below ww.heap.size ww w') := fun ww hb => by
      have := fd_all a n c L 89 ww (hv.below hb hm0) (Nat.le_trans hm0 hb.size) hn
      unfold FdAll at this
      rw [hx, hBx] at this
      exact this
    have HF2 : Hid (∀ ww, Below w.heap.size w ww → Calls Tryd.prog 38 #[.slice a n c, .int .u8 ((90 : UInt8).toNat : Int)] ww fun e w' => ∃ (ai : Option Addr) (li ci : Nat), e = .returned (.tuple #[ieV y.id ai li ci, .bool By]) ∧ IsB m0 w' ai li y.body ∧ (ai = none → ci = 0) ∧ li ≤ ci ∧ Below ww.heap.size ww w') := fun ww hb => by
      have := fd_all a n c L 90 ww (hv.below hb hm0) (Nat.le_trans hm0 hb.size) hn
      unfold FdAll at this
      rw [hy, hBy] at this
      exact this
    have HN : Hid (Bx = false ∨ By = false → clE 5 L = 8) := fun h => cl_none (by rw [hBx, hBy]; exact h)
    have HT : Hid (Bx = true → By = true → rtE x ≠ 0 → clE 5 L = rtE x) := fun h1 h2 h => by rw [← hx]; exact cl_rt (hBx.trans h1) (hBy.trans h2) (by rw [hx]; exact h)
    have HK : Hid (Bx = true → By = true → rtE x = 0 → clE 5 L = (rkN y).2) := fun h1 h2 h => by rw [← hy]; exact cl_rk (hBx.trans h1) (hBy.trans h2) (by rw [hx]; exact h)
    have HY : Hid (∀ (C : Array Value) (ky : Ky), clE 5 L = 0 → rtC x = C → (rkN y).1 = ky → Ending.returned (.tuple #[.agg C, .agg (kC ky), .int .i64 0]) = .returned (.tuple #[.agg (clC 5 L), .agg (kC (clK 5 L)), .int .i64 (clE 5 L)])) := fun C ky h0 hc hk => cl_yes h0 (by rw [hx]; exact hc) (by rw [hy]; exact hk)
    obtain ⟨c1, c2, c3, c4, c5, c6, hc⟩ := rtC_six x
    obtain ⟨eT, heT⟩ : ∃ eT, rtE x = eT := ⟨_, rfl⟩
    obtain ⟨⟨yk, eK⟩, heK⟩ : ∃ u, rkN y = u := ⟨_, rfl⟩
    have HRT : Hid (∀ (ai : Option Addr) (li ci : Nat) (ww : World), IsB m0 ww ai li x.body → m0 ≤ ww.heap.size → li ≤ ci → Calls Tryd.prog 39 #[ieV x.id ai li ci] ww fun e w' => e = .returned (.tuple #[.agg (cC c1 c2 c3 c4 c5 c6), .int .i64 eT]) ∧ Below ww.heap.size ww w') := fun ai li ci ww h1 h2 h3 => by rw [← hc, ← heT]; exact rt_calls x ai li ci ww h1 h2 h3
    have HRK : Hid (∀ (ai : Option Addr) (li ci : Nat) (ww : World), IsB m0 ww ai li y.body → m0 ≤ ww.heap.size → li ≤ ci → Calls Tryd.prog 40 #[ieV y.id ai li ci] ww fun e w' => e = .returned (.tuple #[.agg (kC yk), .int .i64 eK]) ∧ Below ww.heap.size ww w') := fun ai li ci ww h1 h2 h3 => by
      have := rk_calls y ai li ci ww h1 h2 h3
      rw [heK] at this
      exact this
    rw [heT] at HT HK
    rw [heK] at HK HY
    rw [hc] at HY
    have HYY : Hid (clE 5 L = 0 → Ending.returned (.tuple #[.agg (cC c1 c2 c3 c4 c5 c6), .agg (kC yk), .int .i64 0]) = .returned (.tuple #[.agg (clC 5 L), .agg (kC (clK 5 L)), .int .i64 (clE 5 L)])) := fun h0 => HY.out _ _ h0 rfl rfl
    clear hx hy hBx hBy hv hc heT heK HY
    go_enter Tryd.func19, Tryd.ntmps19
    go_wp2_with fail
    refine (HF.out _ B0).mono ?_
    rintro e w1 ⟨ax, lx, cx, rfl, I1, _, lc1, b1⟩
    replace CR := CR.below b1 CR.lt
    replace YR := YR.below b1 YR.lt
    replace K0 := K0.below b1 K0.lt
    replace B0 := B0.trans (b1.mono B0.size)
    clear b1
    have hw1 : w.heap.size + 2 < w1.heap.size := YR.lt
    have D1 := Below.refl w.heap.size w1
    have A_ : Below w1.heap.size w1 (w1.alloc (.cells #[.int .u8 (x.id.toNat : Int), .slice ax lx cx] 60)) := (Below.refl _ w1).alloc (Nat.le_refl _) _
    have IX : BK (w1.alloc (.cells #[.int .u8 (x.id.toNat : Int), .slice ax lx cx] 60)) w1.heap.size #[.int .u8 (x.id.toNat : Int), .slice ax lx cx] 60 := bk_new w1 _ _
    replace CR := CR.below A_ CR.lt
    replace YR := YR.below A_ YR.lt
    replace K0 := K0.below A_ K0.lt
    replace D1 := D1.trans (A_.mono B0.size)
    replace B0 := B0.trans (A_.mono B0.size)
    clear A_
    have p3 := K0.cell 3 _ rfl
    go_wp2_with (first | (with_reducible show wpList _ _ _ (Oper.mk _ (Op.load 60 _) _ _ _ _ :: _) _ _; refine wpList_ld rfl rfl rfl (run_ldI (by with_reducible assumption)) ?_; (try simp only [Act.put, List.setIfInBounds_toArray, List.set_cons_zero, List.set_cons_succ, World.size_alloc])) | (with_reducible show wpList _ _ _ (Oper.mk _ (Op.load 41 _) _ _ _ _ :: _) _ _; refine wpList_ld rfl rfl rfl (run_ldC (by with_reducible assumption)) ?_; (try simp only [Act.put, List.setIfInBounds_toArray, List.set_cons_zero, List.set_cons_succ, World.size_alloc])) | (with_reducible show wpList _ _ _ (Oper.mk _ (Op.load 43 _) _ _ _ _ :: _) _ _; refine wpList_ld rfl rfl rfl (run_ldK (by with_reducible assumption)) ?_; (try simp only [Act.put, List.setIfInBounds_toArray, List.set_cons_zero, List.set_cons_succ, World.size_alloc])))
    refine (HF2.out _ B0).mono ?_
    rintro e w2 ⟨ay, ly, cy, rfl, I2, _, lc2, b2⟩
    replace CR := CR.below b2 CR.lt
    replace YR := YR.below b2 YR.lt
    replace K0 := K0.below b2 K0.lt
    replace IX := IX.below b2 IX.lt
    replace D1 := D1.trans (b2.mono B0.size)
    replace B0 := B0.trans (b2.mono B0.size)
    clear b2
    have hw2 : w.heap.size + 2 < w2.heap.size := YR.lt
    have D2 := Below.refl w.heap.size w2
    clear p3 K0
    have A_ : Below w2.heap.size w2 (w2.alloc (.cells #[.int .u8 (y.id.toNat : Int), .slice ay ly cy] 60)) := (Below.refl _ w2).alloc (Nat.le_refl _) _
    have IY : BK (w2.alloc (.cells #[.int .u8 (y.id.toNat : Int), .slice ay ly cy] 60)) w2.heap.size #[.int .u8 (y.id.toNat : Int), .slice ay ly cy] 60 := bk_new w2 _ _
    replace CR := CR.below A_ CR.lt
    replace YR := YR.below A_ YR.lt
    replace IX := IX.below A_ IX.lt
    replace D1 := D1.trans (A_.mono B0.size)
    replace D2 := D2.trans (A_.mono B0.size)
    replace B0 := B0.trans (A_.mono B0.size)
    clear A_
    cases Bx
    · have HX : Hid (clE 5 L = 8) := by first | exact HN.out (.inl rfl) | exact HN.out (by simp)
      clear HN HT HK HYY HRT HRK HF HF2 D1 D2 IX IY I1 I2
      go_wp2_with (first | (with_reducible show wpList _ _ _ (Oper.mk _ (Op.load 41 _) _ _ _ _ :: _) _ _; refine wpList_ld rfl rfl rfl (run_ldC (by with_reducible assumption)) ?_; (try simp only [Act.put, List.setIfInBounds_toArray, List.set_cons_zero, List.set_cons_succ, World.size_alloc])) | (with_reducible show wpList _ _ _ (Oper.mk _ (Op.load 43 _) _ _ _ _ :: _) _ _; refine wpList_ld rfl rfl rfl (run_ldK (by with_reducible assumption)) ?_; (try simp only [Act.put, List.setIfInBounds_toArray, List.set_cons_zero, List.set_cons_succ, World.size_alloc])) | (with_reducible show wpList _ _ _ (Oper.mk _ (Op.store 41 _ _) _ _ _ _ :: _) _ _; refine stop_here ?_))
      refine ⟨?_⟩
      refine wpList_st rfl rfl rfl rfl CR size_C rfl (by simp [Value.oneCell']) ?_
      intro wa Ka ba buta za
      have YRa := YR.but buta YR.lt (by omega)
      have Ba := B0.trans (ba _ (by omega))
      clear ba buta za
      go_wp2_with (first | (with_reducible show wpList _ _ _ (Oper.mk _ (Op.load 43 _) _ _ _ _ :: _) _ _; refine wpList_ld rfl rfl rfl (run_ldK (by with_reducible assumption)) ?_; (try simp only [Act.put, List.setIfInBounds_toArray, List.set_cons_zero, List.set_cons_succ, World.size_alloc])) | (with_reducible show wpList _ _ _ (Oper.mk _ (Op.store 43 _ _) _ _ _ _ :: _) _ _; refine stop_here ?_))
      refine ⟨?_⟩
      refine wpList_st rfl rfl rfl rfl YRa size_K rfl (by simp [Value.oneCell']) ?_
      intro wb Kb bb butb zb
      have Cb := Ka.but butb Ka.lt (by omega)
      have Bb := Ba.trans (bb _ (by omega))
      clear bb butb zb Ka YRa Ba
      go_wp2_with (with_reducible show bodyPost _ _ _ _ _ _; refine stop_here ?_)
      refine ⟨?_⟩
      refine bodyPost_ret (v := .tuple #[.agg (cC 0 0 0 0 0 0), .agg (kC (0, 0, 0)), .int .i64 (8)]) (results_cell2_tmp_row Tryd.results19 _ _ _ _ _ _ _ _ _ _ _ _ _ rfl rfl rfl Cb Kb Tryd.underlying41 rfl size_C Tryd.underlying43 rfl size_K) rfl ⟨cl_no HX.out (by decide), Bb⟩
    · cases By
      · have HX : Hid (clE 5 L = 8) := by first | exact HN.out (.inr rfl) | exact HN.out (by simp)
        clear HN HT HK HYY HRT HRK HF HF2 D1 D2 IX IY I1 I2
        go_wp2_with (first | (with_reducible show wpList _ _ _ (Oper.mk _ (Op.load 41 _) _ _ _ _ :: _) _ _; refine wpList_ld rfl rfl rfl (run_ldC (by with_reducible assumption)) ?_; (try simp only [Act.put, List.setIfInBounds_toArray, List.set_cons_zero, List.set_cons_succ, World.size_alloc])) | (with_reducible show wpList _ _ _ (Oper.mk _ (Op.load 43 _) _ _ _ _ :: _) _ _; refine wpList_ld rfl rfl rfl (run_ldK (by with_reducible assumption)) ?_; (try simp only [Act.put, List.setIfInBounds_toArray, List.set_cons_zero, List.set_cons_succ, World.size_alloc])) | (with_reducible show wpList _ _ _ (Oper.mk _ (Op.store 41 _ _) _ _ _ _ :: _) _ _; refine stop_here ?_))
        refine ⟨?_⟩
        refine wpList_st rfl rfl rfl rfl CR size_C rfl (by simp [Value.oneCell']) ?_
        intro wa Ka ba buta za
        have YRa := YR.but buta YR.lt (by omega)
        have Ba := B0.trans (ba _ (by omega))
        clear ba buta za
        go_wp2_with (first | (with_reducible show wpList _ _ _ (Oper.mk _ (Op.load 43 _) _ _ _ _ :: _) _ _; refine wpList_ld rfl rfl rfl (run_ldK (by with_reducible assumption)) ?_; (try simp only [Act.put, List.setIfInBounds_toArray, List.set_cons_zero, List.set_cons_succ, World.size_alloc])) | (with_reducible show wpList _ _ _ (Oper.mk _ (Op.store 43 _ _) _ _ _ _ :: _) _ _; refine stop_here ?_))
        refine ⟨?_⟩
        refine wpList_st rfl rfl rfl rfl YRa size_K rfl (by simp [Value.oneCell']) ?_
        intro wb Kb bb butb zb
        have Cb := Ka.but butb Ka.lt (by omega)
        have Bb := Ba.trans (bb _ (by omega))
        clear bb butb zb Ka YRa Ba
        go_wp2_with (with_reducible show bodyPost _ _ _ _ _ _; refine stop_here ?_)
        refine ⟨?_⟩
        refine bodyPost_ret (v := .tuple #[.agg (cC 0 0 0 0 0 0), .agg (kC (0, 0, 0)), .int .i64 (8)]) (results_cell2_tmp_row Tryd.results19 _ _ _ _ _ _ _ _ _ _ _ _ _ rfl rfl rfl Cb Kb Tryd.underlying41 rfl size_C Tryd.underlying43 rfl size_K) rfl ⟨cl_no HX.out (by decide), Bb⟩
      · go_wp2_with (first | (with_reducible show wpList _ _ _ (Oper.mk _ (Op.load 60 _) _ _ _ _ :: _) _ _; refine wpList_ld rfl rfl rfl (run_ldI (by with_reducible assumption)) ?_; (try simp only [Act.put, List.setIfInBounds_toArray, List.set_cons_zero, List.set_cons_succ, World.size_alloc])) | (with_reducible show wpList _ _ _ (Oper.mk _ (Op.load 41 _) _ _ _ _ :: _) _ _; refine wpList_ld rfl rfl rfl (run_ldC (by with_reducible assumption)) ?_; (try simp only [Act.put, List.setIfInBounds_toArray, List.set_cons_zero, List.set_cons_succ, World.size_alloc])) | (with_reducible show wpList _ _ _ (Oper.mk _ (Op.load 43 _) _ _ _ _ :: _) _ _; refine wpList_ld rfl rfl rfl (run_ldK (by with_reducible assumption)) ?_; (try simp only [Act.put, List.setIfInBounds_toArray, List.set_cons_zero, List.set_cons_succ, World.size_alloc])))
        refine (HRT.out ax lx cx _ (I1.below D1 hm0) (Nat.le_trans hm0 B0.size) lc1).mono ?_
        rintro e w3 ⟨rfl, b3⟩
        replace CR := CR.below b3 CR.lt
        replace YR := YR.below b3 YR.lt
        replace IX := IX.below b3 IX.lt
        replace IY := IY.below b3 IY.lt
        replace D1 := D1.trans (b3.mono B0.size)
        replace D2 := D2.trans (b3.mono B0.size)
        replace B0 := B0.trans (b3.mono B0.size)
        clear b3
        have hw3 : w.heap.size + 2 < w3.heap.size := YR.lt
        have A_ : Below w3.heap.size w3 (w3.alloc (.cells (cC c1 c2 c3 c4 c5 c6) 41)) := (Below.refl _ w3).alloc (Nat.le_refl _) _
        have TC : BK (w3.alloc (.cells (cC c1 c2 c3 c4 c5 c6) 41)) w3.heap.size (cC c1 c2 c3 c4 c5 c6) 41 := bk_new w3 _ _
        replace CR := CR.below A_ CR.lt
        replace YR := YR.below A_ YR.lt
        replace IX := IX.below A_ IX.lt
        replace IY := IY.below A_ IY.lt
        replace D1 := D1.trans (A_.mono B0.size)
        replace D2 := D2.trans (A_.mono B0.size)
        replace B0 := B0.trans (A_.mono B0.size)
        clear A_
        by_cases hT : eT = 0
        · subst hT
          have HK1 : Hid (clE 5 L = eK) := by first | exact HK.out rfl rfl rfl | exact HK.out trivial trivial trivial | exact (by simpa [Hid] using HK)
          clear HN HT HK HRT HF HF2
          go_wp2_with (first | (with_reducible show wpList _ _ _ (Oper.mk _ (Op.load 60 _) _ _ _ _ :: _) _ _; refine wpList_ld rfl rfl rfl (run_ldI (by with_reducible assumption)) ?_; (try simp only [Act.put, List.setIfInBounds_toArray, List.set_cons_zero, List.set_cons_succ, World.size_alloc])) | (with_reducible show wpList _ _ _ (Oper.mk _ (Op.load 41 _) _ _ _ _ :: _) _ _; refine wpList_ld rfl rfl rfl (run_ldC (by with_reducible assumption)) ?_; (try simp only [Act.put, List.setIfInBounds_toArray, List.set_cons_zero, List.set_cons_succ, World.size_alloc])) | (with_reducible show wpList _ _ _ (Oper.mk _ (Op.load 43 _) _ _ _ _ :: _) _ _; refine wpList_ld rfl rfl rfl (run_ldK (by with_reducible assumption)) ?_; (try simp only [Act.put, List.setIfInBounds_toArray, List.set_cons_zero, List.set_cons_succ, World.size_alloc])))
          refine (HRK.out ay ly cy _ (I2.below D2 hm0) (Nat.le_trans hm0 B0.size) lc2).mono ?_
          rintro e w4 ⟨rfl, b4⟩
          replace CR := CR.below b4 CR.lt
          replace YR := YR.below b4 YR.lt
          replace IX := IX.below b4 IX.lt
          replace IY := IY.below b4 IY.lt
          replace TC := TC.below b4 TC.lt
          replace D1 := D1.trans (b4.mono B0.size)
          replace D2 := D2.trans (b4.mono B0.size)
          replace B0 := B0.trans (b4.mono B0.size)
          clear b4
          have hw4 : w.heap.size + 2 < w4.heap.size := YR.lt
          have A_ : Below w4.heap.size w4 (w4.alloc (.cells (kC yk) 43)) := (Below.refl _ w4).alloc (Nat.le_refl _) _
          have TK : BK (w4.alloc (.cells (kC yk) 43)) w4.heap.size (kC yk) 43 := bk_new w4 _ _
          replace CR := CR.below A_ CR.lt
          replace YR := YR.below A_ YR.lt
          replace IX := IX.below A_ IX.lt
          replace IY := IY.below A_ IY.lt
          replace TC := TC.below A_ TC.lt
          replace D1 := D1.trans (A_.mono B0.size)
          replace D2 := D2.trans (A_.mono B0.size)
          replace B0 := B0.trans (A_.mono B0.size)
          clear A_
          clear HRK D1 D2 IX IY I1 I2
          by_cases hK : eK = 0
          · subst hK
            have HX : Hid (Ending.returned (.tuple #[.agg (cC c1 c2 c3 c4 c5 c6), .agg (kC yk), .int .i64 0]) = .returned (.tuple #[.agg (clC 5 L), .agg (kC (clK 5 L)), .int .i64 (clE 5 L)])) := HYY.out HK1.out
            clear HK1 HYY
            go_upto_region 13 with (first | (with_reducible show wpList _ _ _ (Oper.mk _ (Op.load 60 _) _ _ _ _ :: _) _ _; refine wpList_ld rfl rfl rfl (run_ldI (by with_reducible assumption)) ?_; (try simp only [Act.put, List.setIfInBounds_toArray, List.set_cons_zero, List.set_cons_succ, World.size_alloc])) | (with_reducible show wpList _ _ _ (Oper.mk _ (Op.load 41 _) _ _ _ _ :: _) _ _; refine wpList_ld rfl rfl rfl (run_ldC (by with_reducible assumption)) ?_; (try simp only [Act.put, List.setIfInBounds_toArray, List.set_cons_zero, List.set_cons_succ, World.size_alloc])) | (with_reducible show wpList _ _ _ (Oper.mk _ (Op.load 43 _) _ _ _ _ :: _) _ _; refine wpList_ld rfl rfl rfl (run_ldK (by with_reducible assumption)) ?_; (try simp only [Act.put, List.setIfInBounds_toArray, List.set_cons_zero, List.set_cons_succ, World.size_alloc])))
            generalize hwz : (w4.alloc (.cells (kC yk) 43)) = wz at *
            clear hwz
            have CRd := CR.drew
            have YRd := YR.drew
            have lY := YR.lt
            refine wp_region_held_drew (S := (fun w' => BK w' w3.heap.size (cC c1 c2 c3 c4 c5 c6) 41 ∧ BK w' w4.heap.size (kC yk) 43 ∧ Below w.heap.size w w')) (by kernel_rfl) ⟨TC.drew, TK.drew, B0.drew⟩ (fun hHeld => ?_)
            refine wpAnyH_take (i := 0) (oi := ({ dst := some 57, op := Op.load 41 (Operand.tmp 9), type := 41, pos := _, after := #[], guard := none } : Oper))  rfl (by kernel_rfl) (by kernel_rfl) (by kernel_rfl) (fun _ _ _ h => h) (yields_ld rfl rfl rfl (fun w hS => run_ldC hS.1)) hHeld ?_
            try simp only [Act.put, List.setIfInBounds_toArray, List.set_cons_zero, List.set_cons_succ]
            refine wpAnyH_take (i := 1) (oi := ({ dst := some 58, op := Op.load 43 (Operand.tmp 11), type := 43, pos := _, after := #[{ on := 2, ground := Ground.gcOnly Departure.lateStores }], guard := none } : Oper))  rfl (by kernel_rfl) (by kernel_rfl) (by kernel_rfl) (fun _ _ _ h => h) (yields_ld rfl rfl rfl (fun w hS => run_ldK hS.2.1)) hHeld ?_
            try simp only [Act.put, List.setIfInBounds_toArray, List.set_cons_zero, List.set_cons_succ]
            refine wpAnyH_ready (rs := [2]) (by kernel_rfl) (by simp) ?_
            refine AllReadyH.cons (o := ({ dst := none, op := Op.store 41 (Operand.tmp 2) (Operand.tmp 57), type := 0, pos := _, after := #[{ on := 0, ground := Ground.data }, { on := 0, ground := Ground.phase }, { on := 1, ground := Ground.textOnly Departure.lateStores }], guard := none } : Oper)) rfl (fun K hK => ?_) AllReadyH.nil
            refine step_st (ty := 41) (V := cC 0 0 0 0 0 0) (C := cC c1 c2 c3 c4 c5 c6) (by rfl) (by rfl) (by rfl) (by rfl) (by exact CRd) size_C (by rfl) (one_C _ _ _ _ _ _) ?_
            intro va Ca da buta za
            have YRa := YRd.but buta YRd.lt (by omega)
            refine hK.out _ _ ⟨hHeld.1.but buta hHeld.1.lt (by omega), hHeld.2.1.but buta hHeld.2.1.lt (by omega), hHeld.2.2.trans (da _ (by omega))⟩ (fun hHeld => ?_)
            clear hK K
            try simp only [Act.put, List.setIfInBounds_toArray, List.set_cons_zero, List.set_cons_succ]
            refine wpAnyH_ready (rs := [3]) (by kernel_rfl) (by simp) ?_
            refine AllReadyH.cons (o := ({ dst := none, op := Op.store 43 (Operand.tmp 3) (Operand.tmp 58), type := 0, pos := _, after := #[{ on := 1, ground := Ground.data }, { on := 2, ground := Ground.chain }, { on := 0, ground := Ground.phase }, { on := 1, ground := Ground.phase }, { on := 2, ground := Ground.phase }], guard := none } : Oper)) rfl (fun K hK => ?_) AllReadyH.nil
            refine step_st (ty := 43) (V := kC (0, 0, 0)) (C := kC yk) (by rfl) (by rfl) (by rfl) (by rfl) (by exact YRa) size_K (by rfl) (one_K _) ?_
            intro vb Kb db butb zb
            have Cb := Ca.but butb Ca.lt (by omega)
            refine hK.out _ _ ⟨hHeld.1.but butb hHeld.1.lt (by omega), hHeld.2.1.but butb hHeld.2.1.lt (by omega), hHeld.2.2.trans (db _ (by omega))⟩ (fun hHeld => ?_)
            clear hK K
            try simp only [Act.put, List.setIfInBounds_toArray, List.set_cons_zero, List.set_cons_succ]
            refine wpAnyH_take (i := 4) (oi := ({ dst := some 4, op := Op.assign (Operand.const (Value.int IntKind.i64 0)), type := 28, pos := _, after := #[{ on := 3, ground := Ground.chain }, { on := 0, ground := Ground.phase }, { on := 1, ground := Ground.phase }, { on := 2, ground := Ground.phase }, { on := 3, ground := Ground.phase }], guard := none } : Oper)) (v := ?_) rfl (by kernel_rfl) (by kernel_rfl) (by kernel_rfl) (fun _ _ _ h => h) (Or.inl ⟨by rfl, ?_⟩) hHeld ?_
            rotate_left
            · (intro w hS; go_simp; try with_reducible rfl)
            try simp only [Act.put, List.setIfInBounds_toArray, List.set_cons_zero, List.set_cons_succ]
            refine wpAnyH_done (by kernel_rfl) ?_ _
            have Bb := hHeld.2.2
            go_wp2_with (with_reducible show bodyPost _ _ _ _ _ _; refine stop_here ?_)
            refine ⟨?_⟩
            refine bodyPost_ret (v := .tuple #[.agg (cC c1 c2 c3 c4 c5 c6), .agg (kC yk), .int .i64 0]) (results_cell2_tmp_row Tryd.results19 _ _ _ _ _ _ _ _ _ _ _ _ _ rfl rfl rfl Cb Kb Tryd.underlying41 rfl size_C Tryd.underlying43 rfl size_K) rfl ⟨HX.out, Bb⟩
          · have q1 : (eK != 0) = true := by simpa using hK
            have HX : Hid (Ending.returned (.tuple #[.agg (cC 0 0 0 0 0 0), .agg (kC (0, 0, 0)), .int .i64 eK]) = .returned (.tuple #[.agg (clC 5 L), .agg (kC (clK 5 L)), .int .i64 (clE 5 L)])) := cl_no HK1.out hK
            clear hK HK1 HYY
            go_wp2_with (first | (with_reducible show wpList _ _ _ (Oper.mk _ (Op.load 41 _) _ _ _ _ :: _) _ _; refine wpList_ld rfl rfl rfl (run_ldC (by with_reducible assumption)) ?_; (try simp only [Act.put, List.setIfInBounds_toArray, List.set_cons_zero, List.set_cons_succ, World.size_alloc])) | (with_reducible show wpList _ _ _ (Oper.mk _ (Op.load 43 _) _ _ _ _ :: _) _ _; refine wpList_ld rfl rfl rfl (run_ldK (by with_reducible assumption)) ?_; (try simp only [Act.put, List.setIfInBounds_toArray, List.set_cons_zero, List.set_cons_succ, World.size_alloc])) | (with_reducible show wpList _ _ _ (Oper.mk _ (Op.store 41 _ _) _ _ _ _ :: _) _ _; refine stop_here ?_))
            refine ⟨?_⟩
            refine wpList_st rfl rfl rfl rfl CR size_C rfl (by simp [Value.oneCell']) ?_
            intro wa Ka ba buta za
            have YRa := YR.but buta YR.lt (by omega)
            have Ba := B0.trans (ba _ (by omega))
            clear ba buta za
            go_wp2_with (first | (with_reducible show wpList _ _ _ (Oper.mk _ (Op.load 43 _) _ _ _ _ :: _) _ _; refine wpList_ld rfl rfl rfl (run_ldK (by with_reducible assumption)) ?_; (try simp only [Act.put, List.setIfInBounds_toArray, List.set_cons_zero, List.set_cons_succ, World.size_alloc])) | (with_reducible show wpList _ _ _ (Oper.mk _ (Op.store 43 _ _) _ _ _ _ :: _) _ _; refine stop_here ?_))
            refine ⟨?_⟩
            refine wpList_st rfl rfl rfl rfl YRa size_K rfl (by simp [Value.oneCell']) ?_
            intro wb Kb bb butb zb
            have Cb := Ka.but butb Ka.lt (by omega)
            have Bb := Ba.trans (bb _ (by omega))
            clear bb butb zb Ka YRa Ba
            go_wp2_with (with_reducible show bodyPost _ _ _ _ _ _; refine stop_here ?_)
            refine ⟨?_⟩
            refine bodyPost_ret (v := .tuple #[.agg (cC 0 0 0 0 0 0), .agg (kC (0, 0, 0)), .int .i64 (eK)]) (results_cell2_tmp_row Tryd.results19 _ _ _ _ _ _ _ _ _ _ _ _ _ rfl rfl rfl Cb Kb Tryd.underlying41 rfl size_C Tryd.underlying43 rfl size_K) rfl ⟨HX.out, Bb⟩
        · have q1 : (eT != 0) = true := by simpa using hT
          have q2 : (eT == 0) = false := by simpa using hT
          have HT1 : clE 5 L = eT := by first | exact HT.out rfl rfl hT | exact HT.out trivial trivial hT | exact (by simpa [Hid, hT] using HT)
          have HX : Hid (Ending.returned (.tuple #[.agg (cC 0 0 0 0 0 0), .agg (kC (0, 0, 0)), .int .i64 eT]) = .returned (.tuple #[.agg (clC 5 L), .agg (kC (clK 5 L)), .int .i64 (clE 5 L)])) := cl_no HT1 hT
          clear HN HT HK HRT HF HF2 HRK D1 D2 IX IY I1 I2 hT HT1 HYY
          go_upto_region 9 with (first | (with_reducible show wpList _ _ _ (Oper.mk _ (Op.load 60 _) _ _ _ _ :: _) _ _; refine wpList_ld rfl rfl rfl (run_ldI (by with_reducible assumption)) ?_; (try simp only [Act.put, List.setIfInBounds_toArray, List.set_cons_zero, List.set_cons_succ, World.size_alloc])) | (with_reducible show wpList _ _ _ (Oper.mk _ (Op.load 41 _) _ _ _ _ :: _) _ _; refine wpList_ld rfl rfl rfl (run_ldC (by with_reducible assumption)) ?_; (try simp only [Act.put, List.setIfInBounds_toArray, List.set_cons_zero, List.set_cons_succ, World.size_alloc])) | (with_reducible show wpList _ _ _ (Oper.mk _ (Op.load 43 _) _ _ _ _ :: _) _ _; refine wpList_ld rfl rfl rfl (run_ldK (by with_reducible assumption)) ?_; (try simp only [Act.put, List.setIfInBounds_toArray, List.set_cons_zero, List.set_cons_succ, World.size_alloc])))
          go_wp2_with (first | (with_reducible show wpList _ _ _ (Oper.mk _ (Op.load 41 _) _ _ _ _ :: _) _ _; refine wpList_ld rfl rfl rfl (run_ldC (by with_reducible assumption)) ?_; (try simp only [Act.put, List.setIfInBounds_toArray, List.set_cons_zero, List.set_cons_succ, World.size_alloc])) | (with_reducible show wpList _ _ _ (Oper.mk _ (Op.load 43 _) _ _ _ _ :: _) _ _; refine wpList_ld rfl rfl rfl (run_ldK (by with_reducible assumption)) ?_; (try simp only [Act.put, List.setIfInBounds_toArray, List.set_cons_zero, List.set_cons_succ, World.size_alloc])) | (with_reducible show wpList _ _ _ (Oper.mk _ (Op.store 41 _ _) _ _ _ _ :: _) _ _; refine stop_here ?_))
          refine ⟨?_⟩
          refine wpList_st rfl rfl rfl rfl CR size_C rfl (by simp [Value.oneCell']) ?_
          intro wa Ka ba buta za
          have YRa := YR.but buta YR.lt (by omega)
          have Ba := B0.trans (ba _ (by omega))
          clear ba buta za
          go_wp2_with (first | (with_reducible show wpList _ _ _ (Oper.mk _ (Op.load 43 _) _ _ _ _ :: _) _ _; refine wpList_ld rfl rfl rfl (run_ldK (by with_reducible assumption)) ?_; (try simp only [Act.put, List.setIfInBounds_toArray, List.set_cons_zero, List.set_cons_succ, World.size_alloc])) | (with_reducible show wpList _ _ _ (Oper.mk _ (Op.store 43 _ _) _ _ _ _ :: _) _ _; refine stop_here ?_))
          refine ⟨?_⟩
          refine wpList_st rfl rfl rfl rfl YRa size_K rfl (by simp [Value.oneCell']) ?_
          intro wb Kb bb butb zb
          have Cb := Ka.but butb Ka.lt (by omega)
          have Bb := Ba.trans (bb _ (by omega))
          clear bb butb zb Ka YRa Ba
          go_wp2_with (with_reducible show bodyPost _ _ _ _ _ _; refine stop_here ?_)
          refine ⟨?_⟩
          refine bodyPost_ret (v := .tuple #[.agg (cC 0 0 0 0 0 0), .agg (kC (0, 0, 0)), .int .i64 (eT)]) (results_cell2_tmp_row Tryd.results19 _ _ _ _ _ _ _ _ _ _ _ _ _ rfl rfl rfl Cb Kb Tryd.underlying41 rfl size_C Tryd.underlying43 rfl size_K) rfl ⟨HX.out, Bb⟩
  · have HX : Hid (clE k L = 12) := cl_kind hk
    have q1 : (k != 5) = true := by simpa using hk
    clear hk
    go_enter Tryd.func19, Tryd.ntmps19
    go_wp2_with (first | (with_reducible show wpList _ _ _ (Oper.mk _ (Op.load 41 _) _ _ _ _ :: _) _ _; refine wpList_ld rfl rfl rfl (run_ldC (by with_reducible assumption)) ?_; (try simp only [Act.put, List.setIfInBounds_toArray, List.set_cons_zero, List.set_cons_succ, World.size_alloc])) | (with_reducible show wpList _ _ _ (Oper.mk _ (Op.load 43 _) _ _ _ _ :: _) _ _; refine wpList_ld rfl rfl rfl (run_ldK (by with_reducible assumption)) ?_; (try simp only [Act.put, List.setIfInBounds_toArray, List.set_cons_zero, List.set_cons_succ, World.size_alloc])) | (with_reducible show wpList _ _ _ (Oper.mk _ (Op.store 41 _ _) _ _ _ _ :: _) _ _; refine stop_here ?_))
    refine ⟨?_⟩
    refine wpList_st rfl rfl rfl rfl CR size_C rfl (by simp [Value.oneCell']) ?_
    intro wa Ka ba buta za
    have YRa := YR.but buta YR.lt (by omega)
    have Ba := B0.trans (ba _ (by omega))
    clear ba buta za
    go_wp2_with (first | (with_reducible show wpList _ _ _ (Oper.mk _ (Op.load 43 _) _ _ _ _ :: _) _ _; refine wpList_ld rfl rfl rfl (run_ldK (by with_reducible assumption)) ?_; (try simp only [Act.put, List.setIfInBounds_toArray, List.set_cons_zero, List.set_cons_succ, World.size_alloc])) | (with_reducible show wpList _ _ _ (Oper.mk _ (Op.store 43 _ _) _ _ _ _ :: _) _ _; refine stop_here ?_))
    refine ⟨?_⟩
    refine wpList_st rfl rfl rfl rfl YRa size_K rfl (by simp [Value.oneCell']) ?_
    intro wb Kb bb butb zb
    have Cb := Ka.but butb Ka.lt (by omega)
    have Bb := Ba.trans (bb _ (by omega))
    clear bb butb zb Ka YRa Ba
    go_wp2_with (with_reducible show bodyPost _ _ _ _ _ _; refine stop_here ?_)
    refine ⟨?_⟩
    refine bodyPost_ret (v := .tuple #[.agg (cC 0 0 0 0 0 0), .agg (kC (0, 0, 0)), .int .i64 (12)]) (results_cell2_tmp_row Tryd.results19 _ _ _ _ _ _ _ _ _ _ _ _ _ rfl rfl rfl Cb Kb Tryd.underlying41 rfl size_C Tryd.underlying43 rfl size_K) rfl ⟨cl_no HX.out (by decide), Bb⟩

set_option maxHeartbeats 4000000 in
theorem refmcall_calls (r : Int) (b : Bool) (k : Int) (a : Option Addr) (n c : Nat) (L : List El) (w : World) {m0 : Nat} (hv : IsI m0 w a n L) (hm0 : m0 ≤ w.heap.size) (hn : n ≤ 1000) :
    Calls Tryd.prog 20 #[meV r b k a n c] w (ClAll k L w) := by
  have B0 : Below w.heap.size w (((w.alloc (.cells (meC r b k a n c) 24)).alloc (.cells (cC 0 0 0 0 0 0) 41)).alloc (.cells (kC (0, 0, 0)) 43)) := (((Below.refl _ w).alloc (Nat.le_refl _) _).alloc (by simp) _).alloc (by simp; omega) _
  have K0 : BK (((w.alloc (.cells (meC r b k a n c) 24)).alloc (.cells (cC 0 0 0 0 0 0) 41)).alloc (.cells (kC (0, 0, 0)) 43)) w.heap.size (meC r b k a n c) 24 := (me_box.alloc _).alloc _
  have CR : BK (((w.alloc (.cells (meC r b k a n c) 24)).alloc (.cells (cC 0 0 0 0 0 0) 41)).alloc (.cells (kC (0, 0, 0)) 43)) (w.heap.size + 1) (cC 0 0 0 0 0 0) 41 := by
    have := (bk_new (w.alloc (.cells (meC r b k a n c) 24)) (cC 0 0 0 0 0 0) 41).alloc (.cells (kC (0, 0, 0)) 43)
    rwa [World.size_alloc] at this
  have YR : BK (((w.alloc (.cells (meC r b k a n c) 24)).alloc (.cells (cC 0 0 0 0 0 0) 41)).alloc (.cells (kC (0, 0, 0)) 43)) (w.heap.size + 2) (kC (0, 0, 0)) 43 := by
    have := bk_new ((w.alloc (.cells (meC r b k a n c) 24)).alloc (.cells (cC 0 0 0 0 0 0) 41)) (kC (0, 0, 0)) 43
    rwa [World.size_alloc, World.size_alloc] at this
  by_cases hk : k = 5
  · subst hk
    obtain ⟨x, hx⟩ : ∃ x, fdX 89 L = x := ⟨_, rfl⟩
    obtain ⟨y, hy⟩ : ∃ y, fdX 90 L = y := ⟨_, rfl⟩
    obtain ⟨Bx, hBx⟩ : ∃ B, fdB 89 L = B := ⟨_, rfl⟩
    obtain ⟨By, hBy⟩ : ∃ B, fdB 90 L = B := ⟨_, rfl⟩
    have HF : Hid (∀ ww, Below w.heap.size w ww → Calls Tryd.prog 41 #[.slice a n c, .int .u8 ((89 : UInt8).toNat : Int)] ww fun e w' => ∃ (ai : Option Addr) (li ci : Nat), e = .returned (.tuple #[ieV x.id ai li ci, .bool Bx]) ∧ IsB m0 w' ai li x.body ∧ (ai = none → ci = 0) ∧ li ≤ ci ∧ Below ww.heap.size ww w') := fun ww hb => by
      have := reffd_all a n c L 89 ww (hv.below hb hm0) (Nat.le_trans hm0 hb.size) hn
      unfold FdAll at this
      rw [hx, hBx] at this
      exact this
    have HF2 : Hid (∀ ww, Below w.heap.size w ww → Calls Tryd.prog 41 #[.slice a n c, .int .u8 ((90 : UInt8).toNat : Int)] ww fun e w' => ∃ (ai : Option Addr) (li ci : Nat), e = .returned (.tuple #[ieV y.id ai li ci, .bool By]) ∧ IsB m0 w' ai li y.body ∧ (ai = none → ci = 0) ∧ li ≤ ci ∧ Below ww.heap.size ww w') := fun ww hb => by
      have := reffd_all a n c L 90 ww (hv.below hb hm0) (Nat.le_trans hm0 hb.size) hn
      unfold FdAll at this
      rw [hy, hBy] at this
      exact this
    have HN : Hid (Bx = false ∨ By = false → clE 5 L = 8) := fun h => cl_none (by rw [hBx, hBy]; exact h)
    have HT : Hid (Bx = true → By = true → rtE x ≠ 0 → clE 5 L = rtE x) := fun h1 h2 h => by rw [← hx]; exact cl_rt (hBx.trans h1) (hBy.trans h2) (by rw [hx]; exact h)
    have HK : Hid (Bx = true → By = true → rtE x = 0 → clE 5 L = (rkN y).2) := fun h1 h2 h => by rw [← hy]; exact cl_rk (hBx.trans h1) (hBy.trans h2) (by rw [hx]; exact h)
    have HY : Hid (∀ (C : Array Value) (ky : Ky), clE 5 L = 0 → rtC x = C → (rkN y).1 = ky → Ending.returned (.tuple #[.agg C, .agg (kC ky), .int .i64 0]) = .returned (.tuple #[.agg (clC 5 L), .agg (kC (clK 5 L)), .int .i64 (clE 5 L)])) := fun C ky h0 hc hk => cl_yes h0 (by rw [hx]; exact hc) (by rw [hy]; exact hk)
    obtain ⟨c1, c2, c3, c4, c5, c6, hc⟩ := rtC_six x
    obtain ⟨eT, heT⟩ : ∃ eT, rtE x = eT := ⟨_, rfl⟩
    obtain ⟨⟨yk, eK⟩, heK⟩ : ∃ u, rkN y = u := ⟨_, rfl⟩
    have HRT : Hid (∀ (ai : Option Addr) (li ci : Nat) (ww : World), IsB m0 ww ai li x.body → m0 ≤ ww.heap.size → li ≤ ci → Calls Tryd.prog 42 #[ieV x.id ai li ci] ww fun e w' => e = .returned (.tuple #[.agg (cC c1 c2 c3 c4 c5 c6), .int .i64 eT]) ∧ Below ww.heap.size ww w') := fun ai li ci ww h1 h2 h3 => by rw [← hc, ← heT]; exact refrt_calls x ai li ci ww h1 h2 h3
    have HRK : Hid (∀ (ai : Option Addr) (li ci : Nat) (ww : World), IsB m0 ww ai li y.body → m0 ≤ ww.heap.size → li ≤ ci → Calls Tryd.prog 43 #[ieV y.id ai li ci] ww fun e w' => e = .returned (.tuple #[.agg (kC yk), .int .i64 eK]) ∧ Below ww.heap.size ww w') := fun ai li ci ww h1 h2 h3 => by
      have := refrk_calls y ai li ci ww h1 h2 h3
      rw [heK] at this
      exact this
    rw [heT] at HT HK
    rw [heK] at HK HY
    rw [hc] at HY
    have HYY : Hid (clE 5 L = 0 → Ending.returned (.tuple #[.agg (cC c1 c2 c3 c4 c5 c6), .agg (kC yk), .int .i64 0]) = .returned (.tuple #[.agg (clC 5 L), .agg (kC (clK 5 L)), .int .i64 (clE 5 L)])) := fun h0 => HY.out _ _ h0 rfl rfl
    clear hx hy hBx hBy hv hc heT heK HY
    go_enter Tryd.func20, Tryd.ntmps20
    go_wp2_with fail
    refine (HF.out _ B0).mono ?_
    rintro e w1 ⟨ax, lx, cx, rfl, I1, _, lc1, b1⟩
    replace CR := CR.below b1 CR.lt
    replace YR := YR.below b1 YR.lt
    replace K0 := K0.below b1 K0.lt
    replace B0 := B0.trans (b1.mono B0.size)
    clear b1
    have hw1 : w.heap.size + 2 < w1.heap.size := YR.lt
    have D1 := Below.refl w.heap.size w1
    have A_ : Below w1.heap.size w1 (w1.alloc (.cells #[.int .u8 (x.id.toNat : Int), .slice ax lx cx] 60)) := (Below.refl _ w1).alloc (Nat.le_refl _) _
    have IX : BK (w1.alloc (.cells #[.int .u8 (x.id.toNat : Int), .slice ax lx cx] 60)) w1.heap.size #[.int .u8 (x.id.toNat : Int), .slice ax lx cx] 60 := bk_new w1 _ _
    replace CR := CR.below A_ CR.lt
    replace YR := YR.below A_ YR.lt
    replace K0 := K0.below A_ K0.lt
    replace D1 := D1.trans (A_.mono B0.size)
    replace B0 := B0.trans (A_.mono B0.size)
    clear A_
    have p3 := K0.cell 3 _ rfl
    go_wp2_with (first | (with_reducible show wpList _ _ _ (Oper.mk _ (Op.load 60 _) _ _ _ _ :: _) _ _; refine wpList_ld rfl rfl rfl (run_ldI (by with_reducible assumption)) ?_; (try simp only [Act.put, List.setIfInBounds_toArray, List.set_cons_zero, List.set_cons_succ, World.size_alloc])) | (with_reducible show wpList _ _ _ (Oper.mk _ (Op.load 41 _) _ _ _ _ :: _) _ _; refine wpList_ld rfl rfl rfl (run_ldC (by with_reducible assumption)) ?_; (try simp only [Act.put, List.setIfInBounds_toArray, List.set_cons_zero, List.set_cons_succ, World.size_alloc])) | (with_reducible show wpList _ _ _ (Oper.mk _ (Op.load 43 _) _ _ _ _ :: _) _ _; refine wpList_ld rfl rfl rfl (run_ldK (by with_reducible assumption)) ?_; (try simp only [Act.put, List.setIfInBounds_toArray, List.set_cons_zero, List.set_cons_succ, World.size_alloc])))
    refine (HF2.out _ B0).mono ?_
    rintro e w2 ⟨ay, ly, cy, rfl, I2, _, lc2, b2⟩
    replace CR := CR.below b2 CR.lt
    replace YR := YR.below b2 YR.lt
    replace K0 := K0.below b2 K0.lt
    replace IX := IX.below b2 IX.lt
    replace D1 := D1.trans (b2.mono B0.size)
    replace B0 := B0.trans (b2.mono B0.size)
    clear b2
    have hw2 : w.heap.size + 2 < w2.heap.size := YR.lt
    have D2 := Below.refl w.heap.size w2
    clear p3 K0
    have A_ : Below w2.heap.size w2 (w2.alloc (.cells #[.int .u8 (y.id.toNat : Int), .slice ay ly cy] 60)) := (Below.refl _ w2).alloc (Nat.le_refl _) _
    have IY : BK (w2.alloc (.cells #[.int .u8 (y.id.toNat : Int), .slice ay ly cy] 60)) w2.heap.size #[.int .u8 (y.id.toNat : Int), .slice ay ly cy] 60 := bk_new w2 _ _
    replace CR := CR.below A_ CR.lt
    replace YR := YR.below A_ YR.lt
    replace IX := IX.below A_ IX.lt
    replace D1 := D1.trans (A_.mono B0.size)
    replace D2 := D2.trans (A_.mono B0.size)
    replace B0 := B0.trans (A_.mono B0.size)
    clear A_
    cases Bx
    · have HX : Hid (clE 5 L = 8) := by first | exact HN.out (.inl rfl) | exact HN.out (by simp)
      clear HN HT HK HYY HRT HRK HF HF2 D1 D2 IX IY I1 I2
      go_wp2_with (first | (with_reducible show wpList _ _ _ (Oper.mk _ (Op.load 41 _) _ _ _ _ :: _) _ _; refine wpList_ld rfl rfl rfl (run_ldC (by with_reducible assumption)) ?_; (try simp only [Act.put, List.setIfInBounds_toArray, List.set_cons_zero, List.set_cons_succ, World.size_alloc])) | (with_reducible show wpList _ _ _ (Oper.mk _ (Op.load 43 _) _ _ _ _ :: _) _ _; refine wpList_ld rfl rfl rfl (run_ldK (by with_reducible assumption)) ?_; (try simp only [Act.put, List.setIfInBounds_toArray, List.set_cons_zero, List.set_cons_succ, World.size_alloc])) | (with_reducible show wpList _ _ _ (Oper.mk _ (Op.store 41 _ _) _ _ _ _ :: _) _ _; refine stop_here ?_))
      refine ⟨?_⟩
      refine wpList_st rfl rfl rfl rfl CR size_C rfl (by simp [Value.oneCell']) ?_
      intro wa Ka ba buta za
      have YRa := YR.but buta YR.lt (by omega)
      have Ba := B0.trans (ba _ (by omega))
      clear ba buta za
      go_wp2_with (first | (with_reducible show wpList _ _ _ (Oper.mk _ (Op.load 43 _) _ _ _ _ :: _) _ _; refine wpList_ld rfl rfl rfl (run_ldK (by with_reducible assumption)) ?_; (try simp only [Act.put, List.setIfInBounds_toArray, List.set_cons_zero, List.set_cons_succ, World.size_alloc])) | (with_reducible show wpList _ _ _ (Oper.mk _ (Op.store 43 _ _) _ _ _ _ :: _) _ _; refine stop_here ?_))
      refine ⟨?_⟩
      refine wpList_st rfl rfl rfl rfl YRa size_K rfl (by simp [Value.oneCell']) ?_
      intro wb Kb bb butb zb
      have Cb := Ka.but butb Ka.lt (by omega)
      have Bb := Ba.trans (bb _ (by omega))
      clear bb butb zb Ka YRa Ba
      go_wp2_with (with_reducible show bodyPost _ _ _ _ _ _; refine stop_here ?_)
      refine ⟨?_⟩
      refine bodyPost_ret (v := .tuple #[.agg (cC 0 0 0 0 0 0), .agg (kC (0, 0, 0)), .int .i64 (8)]) (results_cell2_tmp_row Tryd.results20 _ _ _ _ _ _ _ _ _ _ _ _ _ rfl rfl rfl Cb Kb Tryd.underlying41 rfl size_C Tryd.underlying43 rfl size_K) rfl ⟨cl_no HX.out (by decide), Bb⟩
    · cases By
      · have HX : Hid (clE 5 L = 8) := by first | exact HN.out (.inr rfl) | exact HN.out (by simp)
        clear HN HT HK HYY HRT HRK HF HF2 D1 D2 IX IY I1 I2
        go_wp2_with (first | (with_reducible show wpList _ _ _ (Oper.mk _ (Op.load 41 _) _ _ _ _ :: _) _ _; refine wpList_ld rfl rfl rfl (run_ldC (by with_reducible assumption)) ?_; (try simp only [Act.put, List.setIfInBounds_toArray, List.set_cons_zero, List.set_cons_succ, World.size_alloc])) | (with_reducible show wpList _ _ _ (Oper.mk _ (Op.load 43 _) _ _ _ _ :: _) _ _; refine wpList_ld rfl rfl rfl (run_ldK (by with_reducible assumption)) ?_; (try simp only [Act.put, List.setIfInBounds_toArray, List.set_cons_zero, List.set_cons_succ, World.size_alloc])) | (with_reducible show wpList _ _ _ (Oper.mk _ (Op.store 41 _ _) _ _ _ _ :: _) _ _; refine stop_here ?_))
        refine ⟨?_⟩
        refine wpList_st rfl rfl rfl rfl CR size_C rfl (by simp [Value.oneCell']) ?_
        intro wa Ka ba buta za
        have YRa := YR.but buta YR.lt (by omega)
        have Ba := B0.trans (ba _ (by omega))
        clear ba buta za
        go_wp2_with (first | (with_reducible show wpList _ _ _ (Oper.mk _ (Op.load 43 _) _ _ _ _ :: _) _ _; refine wpList_ld rfl rfl rfl (run_ldK (by with_reducible assumption)) ?_; (try simp only [Act.put, List.setIfInBounds_toArray, List.set_cons_zero, List.set_cons_succ, World.size_alloc])) | (with_reducible show wpList _ _ _ (Oper.mk _ (Op.store 43 _ _) _ _ _ _ :: _) _ _; refine stop_here ?_))
        refine ⟨?_⟩
        refine wpList_st rfl rfl rfl rfl YRa size_K rfl (by simp [Value.oneCell']) ?_
        intro wb Kb bb butb zb
        have Cb := Ka.but butb Ka.lt (by omega)
        have Bb := Ba.trans (bb _ (by omega))
        clear bb butb zb Ka YRa Ba
        go_wp2_with (with_reducible show bodyPost _ _ _ _ _ _; refine stop_here ?_)
        refine ⟨?_⟩
        refine bodyPost_ret (v := .tuple #[.agg (cC 0 0 0 0 0 0), .agg (kC (0, 0, 0)), .int .i64 (8)]) (results_cell2_tmp_row Tryd.results20 _ _ _ _ _ _ _ _ _ _ _ _ _ rfl rfl rfl Cb Kb Tryd.underlying41 rfl size_C Tryd.underlying43 rfl size_K) rfl ⟨cl_no HX.out (by decide), Bb⟩
      · go_wp2_with (first | (with_reducible show wpList _ _ _ (Oper.mk _ (Op.load 60 _) _ _ _ _ :: _) _ _; refine wpList_ld rfl rfl rfl (run_ldI (by with_reducible assumption)) ?_; (try simp only [Act.put, List.setIfInBounds_toArray, List.set_cons_zero, List.set_cons_succ, World.size_alloc])) | (with_reducible show wpList _ _ _ (Oper.mk _ (Op.load 41 _) _ _ _ _ :: _) _ _; refine wpList_ld rfl rfl rfl (run_ldC (by with_reducible assumption)) ?_; (try simp only [Act.put, List.setIfInBounds_toArray, List.set_cons_zero, List.set_cons_succ, World.size_alloc])) | (with_reducible show wpList _ _ _ (Oper.mk _ (Op.load 43 _) _ _ _ _ :: _) _ _; refine wpList_ld rfl rfl rfl (run_ldK (by with_reducible assumption)) ?_; (try simp only [Act.put, List.setIfInBounds_toArray, List.set_cons_zero, List.set_cons_succ, World.size_alloc])))
        refine (HRT.out ax lx cx _ (I1.below D1 hm0) (Nat.le_trans hm0 B0.size) lc1).mono ?_
        rintro e w3 ⟨rfl, b3⟩
        replace CR := CR.below b3 CR.lt
        replace YR := YR.below b3 YR.lt
        replace IX := IX.below b3 IX.lt
        replace IY := IY.below b3 IY.lt
        replace D1 := D1.trans (b3.mono B0.size)
        replace D2 := D2.trans (b3.mono B0.size)
        replace B0 := B0.trans (b3.mono B0.size)
        clear b3
        have hw3 : w.heap.size + 2 < w3.heap.size := YR.lt
        have A_ : Below w3.heap.size w3 (w3.alloc (.cells (cC c1 c2 c3 c4 c5 c6) 41)) := (Below.refl _ w3).alloc (Nat.le_refl _) _
        have TC : BK (w3.alloc (.cells (cC c1 c2 c3 c4 c5 c6) 41)) w3.heap.size (cC c1 c2 c3 c4 c5 c6) 41 := bk_new w3 _ _
        replace CR := CR.below A_ CR.lt
        replace YR := YR.below A_ YR.lt
        replace IX := IX.below A_ IX.lt
        replace IY := IY.below A_ IY.lt
        replace D1 := D1.trans (A_.mono B0.size)
        replace D2 := D2.trans (A_.mono B0.size)
        replace B0 := B0.trans (A_.mono B0.size)
        clear A_
        go_wp2_with (first | (with_reducible show wpList _ _ _ (Oper.mk _ (Op.load 60 _) _ _ _ _ :: _) _ _; refine wpList_ld rfl rfl rfl (run_ldI (by with_reducible assumption)) ?_; (try simp only [Act.put, List.setIfInBounds_toArray, List.set_cons_zero, List.set_cons_succ, World.size_alloc])) | (with_reducible show wpList _ _ _ (Oper.mk _ (Op.load 41 _) _ _ _ _ :: _) _ _; refine wpList_ld rfl rfl rfl (run_ldC (by with_reducible assumption)) ?_; (try simp only [Act.put, List.setIfInBounds_toArray, List.set_cons_zero, List.set_cons_succ, World.size_alloc])) | (with_reducible show wpList _ _ _ (Oper.mk _ (Op.load 43 _) _ _ _ _ :: _) _ _; refine wpList_ld rfl rfl rfl (run_ldK (by with_reducible assumption)) ?_; (try simp only [Act.put, List.setIfInBounds_toArray, List.set_cons_zero, List.set_cons_succ, World.size_alloc])))
        refine (HRK.out ay ly cy _ (I2.below D2 hm0) (Nat.le_trans hm0 B0.size) lc2).mono ?_
        rintro e w4 ⟨rfl, b4⟩
        replace CR := CR.below b4 CR.lt
        replace YR := YR.below b4 YR.lt
        replace IX := IX.below b4 IX.lt
        replace IY := IY.below b4 IY.lt
        replace TC := TC.below b4 TC.lt
        replace D1 := D1.trans (b4.mono B0.size)
        replace D2 := D2.trans (b4.mono B0.size)
        replace B0 := B0.trans (b4.mono B0.size)
        clear b4
        have hw4 : w.heap.size + 2 < w4.heap.size := YR.lt
        have A_ : Below w4.heap.size w4 (w4.alloc (.cells (kC yk) 43)) := (Below.refl _ w4).alloc (Nat.le_refl _) _
        have TK : BK (w4.alloc (.cells (kC yk) 43)) w4.heap.size (kC yk) 43 := bk_new w4 _ _
        replace CR := CR.below A_ CR.lt
        replace YR := YR.below A_ YR.lt
        replace IX := IX.below A_ IX.lt
        replace IY := IY.below A_ IY.lt
        replace TC := TC.below A_ TC.lt
        replace D1 := D1.trans (A_.mono B0.size)
        replace D2 := D2.trans (A_.mono B0.size)
        replace B0 := B0.trans (A_.mono B0.size)
        clear A_
        by_cases hT : eT = 0
        · subst hT
          have HK1 : Hid (clE 5 L = eK) := by first | exact HK.out rfl rfl rfl | exact HK.out trivial trivial trivial | exact (by simpa [Hid] using HK)
          clear HN HT HK HRT HF HF2
          clear HRK D1 D2 IX IY I1 I2
          by_cases hK : eK = 0
          · subst hK
            have HX : Hid (Ending.returned (.tuple #[.agg (cC c1 c2 c3 c4 c5 c6), .agg (kC yk), .int .i64 0]) = .returned (.tuple #[.agg (clC 5 L), .agg (kC (clK 5 L)), .int .i64 (clE 5 L)])) := HYY.out HK1.out
            clear HK1 HYY
            go_upto_region 13 with (first | (with_reducible show wpList _ _ _ (Oper.mk _ (Op.load 60 _) _ _ _ _ :: _) _ _; refine wpList_ld rfl rfl rfl (run_ldI (by with_reducible assumption)) ?_; (try simp only [Act.put, List.setIfInBounds_toArray, List.set_cons_zero, List.set_cons_succ, World.size_alloc])) | (with_reducible show wpList _ _ _ (Oper.mk _ (Op.load 41 _) _ _ _ _ :: _) _ _; refine wpList_ld rfl rfl rfl (run_ldC (by with_reducible assumption)) ?_; (try simp only [Act.put, List.setIfInBounds_toArray, List.set_cons_zero, List.set_cons_succ, World.size_alloc])) | (with_reducible show wpList _ _ _ (Oper.mk _ (Op.load 43 _) _ _ _ _ :: _) _ _; refine wpList_ld rfl rfl rfl (run_ldK (by with_reducible assumption)) ?_; (try simp only [Act.put, List.setIfInBounds_toArray, List.set_cons_zero, List.set_cons_succ, World.size_alloc])))
            generalize hwz : (w4.alloc (.cells (kC yk) 43)) = wz at *
            clear hwz
            have CRd := CR.drew
            have YRd := YR.drew
            have lY := YR.lt
            refine wp_region_held_drew (S := (fun w' => BK w' w3.heap.size (cC c1 c2 c3 c4 c5 c6) 41 ∧ BK w' w4.heap.size (kC yk) 43 ∧ Below w.heap.size w w')) (by kernel_rfl) ⟨TC.drew, TK.drew, B0.drew⟩ (fun hHeld => ?_)
            refine wpAnyH_take (i := 0) (oi := ({ dst := some 56, op := Op.load 41 (Operand.tmp 9), type := 41, pos := _, after := #[], guard := none } : Oper))  rfl (by kernel_rfl) (by kernel_rfl) (by kernel_rfl) (fun _ _ _ h => h) (yields_ld rfl rfl rfl (fun w hS => run_ldC hS.1)) hHeld ?_
            try simp only [Act.put, List.setIfInBounds_toArray, List.set_cons_zero, List.set_cons_succ]
            refine wpAnyH_take (i := 1) (oi := ({ dst := some 57, op := Op.load 43 (Operand.tmp 11), type := 43, pos := _, after := #[{ on := 2, ground := Ground.gcOnly Departure.lateStores }], guard := none } : Oper))  rfl (by kernel_rfl) (by kernel_rfl) (by kernel_rfl) (fun _ _ _ h => h) (yields_ld rfl rfl rfl (fun w hS => run_ldK hS.2.1)) hHeld ?_
            try simp only [Act.put, List.setIfInBounds_toArray, List.set_cons_zero, List.set_cons_succ]
            refine wpAnyH_ready (rs := [2]) (by kernel_rfl) (by simp) ?_
            refine AllReadyH.cons (o := ({ dst := none, op := Op.store 41 (Operand.tmp 2) (Operand.tmp 56), type := 0, pos := _, after := #[{ on := 0, ground := Ground.data }, { on := 0, ground := Ground.phase }, { on := 1, ground := Ground.textOnly Departure.lateStores }], guard := none } : Oper)) rfl (fun K hK => ?_) AllReadyH.nil
            refine step_st (ty := 41) (V := cC 0 0 0 0 0 0) (C := cC c1 c2 c3 c4 c5 c6) (by rfl) (by rfl) (by rfl) (by rfl) (by exact CRd) size_C (by rfl) (one_C _ _ _ _ _ _) ?_
            intro va Ca da buta za
            have YRa := YRd.but buta YRd.lt (by omega)
            refine hK.out _ _ ⟨hHeld.1.but buta hHeld.1.lt (by omega), hHeld.2.1.but buta hHeld.2.1.lt (by omega), hHeld.2.2.trans (da _ (by omega))⟩ (fun hHeld => ?_)
            clear hK K
            try simp only [Act.put, List.setIfInBounds_toArray, List.set_cons_zero, List.set_cons_succ]
            refine wpAnyH_ready (rs := [3]) (by kernel_rfl) (by simp) ?_
            refine AllReadyH.cons (o := ({ dst := none, op := Op.store 43 (Operand.tmp 3) (Operand.tmp 57), type := 0, pos := _, after := #[{ on := 1, ground := Ground.data }, { on := 2, ground := Ground.chain }, { on := 0, ground := Ground.phase }, { on := 1, ground := Ground.phase }, { on := 2, ground := Ground.phase }], guard := none } : Oper)) rfl (fun K hK => ?_) AllReadyH.nil
            refine step_st (ty := 43) (V := kC (0, 0, 0)) (C := kC yk) (by rfl) (by rfl) (by rfl) (by rfl) (by exact YRa) size_K (by rfl) (one_K _) ?_
            intro vb Kb db butb zb
            have Cb := Ca.but butb Ca.lt (by omega)
            refine hK.out _ _ ⟨hHeld.1.but butb hHeld.1.lt (by omega), hHeld.2.1.but butb hHeld.2.1.lt (by omega), hHeld.2.2.trans (db _ (by omega))⟩ (fun hHeld => ?_)
            clear hK K
            try simp only [Act.put, List.setIfInBounds_toArray, List.set_cons_zero, List.set_cons_succ]
            refine wpAnyH_take (i := 4) (oi := ({ dst := some 4, op := Op.assign (Operand.const (Value.int IntKind.i64 0)), type := 3, pos := _, after := #[{ on := 3, ground := Ground.chain }, { on := 0, ground := Ground.phase }, { on := 1, ground := Ground.phase }, { on := 2, ground := Ground.phase }, { on := 3, ground := Ground.phase }], guard := none } : Oper)) (v := ?_) rfl (by kernel_rfl) (by kernel_rfl) (by kernel_rfl) (fun _ _ _ h => h) (Or.inl ⟨by rfl, ?_⟩) hHeld ?_
            rotate_left
            · (intro w hS; go_simp; try with_reducible rfl)
            try simp only [Act.put, List.setIfInBounds_toArray, List.set_cons_zero, List.set_cons_succ]
            refine wpAnyH_done (by kernel_rfl) ?_ _
            have Bb := hHeld.2.2
            go_wp2_with (with_reducible show bodyPost _ _ _ _ _ _; refine stop_here ?_)
            refine ⟨?_⟩
            refine bodyPost_ret (v := .tuple #[.agg (cC c1 c2 c3 c4 c5 c6), .agg (kC yk), .int .i64 0]) (results_cell2_tmp_row Tryd.results20 _ _ _ _ _ _ _ _ _ _ _ _ _ rfl rfl rfl Cb Kb Tryd.underlying41 rfl size_C Tryd.underlying43 rfl size_K) rfl ⟨HX.out, Bb⟩
          · have q1 : (eK != 0) = true := by simpa using hK
            have HX : Hid (Ending.returned (.tuple #[.agg (cC 0 0 0 0 0 0), .agg (kC (0, 0, 0)), .int .i64 eK]) = .returned (.tuple #[.agg (clC 5 L), .agg (kC (clK 5 L)), .int .i64 (clE 5 L)])) := cl_no HK1.out hK
            clear hK HK1 HYY
            go_wp2_with (first | (with_reducible show wpList _ _ _ (Oper.mk _ (Op.load 41 _) _ _ _ _ :: _) _ _; refine wpList_ld rfl rfl rfl (run_ldC (by with_reducible assumption)) ?_; (try simp only [Act.put, List.setIfInBounds_toArray, List.set_cons_zero, List.set_cons_succ, World.size_alloc])) | (with_reducible show wpList _ _ _ (Oper.mk _ (Op.load 43 _) _ _ _ _ :: _) _ _; refine wpList_ld rfl rfl rfl (run_ldK (by with_reducible assumption)) ?_; (try simp only [Act.put, List.setIfInBounds_toArray, List.set_cons_zero, List.set_cons_succ, World.size_alloc])) | (with_reducible show wpList _ _ _ (Oper.mk _ (Op.store 41 _ _) _ _ _ _ :: _) _ _; refine stop_here ?_))
            refine ⟨?_⟩
            refine wpList_st rfl rfl rfl rfl CR size_C rfl (by simp [Value.oneCell']) ?_
            intro wa Ka ba buta za
            have YRa := YR.but buta YR.lt (by omega)
            have Ba := B0.trans (ba _ (by omega))
            clear ba buta za
            go_wp2_with (first | (with_reducible show wpList _ _ _ (Oper.mk _ (Op.load 43 _) _ _ _ _ :: _) _ _; refine wpList_ld rfl rfl rfl (run_ldK (by with_reducible assumption)) ?_; (try simp only [Act.put, List.setIfInBounds_toArray, List.set_cons_zero, List.set_cons_succ, World.size_alloc])) | (with_reducible show wpList _ _ _ (Oper.mk _ (Op.store 43 _ _) _ _ _ _ :: _) _ _; refine stop_here ?_))
            refine ⟨?_⟩
            refine wpList_st rfl rfl rfl rfl YRa size_K rfl (by simp [Value.oneCell']) ?_
            intro wb Kb bb butb zb
            have Cb := Ka.but butb Ka.lt (by omega)
            have Bb := Ba.trans (bb _ (by omega))
            clear bb butb zb Ka YRa Ba
            go_wp2_with (with_reducible show bodyPost _ _ _ _ _ _; refine stop_here ?_)
            refine ⟨?_⟩
            refine bodyPost_ret (v := .tuple #[.agg (cC 0 0 0 0 0 0), .agg (kC (0, 0, 0)), .int .i64 (eK)]) (results_cell2_tmp_row Tryd.results20 _ _ _ _ _ _ _ _ _ _ _ _ _ rfl rfl rfl Cb Kb Tryd.underlying41 rfl size_C Tryd.underlying43 rfl size_K) rfl ⟨HX.out, Bb⟩
        · have q1 : (eT != 0) = true := by simpa using hT
          have q2 : (eT == 0) = false := by simpa using hT
          have HT1 : clE 5 L = eT := by first | exact HT.out rfl rfl hT | exact HT.out trivial trivial hT | exact (by simpa [Hid, hT] using HT)
          have HX : Hid (Ending.returned (.tuple #[.agg (cC 0 0 0 0 0 0), .agg (kC (0, 0, 0)), .int .i64 eT]) = .returned (.tuple #[.agg (clC 5 L), .agg (kC (clK 5 L)), .int .i64 (clE 5 L)])) := cl_no HT1 hT
          clear HN HT HK HRT HF HF2 HRK D1 D2 IX IY I1 I2 hT HT1 HYY
          go_wp2_with (first | (with_reducible show wpList _ _ _ (Oper.mk _ (Op.load 41 _) _ _ _ _ :: _) _ _; refine wpList_ld rfl rfl rfl (run_ldC (by with_reducible assumption)) ?_; (try simp only [Act.put, List.setIfInBounds_toArray, List.set_cons_zero, List.set_cons_succ, World.size_alloc])) | (with_reducible show wpList _ _ _ (Oper.mk _ (Op.load 43 _) _ _ _ _ :: _) _ _; refine wpList_ld rfl rfl rfl (run_ldK (by with_reducible assumption)) ?_; (try simp only [Act.put, List.setIfInBounds_toArray, List.set_cons_zero, List.set_cons_succ, World.size_alloc])) | (with_reducible show wpList _ _ _ (Oper.mk _ (Op.store 41 _ _) _ _ _ _ :: _) _ _; refine stop_here ?_))
          refine ⟨?_⟩
          refine wpList_st rfl rfl rfl rfl CR size_C rfl (by simp [Value.oneCell']) ?_
          intro wa Ka ba buta za
          have YRa := YR.but buta YR.lt (by omega)
          have Ba := B0.trans (ba _ (by omega))
          clear ba buta za
          go_wp2_with (first | (with_reducible show wpList _ _ _ (Oper.mk _ (Op.load 43 _) _ _ _ _ :: _) _ _; refine wpList_ld rfl rfl rfl (run_ldK (by with_reducible assumption)) ?_; (try simp only [Act.put, List.setIfInBounds_toArray, List.set_cons_zero, List.set_cons_succ, World.size_alloc])) | (with_reducible show wpList _ _ _ (Oper.mk _ (Op.store 43 _ _) _ _ _ _ :: _) _ _; refine stop_here ?_))
          refine ⟨?_⟩
          refine wpList_st rfl rfl rfl rfl YRa size_K rfl (by simp [Value.oneCell']) ?_
          intro wb Kb bb butb zb
          have Cb := Ka.but butb Ka.lt (by omega)
          have Bb := Ba.trans (bb _ (by omega))
          clear bb butb zb Ka YRa Ba
          go_wp2_with (with_reducible show bodyPost _ _ _ _ _ _; refine stop_here ?_)
          refine ⟨?_⟩
          refine bodyPost_ret (v := .tuple #[.agg (cC 0 0 0 0 0 0), .agg (kC (0, 0, 0)), .int .i64 (eT)]) (results_cell2_tmp_row Tryd.results20 _ _ _ _ _ _ _ _ _ _ _ _ _ rfl rfl rfl Cb Kb Tryd.underlying41 rfl size_C Tryd.underlying43 rfl size_K) rfl ⟨HX.out, Bb⟩
  · have HX : Hid (clE k L = 12) := cl_kind hk
    have q1 : (k != 5) = true := by simpa using hk
    clear hk
    go_enter Tryd.func20, Tryd.ntmps20
    go_wp2_with (first | (with_reducible show wpList _ _ _ (Oper.mk _ (Op.load 41 _) _ _ _ _ :: _) _ _; refine wpList_ld rfl rfl rfl (run_ldC (by with_reducible assumption)) ?_; (try simp only [Act.put, List.setIfInBounds_toArray, List.set_cons_zero, List.set_cons_succ, World.size_alloc])) | (with_reducible show wpList _ _ _ (Oper.mk _ (Op.load 43 _) _ _ _ _ :: _) _ _; refine wpList_ld rfl rfl rfl (run_ldK (by with_reducible assumption)) ?_; (try simp only [Act.put, List.setIfInBounds_toArray, List.set_cons_zero, List.set_cons_succ, World.size_alloc])) | (with_reducible show wpList _ _ _ (Oper.mk _ (Op.store 41 _ _) _ _ _ _ :: _) _ _; refine stop_here ?_))
    refine ⟨?_⟩
    refine wpList_st rfl rfl rfl rfl CR size_C rfl (by simp [Value.oneCell']) ?_
    intro wa Ka ba buta za
    have YRa := YR.but buta YR.lt (by omega)
    have Ba := B0.trans (ba _ (by omega))
    clear ba buta za
    go_wp2_with (first | (with_reducible show wpList _ _ _ (Oper.mk _ (Op.load 43 _) _ _ _ _ :: _) _ _; refine wpList_ld rfl rfl rfl (run_ldK (by with_reducible assumption)) ?_; (try simp only [Act.put, List.setIfInBounds_toArray, List.set_cons_zero, List.set_cons_succ, World.size_alloc])) | (with_reducible show wpList _ _ _ (Oper.mk _ (Op.store 43 _ _) _ _ _ _ :: _) _ _; refine stop_here ?_))
    refine ⟨?_⟩
    refine wpList_st rfl rfl rfl rfl YRa size_K rfl (by simp [Value.oneCell']) ?_
    intro wb Kb bb butb zb
    have Cb := Ka.but butb Ka.lt (by omega)
    have Bb := Ba.trans (bb _ (by omega))
    clear bb butb zb Ka YRa Ba
    go_wp2_with (with_reducible show bodyPost _ _ _ _ _ _; refine stop_here ?_)
    refine ⟨?_⟩
    refine bodyPost_ret (v := .tuple #[.agg (cC 0 0 0 0 0 0), .agg (kC (0, 0, 0)), .int .i64 (12)]) (results_cell2_tmp_row Tryd.results20 _ _ _ _ _ _ _ _ _ _ _ _ _ rfl rfl rfl Cb Kb Tryd.underlying41 rfl size_C Tryd.underlying43 rfl size_K) rfl ⟨cl_no HX.out (by decide), Bb⟩
end Go.Proofs.YtbjeljmnknibnaaDoor
