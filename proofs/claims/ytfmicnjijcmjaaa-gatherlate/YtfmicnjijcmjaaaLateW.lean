/- Proved here: the walk of GatherLate. Conditions: as each theorem states them. -/
import Derived.Test.YtfmicnjijcmjaaaLateS
namespace Go.Proofs.Ytfmicnjijcmjaaa
set_option linter.unusedSimpArgs false
set_option linter.unusedVariables false
open Go.RowKit Go.Shelf
attribute [local go_sem] Oper.semAt_some

set_option maxHeartbeats 8000000 in
set_option maxRecDepth 100000 in
theorem late_in (a : Option Addr) (la ca : Nat) (xa : List UInt8) (b : Option Addr) (lb cb : Nat) (xb : List UInt8) (cut wt : Int) (tick : Bool) (w : World) (hc0 : 0 ≤ cut) (hc1 : cut ≤ 255) (hw0 : 0 ≤ wt) (hw1 : wt ≤ 65535)
    (ha : IsB w.heap.size w a la xa) (na : a = none → ca = 0) (hb : IsB w.heap.size w b lb xb) (nb : b = none → cb = 0) (hbc : lb ≤ cb) (h1 : 40 < la) (h2 : la ≤ 1000) (h3 : 0 < lb) (h4 : lb ≤ 1000) :
    CallsIn Fence.wide 3 Try.prog 5 #[.slice a la ca, .slice b lb cb, .int .u8 cut, .int .u16 wt, .bool tick] w fun e w' => e = .returned (.bool true) ∧ Below w.heap.size w w' := by
  have d1 : decide (1000 < (la : Int)) = false := by simp; omega
  have d2 : decide (1000 < (lb : Int)) = false := by simp; omega
  have d3 : decide ((la : Int) ≤ 40) = false := by simp; omega
  have d4 : ((lb : Int) == 0) = false := by rw [beq_eq_false_iff_ne]; omega
  refine callsIn_of_wp_marks Try.func5 rfl trivial ?_ rfl
  refine wpIn_wide.2 (wp_calm ?_)
  simp only [Try.ntmps5, List.size_toArray, List.length_cons, List.length_nil, Nat.reduceAdd, Nat.reduceSub, Array.replicate_succ, Array.replicate_zero, List.push_toArray, List.append_toArray, List.nil_append, List.cons_append]
  obtain ⟨M0, B0, z0⟩ := late_boxes w b lb cb
  go_wp2_with fail
  generalize (w.alloc (.cells #[.slice b lb cb] 32)).alloc (.cells #[.bool false] 4) = W0 at *
  refine (awake_calls _).mono ?_
  rintro e w1 ⟨rfl, b1⟩
  have M1 := M0.below b1 (Nat.le_refl _)
  have B1 := B0.trans (b1.mono B0.size)
  have s1 := b1.size
  clear b1 M0 B0
  have kb := M1 (w.heap.size, .slice b lb cb, 32) (by simp)
  have c0 := kb.cell 0 _ rfl
  go_wp2_with fail
  have A2 : Below w1.heap.size w1 (w1.alloc (.cells #[.int .i64 (1 + wt)] 3)) := (Below.refl _ w1).alloc (Nat.le_refl _) _
  have M2 := BX.cons (e := (w1.heap.size, .int .i64 (1 + wt), 3)) (bk_new w1 #[.int .i64 (1 + wt)] 3) (M1.below A2 (Nat.le_refl _))
  have B2 := B1.trans (A2.mono B1.size)
  have s2 : (w1.alloc (.cells #[.int .i64 (1 + wt)] 3)).heap.size = w1.heap.size + 1 := by simp
  generalize w1.alloc (.cells #[.int .i64 (1 + wt)] 3) = W2 at *
  clear c0 kb M1 A2
  generalize w1.heap.size = xw at *
  refine (gnew_calls (1 + wt) W2).mono ?_
  rintro e w3 ⟨rfl, g3, b3⟩
  have M3 := M2.below b3 (Nat.le_refl _)
  have B3 := B2.trans (b3.mono B2.size)
  have hr3 : W2.heap.size < w3.heap.size := g3.x.lt _ rfl
  have hs2 : w.heap.size + 3 ≤ W2.heap.size := by omega
  have hxw1 : w.heap.size + 2 ≤ xw := by omega
  have hxw2 : xw < W2.heap.size := by omega
  clear M2 b3 B1 B2 s1 s2
  generalize W2.heap.size = r at *
  go_wp2_with fail
  have A4 : Below w3.heap.size w3 (w3.alloc (.cells #[.pointer (some ⟨r, 0, none⟩)] 24)) := (Below.refl _ w3).alloc (Nat.le_refl _) _
  have M4 := BX.cons (e := (w3.heap.size, .pointer (some ⟨r, 0, none⟩), 24)) (bk_new w3 #[.pointer (some ⟨r, 0, none⟩)] 24) (M3.below A4 (Nat.le_refl _))
  have B4 := B3.trans (A4.mono B3.size)
  have g4 := g3.below A4 (Nat.le_refl _)
  have s4 : (w3.alloc (.cells #[.pointer (some ⟨r, 0, none⟩)] 24)).heap.size = w3.heap.size + 1 := by simp
  generalize w3.alloc (.cells #[.pointer (some ⟨r, 0, none⟩)] 24) = W4 at *
  clear M3 B3 A4 g3
  generalize w3.heap.size = xg at *
  have HP := pack_calls a la ca xa 1 W4 (ha.below B4 (Nat.le_refl _)) B4.size na (by omega) h2
  rw [show (((1 : UInt8)).toNat : Int) = 1 from rfl] at HP
  refine HP.mono ?_
  rintro e w5 ⟨ap, cp, rfl, o5, b5⟩
  have M5 := M4.below b5 (Nat.le_refl _)
  have B5 := B4.trans (b5.mono B4.size)
  have g5 := g4.below b5 (Nat.le_refl _)
  have s5 := b5.size
  have c0 := M5.get (b := w.heap.size) (v := .slice b lb cb) (t := 32) (by simp)
  clear HP M4 B4 g4 b5
  go_wp2_with fail
  have HP := pack_calls b lb cb xb 2 w5 (hb.below B5 (Nat.le_refl _)) B5.size nb (by omega) h4
  rw [show (((2 : UInt8)).toNat : Int) = 2 from rfl] at HP
  refine HP.mono ?_
  rintro e w6 ⟨aq, cq, rfl, o6, b6⟩
  have M6 := M5.below b6 (Nat.le_refl _)
  have B6 := B5.trans (b6.mono B5.size)
  have g6 := g5.below b6 (Nat.le_refl _)
  have p6 := o5.below b6 (Nat.le_refl _)
  have s6 := b6.size
  clear HP M5 B5 g5 b6 o5 c0
  -- the numbers
  have hM1 := many_eq (n := la) (by omega)
  obtain ⟨M, hM⟩ : ∃ M, manyN la = M := ⟨_, rfl⟩
  obtain ⟨Mq, hMq⟩ : ∃ Mq, manyN lb = Mq := ⟨_, rfl⟩
  have hMq1 := many_eq (n := lb) (by omega)
  rw [hM] at hM1 p6
  rw [hMq] at hMq1 o6
  have m1 : 2 ≤ M := by omega
  have m2 : M ≤ 21 := by omega
  have m3 : 1 ≤ Mq := by omega
  have m4 : Mq ≤ 21 := by omega
  have LA : Hid (la = xa.length) := ha.1
  have LB : Hid (lb = xb.length) := hb.1
  clear hM1 hMq1
  obtain ⟨k, hk⟩ : ∃ k : Nat, cut = (k : Int) := ⟨cut.toNat, by omega⟩
  subst hk
  have hn : IntKind.i64.wrap (k : Int) = (k : Int) := by rw [IntKind.wrap_i64]; omega
  have e1 : ((48 * M : Nat) : Int) / 48 = (M : Int) := by omega
  have e3 : (k : Int).tmod ((M : Int) - 1) = ((k % (M - 1) : Nat) : Int) := by
    rw [show (M : Int) - 1 = ((M - 1 : Nat) : Int) by omega]; rfl
  obtain ⟨n, hnn⟩ : ∃ n, 1 + k % (M - 1) = n := ⟨_, rfl⟩
  have hmod : k % (M - 1) < M - 1 := Nat.mod_lt _ (by omega)
  have n1 : 1 ≤ n := by omega
  have n2 : n < M := by omega
  have e5 : wrap64 (48 * (n : Int)) = 48 * (n : Int) := wrap64_id (by omega) (by omega)
  have cpl := p6.isB.2.2
  have e6 : 48 * n ≤ cp := by omega
  have e7 : (0 : Int) ≤ 48 * (n : Int) := by omega
  have e8 : 48 * (n : Int) ≤ (cp : Int) := by omega
  have e9 : (48 * (n : Int)).toNat = 48 * n := by omega
  have e4 : wrap64 (1 + (k : Int) % ((M - 1 : Nat) : Int)) = (n : Int) := by
    rw [← Int.natCast_emod]; unfold wrap64; omega
  have HN : Hid (1 ≤ n ∧ n < M) := ⟨n1, n2⟩
  clear hnn hmod n1 n2
  go_wp2_with fail
  rw [e4]
  clear e4 e5 e7 e8 e9 e1 e3 hn
  have pI := p6.isB
  have pL := frame_len (t := xa) 1 (by have := LA.out; omega)
  rw [← LA.out, hM] at pL
  have nn6 := pI.2.1
  have zl : ((frameN xa 1).take (48 * n)).length = 48 * n := by rw [List.length_take]; have := HN.out; omega
  refine (cells_calls ap (48 * n) cp _ w6 (pI.1.take (48 * n) (by rw [pL]; have := HN.out; omega)) (Nat.le_refl _) nn6 (by have := HN.out; omega)).mono ?_
  rintro e w7 ⟨Bp, gq, a7, c7, rfl, hBp, hc7, hg1, hg2, hG, b7⟩
  have M7 := M6.below b7 (Nat.le_refl _)
  have B7 := B6.trans (b7.mono B6.size)
  have g7 := g6.below b7 (Nat.le_refl _)
  have q7 := o6.below b7 (Nat.le_refl _)
  have s7 := b7.size
  clear M6 B6 g6 b7 o6 p6 pI nn6
  go_wp2
  rename_i KK hKK
  have hr7 : r < w5.heap.size := by omega
  have HUB : Hid (unpackN (frameN xb 2) = (xb, 2, 0)) := unpack_frame 2 (by have := LB.out; omega) (by have := LB.out; omega)
  have qL := frame_len (t := xb) 2 (by have := LB.out; omega)
  rw [← LB.out, hMq] at qL
  refine (wpIn_wide (n := 3)).1 ?_
  have hxg : ∀ e ∈ ([(xg, .pointer (some ⟨r, 0, none⟩), 24), (xw, .int .i64 (1 + wt), 3), (w.heap.size, .slice b lb cb, 32), (w.heap.size + 1, .bool false, 4)] : List (Nat × Value × TypeId)), ¬ e.1 = r := by
    simp only [List.mem_cons, List.not_mem_nil, or_false]
    rintro e (rfl | rfl | rfl | rfl) <;> (dsimp only; omega)
  refine range_feed 75 76 18 none (F0 := fun k => k = r) (E := fun _ => False) rfl hBp hG hc7 hg2 (by have := HN.out; omega) g7 (fun k h => h.elim) (fun k h => h.elim) (by show ¬ gq = r; omega) (fun h => h) rfl
    (fun j S _ => At S (frameN xa 1) j 5 0 ∧ S.w = 1 + wt) (fun j S _ => S.l ≤ 2 * j) same_own same_own (fun _ _ _ _ h => h) (fun _ _ _ _ h => h) ⟨At.nil rfl rfl rfl, rfl⟩ (Nat.zero_le _) ?assign ?body ?done
  case assign =>
    intro l ck Lx W K hcl hK
    (simp only [feedT, List.setIfInBounds_toArray, List.set_cons_zero, List.set_cons_succ] at hK; gi_wp2_with (with_reducible show wpListIn _ _ _ _ _ (Oper.mk _ (Op.alloc 28) _ _ _ _ :: _) _ _; revert hcl); intro hcl; refine wpListIn_def rfl rfl rfl rfl rfl rfl zero40 (by rw [size24, payV_size, hcl]) (by rw [payV_size, payV_size, hcl]; simp [zer]) (payV_one _) ?_; (try simp only [Act.put, List.setIfInBounds_toArray, List.set_cons_zero, List.set_cons_succ, World.size_alloc]); generalize W.alloc (.cells (payV ck) 28) = WA at *; gi_wp2; exact hK)
  case body =>
    intro l pre x ck Lx W S Bx hck _ hl hlo hF hY hX hBx bX hcl hlt
    have hMW := M7.fi hF (fun e he => ⟨hxg e he, fun h => h⟩)
    have kg := hMW.get (b := xg) (v := .pointer (some ⟨r, 0, none⟩)) (t := 24) (by simp)
    rw [zl] at hlt
    have HN1 := HN.out
    have HT := hF.take (fun k h => h.elim) w7.heap.size (by omega) 5 (by decide) (by decide) ck hcl false
    have hld := run_ld24 W Bx _ _ bX hcl
    have HY' : Hid ((S.take 5 ck false).1.l ≤ 2 * (pre.length + 1)) := by show _ ≤ _; have := S.take_l 5 ck false; omega
    have HX' : Hid ((pre ++ [x]).map (·.1) = List.range (pre ++ [x]).length → At (S.take 5 ck false).1 (frameN xa 1) (pre.length + 1) 5 0 ∧ (S.take 5 ck false).1.w = 1 + wt) := by
      intro h
      obtain ⟨h1, h2⟩ := order_next h
      obtain ⟨hx1, hx2⟩ := hX h1
      have hxl : pre.length < n := by omega
      rw [hck, h2, chunk_take hxl]
      exact ⟨(hx1.step pL (by omega) m2).1, by rw [Ga.take_w]; exact hx2⟩
    have HLN : Hid ((pre ++ [x]).length = pre.length + 1) := by show _ = _; simp
    obtain ⟨u, hu⟩ : ∃ u, S.take 5 ck false = u := ⟨_, rfl⟩
    rw [hu] at HT HY' HX'
    clear hu hX hY hck
    simp only [feedT, List.setIfInBounds_toArray, List.set_cons_zero, List.set_cons_succ]
    gi_wp2_with (with_reducible show wpListIn _ _ _ _ _ (Oper.mk _ (Op.load 28 _) _ _ _ _ :: _) _ _; revert hld)
    intro hld
    refine wpListIn_ld rfl rfl rfl hld ?_
    (try simp only [Act.put, List.setIfInBounds_toArray, List.set_cons_zero, List.set_cons_succ, World.size_alloc])
    clear hld
    gi_wp2_with fail
    refine ⟨trivial, ?_⟩
    gi_at_call 15
    refine (CallsIn.inRound l (callsIn_wide.2 HT)).mono ?_
    rintro e W4 ⟨⟨a4, c4, rfl, o4⟩, hF4, hK4, hS4, _⟩
    have HKQ : Hid (Kq gq W W4) := hF.kq hF4 hS4 hg2 (by show ¬ gq = r; omega) (fun h => h)
    clear HT kg
    gi_wp2
    exact ⟨hK4, HKQ.out, u.1, hF4, by rw [HLN.out]; exact HY'.out, fun h => by rw [HLN.out]; exact HX'.out h⟩
  case done =>
    intro D1 W S hD1 hF hXn hd1
    rw [zl, Nat.mul_div_cancel_left _ (by decide)] at hXn
    obtain ⟨hAt, hw⟩ := hXn
    obtain ⟨HN1, HN2⟩ := HN.out
    obtain ⟨x1, f1, l1⟩ := hAt.some (by omega)
    have k1 := hAt.k
    obtain ⟨F0, g0, _, k8⟩ := hF.after
    obtain ⟨F1, g8, hs8, hc8⟩ := g0.shrink
    have hF8 : ∀ k, F1 k → k = r ∨ w7.heap.size ≤ k := fun k hk => by
      rcases k8.new k (.inl (hs8 k hk)) with (e | e) | e
      · exact .inl e
      · exact e.elim
      · exact .inr e
    have M8 := M7.fi hF (fun e he => ⟨hxg e he, fun h => h⟩)
    have hqlt : ∀ y, aq = some y → y.block < w7.heap.size := fun y e => (q7.lt y.block (by rw [e]; rfl)).2
    have q8 : OwnB w5.heap.size W aq (48 * Mq) cq (frameN xb 2) := ownB_keep q7 (fun y e => k8.block y.block (q7.lt y.block (by rw [e]; rfl)).2 (fun h => by
      rcases h with h | h
      · have := (q7.lt y.block (by rw [e]; rfl)).1; omega
      · exact h))
    have B8 : Below w.heap.size w W := B7.trans (hF.bel (fun k (e : k = r) => by omega) (fun k h => h.elim) B7.size)
    have hD1F : ¬ F1 D1 := not_cells hc8 hd1 rfl
    have xl : S.xs.length = 48 * n := by rw [x1, List.length_take, pL]; omega
    have hPt := gparts_calls g8 (p := n) (by rw [xl]; omega)
    have hT1 := gtick_no g8 (by omega) (5 + (1 + wt) - 1) (by omega) (by omega) (Ga.late_soon (by rw [f1, hw, waitN_id (by omega) (by omega)]; omega))
    have kg := M8.get (b := xg) (v := .pointer (some ⟨r, 0, none⟩)) (t := 24) (by simp)
    have kw := M8.get (b := xw) (v := .int .i64 (1 + wt)) (t := 3) (by simp)
    have s8 := hF.size
    have HLS : Hid (S.l = 0) := l1
    have HW1 : Hid (S.w = 1 + wt) := hw
    have HF5 : Hid (S.f = 5) := f1
    have HXL : Hid (S.xs.length = 48 * n) := xl
    have HK1 : Hid (S.k = false) := k1
    refine hKK _ _ ?_
    clear hF hAt x1 l1 hw f1 xl k1 g0 hs8 hc8 hKK q7 k8
    have hnn : ((n : Int) != (n : Int)) = false := by simp
    have hnF : ∀ e ∈ ([(xg, .pointer (some ⟨r, 0, none⟩), 24), (xw, .int .i64 (1 + wt), 3), (w.heap.size, .slice b lb cb, 32), (w.heap.size + 1, .bool false, 4)] : List (Nat × Value × TypeId)), ¬ F1 e.1 := by
      intro e he hF
      have h1 := hxg e he
      have h2 := M7.lt e he
      rcases hF8 _ hF with h | h
      · exact h1 h
      · omega
    have hFlo : ∀ k, F1 k → w.heap.size ≤ k := fun k hk => by rcases hF8 k hk with e | e <;> omega
    have hqF : ∀ y, aq = some y → ¬ F1 y.block := fun y e hF => by
      have h5 := (q8.lt y.block (by rw [e]; rfl)).1
      have h6 : y.block < w7.heap.size := hqlt y e
      rcases hF8 _ hF with h | h <;> omega
    go_wp2_with fail
    refine hPt.mono ?_
    rintro e W2' ⟨rfl, e9⟩
    rw [e9]; clear e9 hPt
    go_wp2_with fail
    refine hT1.mono ?_
    rintro e WB ⟨rfl, g10, k10⟩
    have M10 := M8.ft k10 hnF
    have B10 := B8.trans (k10.below hFlo B8.size)
    have d10 : WB.heap[D1]? = some (.deferred (some [])) := (k10.block D1 (Array.getElem?_eq_some_iff.1 hd1).1 hD1F).trans hd1
    have q10 : OwnB w5.heap.size WB aq (48 * Mq) cq (frameN xb 2) := ownB_keep q8 (fun y e => k10.block y.block (q8.lt y.block (by rw [e]; rfl)).2 (hqF y e))
    have hPt := gparts_calls g10 (p := n) (by rw [HXL.out]; omega)
    clear hT1 kg kw g8 M8 B8 hd1 q8 k10
    have kg := M10.get (b := xg) (v := .pointer (some ⟨r, 0, none⟩)) (t := 24) (by simp)
    have kw := M10.get (b := xw) (v := .int .i64 (1 + wt)) (t := 3) (by simp)
    go_wp2_with fail
    refine hPt.mono ?_
    rintro e W2' ⟨rfl, e9⟩
    rw [e9]; clear e9 hPt
    cases tick with
    | false =>
      have hAt9 : At S (frameN xb 2) 0 (5 + (1 + wt)) 1 := At.late HK1.out (by rw [HXL.out]; omega) (by rw [HF5.out, HW1.out, waitN_id (by omega) (by omega)]; omega) (by rw [HLS.out])
      have hl9 : S.l ≤ 1 + 2 * 0 := by have := HLS.out; omega
      have g9 := g10
      have M9 := M10
      have B9 := B10
      have d9 := d10
      have q9 := q10
      have hF9 := hF8
      clear g10 M10 B10 d10 q10
      go_wp2_with fail

      -- the second frame, from the world WB on
      have qI := q9.isB
      refine (cells_calls aq (48 * Mq) cq _ WB qI.1 (Nat.le_refl _) qI.2.1 (by omega)).mono ?_
      rintro e wA ⟨Bp2, gq2, a9, c9, rfl, hBp2, hc9, hg3, hg4, hG2, bA⟩
      have MA := M9.below bA (Nat.le_refl _)
      have BA := B9.trans (bA.mono B9.size)
      have gA := g9.below bA (Nat.le_refl _)
      have dA : wA.heap[D1]? = some (.deferred (some [])) := (bA.block D1 (Array.getElem?_eq_some_iff.1 d9).1).trans d9
      have sA := bA.size
      have hFA : ∀ k, F1 k → k = r ∨ w7.heap.size ≤ k := hF9
      have hF9lt : ∀ k, F1 k → k < WB.heap.size := g9.x.lt
      clear M9 B9 g9 d9 bA q9 qI hF9
      go_wp2
      rename_i KK2 hKK2
      refine (wpIn_wide (n := 3)).1 ?_
      have hnb : ∀ e ∈ ([(xg, .pointer (some ⟨r, 0, none⟩), 24), (xw, .int .i64 (1 + wt), 3), (w.heap.size, .slice b lb cb, 32), (w.heap.size + 1, .bool false, 4)] : List (Nat × Value × TypeId)), ¬ F1 e.1 := by
        intro e he hF
        have h1 := hxg e he
        have h2 := M7.lt e he
        rcases hFA _ hF with h | h
        · exact h1 h
        · omega
      refine range_feed 118 119 19 (some 20) (F0 := F1) (E := fun _ => False) rfl hBp2 hG2 hc9 hg4 (by omega) gA (fun k h => h.elim) (fun k h => h.elim) (fun h => by have := hF9lt _ h; omega) (fun h => h) rfl
        (fun j S _ => FeedX (frameN xb 2) Mq (5 + (1 + wt)) 1 1 j S) (fun j S _ => S.l ≤ 1 + 2 * j) same_own same_own (fun _ _ _ _ h => h) (fun _ _ _ _ h => h) ⟨fun _ => hAt9, fun h => by omega⟩ hl9 ?assign ?body ?done
      case assign =>
        intro l ck Lx W K hcl hK
        (simp only [feedT, List.setIfInBounds_toArray, List.set_cons_zero, List.set_cons_succ] at hK; gi_wp2_with (with_reducible show wpListIn _ _ _ _ _ (Oper.mk _ (Op.alloc 28) _ _ _ _ :: _) _ _; revert hcl); intro hcl; refine wpListIn_def rfl rfl rfl rfl rfl rfl zero40 (by rw [size24, payV_size, hcl]) (by rw [payV_size, payV_size, hcl]; simp [zer]) (payV_one _) ?_; (try simp only [Act.put, List.setIfInBounds_toArray, List.set_cons_zero, List.set_cons_succ, World.size_alloc]); generalize W.alloc (.cells (payV ck) 28) = WA at *; gi_wp2; exact hK)
      case body =>
        intro l pre x ck Lx W S Bx hck hLx hl hlo hF hY hX hBx bX hcl hlt
        have hMW := MA.fi hF (fun e he => ⟨hnb e he, fun h => h⟩)
        have kg := hMW.get (b := xg) (v := .pointer (some ⟨r, 0, none⟩)) (t := 24) (by simp)
        have kw := hMW.get (b := xw) (v := .int .i64 (1 + wt)) (t := 3) (by simp)
        rw [qL, Nat.mul_div_cancel_left _ (by decide)] at hlt
        have HT := hF.take (fun k h => h.elim) wA.heap.size (by omega) (5 + (1 + wt)) (by omega) (by omega) ck hcl Lx
        have hld := run_ld24 W Bx _ _ bX hcl
        have HY' : Hid ((S.take (5 + (1 + wt)) ck Lx).1.l ≤ 1 + 2 * (pre.length + 1)) := by show _ ≤ _; have := S.take_l (5 + (1 + wt)) ck Lx; omega
        have htx : (S.take (5 + (1 + wt)) ck Lx).2.1.length ≤ 1008 := by obtain ⟨F', gg, _, _⟩ := hF.ex; exact Ga.take_text gg.fit _ _ _ hcl
        have HX' : (pre ++ [x]).map (·.1) = List.range (pre ++ [x]).length → FeedX (frameN xb 2) Mq (5 + (1 + wt)) 1 1 (pre.length + 1) (S.take (5 + (1 + wt)) ck Lx).1 ∧ (S.take (5 + (1 + wt)) ck Lx).2 = (if pre.length + 1 = Mq then (xb, 2, 0) else ([], 0, 2)) ∧ Lx = decide (pre.length + 1 = Mq) := by
          intro h
          obtain ⟨h1, h2⟩ := order_next h
          rw [h2] at hck hLx
          rw [hck, hLx]
          exact (hX h1).next qL m4 HUB.out rfl hlt
        have HLN : Hid ((pre ++ [x]).length = pre.length + 1) := by show _ = _; simp
        obtain ⟨u, hu⟩ : ∃ u, S.take (5 + (1 + wt)) ck Lx = u := ⟨_, rfl⟩
        rw [hu] at HT HY' HX' htx
        clear hu hX hY hck hLx
        have mid : ¬ (pre.length + 1 = Mq ∧ u.2 = (xb, 2, 0)) → Lx = true → ¬ (pre ++ [x]).map (·.1) = List.range (pre ++ [x]).length := by
          intro h1 h2 h3
          obtain ⟨_, h5, h6⟩ := HX' h3
          rw [h2] at h6
          have h7 : pre.length + 1 = Mq := of_decide_eq_true h6.symm
          rw [if_pos h7] at h5
          exact h1 ⟨h7, h5⟩
        have HXI : Hid ((pre ++ [x]).map (·.1) = List.range (pre ++ [x]).length → FeedX (frameN xb 2) Mq (5 + (1 + wt)) 1 1 (pre.length + 1) u.1) := fun h => (HX' h).1
        clear HX'
        simp only [feedT, List.setIfInBounds_toArray, List.set_cons_zero, List.set_cons_succ]
        gi_wp2_with (with_reducible show wpListIn _ _ _ _ _ (Oper.mk _ (Op.load 28 _) _ _ _ _ :: _) _ _; revert hld)
        intro hld
        refine wpListIn_ld rfl rfl rfl hld ?_
        (try simp only [Act.put, List.setIfInBounds_toArray, List.set_cons_zero, List.set_cons_succ, World.size_alloc])
        clear hld
        gi_wp2_with fail
        refine ⟨trivial, ?_⟩
        gi_at_call 15
        refine (CallsIn.inRound l (callsIn_wide.2 HT)).mono ?_
        rintro e W4 ⟨⟨a4, c4, rfl, o4⟩, hF4, hK4, hS4, _⟩
        have HKQ : Hid (Kq gq2 W W4) := hF.kq hF4 hS4 hg4 (fun h => by have := hF9lt _ h; omega) (fun h => h)
        have HI : Hid (feedI (zs := frameN xb 2) wA F1 (fun _ => False) r (fun j S _ => FeedX (frameN xb 2) Mq (5 + (1 + wt)) 1 1 j S) (fun j S _ => S.l ≤ 1 + 2 * j) (pre ++ [x]) W4) := ⟨u.1, hF4, by show u.1.l ≤ 1 + 2 * (pre ++ [x]).length; rw [HLN.out]; exact HY'.out, fun h => by show FeedX _ _ _ _ _ (pre ++ [x]).length _; rw [HLN.out]; exact HXI.out h⟩
        have HK4 : Hid (KeepsFrom wA.heap.size W W4) := hK4
        have hM4 := MA.fi hF4 (fun e he => ⟨hnb e he, fun h => h⟩)
        have rs := hM4.get (b := w.heap.size + 1) (v := .bool false) (t := 4) (by simp)
        have rf := hM4.fz (b := w.heap.size + 1) (v := .bool false) (t := 4) (by simp)
        have bs := hM4.get (b := w.heap.size) (v := .slice b lb cb) (t := 32) (by simp)
        have HKR : Hid (KeepsFrom wA.heap.size W (W4.setCell ⟨w.heap.size + 1, 0, none⟩ (.bool false))) := hK4.trans ((KeepsOthers.setCell _ _ _).from _)
        have hBW : Below w.heap.size w W4 := BA.trans (hF4.bel (fun k hk => by rcases hFA k hk with e | e <;> omega) (fun k h => h.elim) BA.size)
        have o4' : IsB W4.heap.size W4 a4 u.2.1.length u.2.1 := o4.isB.1
        clear HT kg kw hF4 hK4 hM4 o4 hF hMW
        obtain ⟨S', tx, mk, kk⟩ := u
        dsimp only at mid htx o4' ⊢
        cases Lx with
        | false =>
          clear mid
          gi_wp2
          all_goals first
            | (rename_i hu hu2; exact absurd (Option.some.inj hu) (by simp [undef]))
            | (refine ⟨trivial, ?_⟩; gi_wp2; all_goals first | exact ⟨HK4.out, HKQ.out, HI.out⟩ | (rename_i hu hu2; exact absurd (Option.some.inj hu) (by simp [undef])))
        | true =>
          by_cases hk0 : kk = 0
          · subst hk0
            by_cases hm2 : mk = 2
            · subst hm2
              rw [show (((2 : UInt8)).toNat : Int) = 2 from rfl]
              have SC := same_calls a4 b tx.length c4 lb cb tx xb W4 o4' (hb.below hBW (Nat.le_refl _)) (Nat.le_refl _) hBW.size (by omega)
              gi_wp2_with fail
              refine ⟨trivial, ?_⟩
              gi_at_call 17
              refine (CallsIn.inRound l (callsIn_wide.2 SC)).mono ?_
              rintro e W5 ⟨rfl, b5⟩
              have rs5 : W5.cell? ⟨w.heap.size + 1, 0, none⟩ = some (.bool false) := (b5.cell (p := ⟨w.heap.size + 1, 0, none⟩) (World.block_lt_of_cell? W4 ⟨w.heap.size + 1, 0, none⟩ rs)).trans rs
              have HK5 : Hid (KeepsFrom wA.heap.size W W5) := HK4.out.trans (Ft.keeps (F := fun _ => False) (F' := fun _ => False) (Ft.of b5 (Nat.le_refl _)) (fun k h => h.elim) _)
              have HQ5 : Hid (Kq gq2 W W5) := ⟨Nat.le_trans HKQ.out.size b5.size, (b5.block gq2 (Nat.lt_of_lt_of_le hg4 (by obtain ⟨S9, h9, _, _⟩ := HI.out; exact h9.size))).trans HKQ.out.block⟩
              have HI5 : Hid (feedI (zs := frameN xb 2) wA F1 (fun _ => False) r (fun j S _ => FeedX (frameN xb 2) Mq (5 + (1 + wt)) 1 1 j S) (fun j S _ => S.l ≤ 1 + 2 * j) (pre ++ [x]) W5) := by
                obtain ⟨S9, h9, h10, h11⟩ := HI.out
                exact ⟨S9, h9.below b5 (Nat.le_refl _), h10, h11⟩
              have rf5 : W5.frozen? ⟨w.heap.size + 1, 0, none⟩ = false := (World.frozen?_of_block (a := ⟨w.heap.size + 1, 0, none⟩) (b5.block _ (World.block_lt_of_cell? W4 ⟨w.heap.size + 1, 0, none⟩ rs))).trans rf
              have HKR5 : Hid (KeepsFrom wA.heap.size W (W5.setCell ⟨w.heap.size + 1, 0, none⟩ (.bool false))) := HK5.out.trans ((KeepsOthers.setCell _ _ _).from _)
              obtain ⟨sm, hsm⟩ : ∃ sm, (tx == xb) = sm := ⟨_, rfl⟩
              rw [hsm]
              clear SC b5 rs rf bs hBW o4'
              cases sm with
              | true =>
                clear mid hsm
                gi_wp2
                exact ⟨HK5.out, HQ5.out, HI5.out⟩
              | false =>
                have mid2 := mid (fun h => by have := h.2; simp only [Prod.mk.injEq] at this; rw [this.1] at hsm; simp at hsm) (by first | rfl | trivial)
                clear mid hsm
                gi_wp2
                exact ⟨HKR5.out, rfl, mid2⟩
            · have hm3 : ((mk.toNat : Int) != 2) = true := by
                rw [bne_iff_ne]; intro h; apply hm2; apply UInt8.toNat_inj.1; show mk.toNat = 2; omega
              have mid2 := mid (fun h => by have := h.2; simp only [Prod.mk.injEq] at this; exact hm2 this.2.1) (by first | rfl | trivial)
              clear mid hm2
              gi_wp2
              refine ⟨trivial, ?_⟩
              gi_wp2
              exact ⟨HKR.out, rfl, mid2⟩
          · have hk1 : ((kk : Int) != 0) = true := by rw [bne_iff_ne]; omega
            have mid2 := mid (fun h => by have := h.2; simp only [Prod.mk.injEq] at this; exact hk0 this.2.2) (by first | rfl | trivial)
            clear mid hk0
            gi_wp2
            refine ⟨trivial, ?_⟩
            gi_wp2
            exact ⟨HKR.out, rfl, mid2⟩
      case done =>
        intro D2 W S hD2 hF hX hd2
        rw [qL, Nat.mul_div_cancel_left _ (by decide)] at hX
        obtain ⟨hX1, _, _⟩ := hX.2 rfl
        obtain ⟨FF, gF, _, _⟩ := hF.after
        have hMW := MA.fi hF (fun e he => ⟨hnb e he, fun h => h⟩)
        have kg := hMW.get (b := xg) (v := .pointer (some ⟨r, 0, none⟩)) (t := 24) (by simp)
        have rb := hMW.bk (b := w.heap.size + 1) (v := .bool false) (t := 4) (by simp)
        have rs := rb.cell 0 _ rfl
        have rf := rb.frozen 0
        have rb2 : BK (W.setCell ⟨w.heap.size + 1, 0, none⟩ (.bool true)) (w.heap.size + 1) #[.bool true] 4 := rb.set 0 (.bool true)
        have hBW : Below w.heap.size w W := BA.trans (hF.bel (fun k hk => by rcases hFA k hk with e | e <;> omega) (fun k h => h.elim) BA.size)
        have dW : W.heap[D1]? = some (.deferred (some [])) := hF.obj dA hD1F (fun h => h)
        have hL := glost_calls gF hX1
        have hD1lt : D1 < wA.heap.size := (Array.getElem?_eq_some_iff.1 dA).1
        have hne1 : D1 ≠ w.heap.size + 1 := by omega
        have hne2 : D2 ≠ w.heap.size + 1 := by omega
        have HD : Hid (∀ D ∈ [D2, D1], (W.setCell ⟨w.heap.size + 1, 0, none⟩ (.bool true)).heap[D]? = some (.deferred (some []))) := by
          intro D hD
          simp only [List.mem_cons, List.not_mem_nil, or_false] at hD
          rcases hD with rfl | rfl
          · exact (Below.heap_setCell _ _ _ _ hne2).trans hd2
          · exact (Below.heap_setCell _ _ _ _ hne1).trans dW
        have HB : Hid (Below w.heap.size w (W.setCell ⟨w.heap.size + 1, 0, none⟩ (.bool true))) := hBW.setCell (p := ⟨w.heap.size + 1, 0, none⟩) (by show w.heap.size ≤ w.heap.size + 1; omega) _
        refine hKK2 _ _ ?_
        clear hKK2 hF hX gF hd2 dW hBW
        go_wp2_with fail
        refine hL.mono ?_
        rintro e W9 ⟨rfl, e9⟩
        rw [e9]; clear e9 hL
        go_wp2
        refine fin_marks 3 _ [D2, D1] _ w w.heap.size (w.heap.size + 1) ?_ (by simp; omega) HD.out (fun D hD => by simp only [List.mem_cons, List.not_mem_nil, or_false] at hD; rcases hD with rfl | rfl <;> omega) rb2 HB.out
        intro W' hb'
        have c3 := hb'.cell 0 _ rfl
        simp [results, Try.results5, go_sem, c3]

    | true =>
      have hT2 := gtick_yes g10 (by have := HLS.out; omega) (5 + (1 + wt)) (by omega) (by omega) (Ga.late_yes (by rw [HXL.out]; omega) (by rw [HF5.out, HW1.out, waitN_id (by omega) (by omega)]; omega))
      go_wp2_with fail
      refine hT2.mono ?_
      rintro e WC ⟨rfl, g11, k11⟩
      have M11 := M10.ft k11 hnF
      have B11 := B10.trans (k11.below hFlo B10.size)
      have d11 : WC.heap[D1]? = some (.deferred (some [])) := (k11.block D1 (Array.getElem?_eq_some_iff.1 d10).1 hD1F).trans d10
      have q11 : OwnB w5.heap.size WC aq (48 * Mq) cq (frameN xb 2) := ownB_keep q10 (fun y e => k11.block y.block (q10.lt y.block (by rw [e]; rfl)).2 (hqF y e))
      have hPt := gparts_calls g11 (p := 0) (by show ([] : List UInt8).length / 48 = 0; rfl)
      clear hT2 kg kw g10 M10 B10 d10 q10 k11
      have kg := M11.get (b := xg) (v := .pointer (some ⟨r, 0, none⟩)) (t := 24) (by simp)
      have kw := M11.get (b := xw) (v := .int .i64 (1 + wt)) (t := 3) (by simp)
      go_wp2_with fail
      refine hPt.mono ?_
      rintro e W2' ⟨rfl, e9⟩
      rw [e9]; clear e9 hPt
      have hT3 := gtick_no g11 (by have := HLS.out; show S.l + 1 ≤ _; omega) (5 + (1 + wt)) (by omega) (by omega) (Ga.late_zero _ rfl)
      go_wp2_with fail
      refine hT3.mono ?_
      rintro e WD ⟨rfl, g12, k12⟩
      have M9 := M11.ft k12 hnF
      have B9 := B11.trans (k12.below hFlo B11.size)
      have d9 : WD.heap[D1]? = some (.deferred (some [])) := (k12.block D1 (Array.getElem?_eq_some_iff.1 d11).1 hD1F).trans d11
      have q9 : OwnB w5.heap.size WD aq (48 * Mq) cq (frameN xb 2) := ownB_keep q11 (fun y e => k12.block y.block (q11.lt y.block (by rw [e]; rfl)).2 (hqF y e))
      have hAt9 : At S.lose (frameN xb 2) 0 (5 + (1 + wt)) 1 := At.nil HK1.out rfl (by show S.l + 1 = 1; rw [HLS.out])
      have hl9 : S.lose.l ≤ 1 + 2 * 0 := by have := HLS.out; show S.l + 1 ≤ _; omega
      have g9 := g12
      have hF9 := hF8
      clear hT3 kg kw g11 g12 M11 B11 d11 q11 k12
      go_wp2_with fail

      -- the second frame, from the world WD on
      have qI := q9.isB
      refine (cells_calls aq (48 * Mq) cq _ WD qI.1 (Nat.le_refl _) qI.2.1 (by omega)).mono ?_
      rintro e wA ⟨Bp2, gq2, a9, c9, rfl, hBp2, hc9, hg3, hg4, hG2, bA⟩
      have MA := M9.below bA (Nat.le_refl _)
      have BA := B9.trans (bA.mono B9.size)
      have gA := g9.below bA (Nat.le_refl _)
      have dA : wA.heap[D1]? = some (.deferred (some [])) := (bA.block D1 (Array.getElem?_eq_some_iff.1 d9).1).trans d9
      have sA := bA.size
      have hFA : ∀ k, F1 k → k = r ∨ w7.heap.size ≤ k := hF9
      have hF9lt : ∀ k, F1 k → k < WD.heap.size := g9.x.lt
      clear M9 B9 g9 d9 bA q9 qI hF9
      go_wp2
      rename_i KK2 hKK2
      refine (wpIn_wide (n := 3)).1 ?_
      have hnb : ∀ e ∈ ([(xg, .pointer (some ⟨r, 0, none⟩), 24), (xw, .int .i64 (1 + wt), 3), (w.heap.size, .slice b lb cb, 32), (w.heap.size + 1, .bool false, 4)] : List (Nat × Value × TypeId)), ¬ F1 e.1 := by
        intro e he hF
        have h1 := hxg e he
        have h2 := M7.lt e he
        rcases hFA _ hF with h | h
        · exact h1 h
        · omega
      refine range_feed 118 119 19 (some 20) (F0 := F1) (E := fun _ => False) rfl hBp2 hG2 hc9 hg4 (by omega) gA (fun k h => h.elim) (fun k h => h.elim) (fun h => by have := hF9lt _ h; omega) (fun h => h) rfl
        (fun j S _ => FeedX (frameN xb 2) Mq (5 + (1 + wt)) 1 1 j S) (fun j S _ => S.l ≤ 1 + 2 * j) same_own same_own (fun _ _ _ _ h => h) (fun _ _ _ _ h => h) ⟨fun _ => hAt9, fun h => by omega⟩ hl9 ?assign ?body ?done
      case assign =>
        intro l ck Lx W K hcl hK
        (simp only [feedT, List.setIfInBounds_toArray, List.set_cons_zero, List.set_cons_succ] at hK; gi_wp2_with (with_reducible show wpListIn _ _ _ _ _ (Oper.mk _ (Op.alloc 28) _ _ _ _ :: _) _ _; revert hcl); intro hcl; refine wpListIn_def rfl rfl rfl rfl rfl rfl zero40 (by rw [size24, payV_size, hcl]) (by rw [payV_size, payV_size, hcl]; simp [zer]) (payV_one _) ?_; (try simp only [Act.put, List.setIfInBounds_toArray, List.set_cons_zero, List.set_cons_succ, World.size_alloc]); generalize W.alloc (.cells (payV ck) 28) = WA at *; gi_wp2; exact hK)
      case body =>
        intro l pre x ck Lx W S Bx hck hLx hl hlo hF hY hX hBx bX hcl hlt
        have hMW := MA.fi hF (fun e he => ⟨hnb e he, fun h => h⟩)
        have kg := hMW.get (b := xg) (v := .pointer (some ⟨r, 0, none⟩)) (t := 24) (by simp)
        have kw := hMW.get (b := xw) (v := .int .i64 (1 + wt)) (t := 3) (by simp)
        rw [qL, Nat.mul_div_cancel_left _ (by decide)] at hlt
        have HT := hF.take (fun k h => h.elim) wA.heap.size (by omega) (5 + (1 + wt)) (by omega) (by omega) ck hcl Lx
        have hld := run_ld24 W Bx _ _ bX hcl
        have HY' : Hid ((S.take (5 + (1 + wt)) ck Lx).1.l ≤ 1 + 2 * (pre.length + 1)) := by show _ ≤ _; have := S.take_l (5 + (1 + wt)) ck Lx; omega
        have htx : (S.take (5 + (1 + wt)) ck Lx).2.1.length ≤ 1008 := by obtain ⟨F', gg, _, _⟩ := hF.ex; exact Ga.take_text gg.fit _ _ _ hcl
        have HX' : (pre ++ [x]).map (·.1) = List.range (pre ++ [x]).length → FeedX (frameN xb 2) Mq (5 + (1 + wt)) 1 1 (pre.length + 1) (S.take (5 + (1 + wt)) ck Lx).1 ∧ (S.take (5 + (1 + wt)) ck Lx).2 = (if pre.length + 1 = Mq then (xb, 2, 0) else ([], 0, 2)) ∧ Lx = decide (pre.length + 1 = Mq) := by
          intro h
          obtain ⟨h1, h2⟩ := order_next h
          rw [h2] at hck hLx
          rw [hck, hLx]
          exact (hX h1).next qL m4 HUB.out rfl hlt
        have HLN : Hid ((pre ++ [x]).length = pre.length + 1) := by show _ = _; simp
        obtain ⟨u, hu⟩ : ∃ u, S.take (5 + (1 + wt)) ck Lx = u := ⟨_, rfl⟩
        rw [hu] at HT HY' HX' htx
        clear hu hX hY hck hLx
        have mid : ¬ (pre.length + 1 = Mq ∧ u.2 = (xb, 2, 0)) → Lx = true → ¬ (pre ++ [x]).map (·.1) = List.range (pre ++ [x]).length := by
          intro h1 h2 h3
          obtain ⟨_, h5, h6⟩ := HX' h3
          rw [h2] at h6
          have h7 : pre.length + 1 = Mq := of_decide_eq_true h6.symm
          rw [if_pos h7] at h5
          exact h1 ⟨h7, h5⟩
        have HXI : Hid ((pre ++ [x]).map (·.1) = List.range (pre ++ [x]).length → FeedX (frameN xb 2) Mq (5 + (1 + wt)) 1 1 (pre.length + 1) u.1) := fun h => (HX' h).1
        clear HX'
        simp only [feedT, List.setIfInBounds_toArray, List.set_cons_zero, List.set_cons_succ]
        gi_wp2_with (with_reducible show wpListIn _ _ _ _ _ (Oper.mk _ (Op.load 28 _) _ _ _ _ :: _) _ _; revert hld)
        intro hld
        refine wpListIn_ld rfl rfl rfl hld ?_
        (try simp only [Act.put, List.setIfInBounds_toArray, List.set_cons_zero, List.set_cons_succ, World.size_alloc])
        clear hld
        gi_wp2_with fail
        refine ⟨trivial, ?_⟩
        gi_at_call 15
        refine (CallsIn.inRound l (callsIn_wide.2 HT)).mono ?_
        rintro e W4 ⟨⟨a4, c4, rfl, o4⟩, hF4, hK4, hS4, _⟩
        have HKQ : Hid (Kq gq2 W W4) := hF.kq hF4 hS4 hg4 (fun h => by have := hF9lt _ h; omega) (fun h => h)
        have HI : Hid (feedI (zs := frameN xb 2) wA F1 (fun _ => False) r (fun j S _ => FeedX (frameN xb 2) Mq (5 + (1 + wt)) 1 1 j S) (fun j S _ => S.l ≤ 1 + 2 * j) (pre ++ [x]) W4) := ⟨u.1, hF4, by show u.1.l ≤ 1 + 2 * (pre ++ [x]).length; rw [HLN.out]; exact HY'.out, fun h => by show FeedX _ _ _ _ _ (pre ++ [x]).length _; rw [HLN.out]; exact HXI.out h⟩
        have HK4 : Hid (KeepsFrom wA.heap.size W W4) := hK4
        have hM4 := MA.fi hF4 (fun e he => ⟨hnb e he, fun h => h⟩)
        have rs := hM4.get (b := w.heap.size + 1) (v := .bool false) (t := 4) (by simp)
        have rf := hM4.fz (b := w.heap.size + 1) (v := .bool false) (t := 4) (by simp)
        have bs := hM4.get (b := w.heap.size) (v := .slice b lb cb) (t := 32) (by simp)
        have HKR : Hid (KeepsFrom wA.heap.size W (W4.setCell ⟨w.heap.size + 1, 0, none⟩ (.bool false))) := hK4.trans ((KeepsOthers.setCell _ _ _).from _)
        have hBW : Below w.heap.size w W4 := BA.trans (hF4.bel (fun k hk => by rcases hFA k hk with e | e <;> omega) (fun k h => h.elim) BA.size)
        have o4' : IsB W4.heap.size W4 a4 u.2.1.length u.2.1 := o4.isB.1
        clear HT kg kw hF4 hK4 hM4 o4 hF hMW
        obtain ⟨S', tx, mk, kk⟩ := u
        dsimp only at mid htx o4' ⊢
        cases Lx with
        | false =>
          clear mid
          gi_wp2
          all_goals first
            | (rename_i hu hu2; exact absurd (Option.some.inj hu) (by simp [undef]))
            | (refine ⟨trivial, ?_⟩; gi_wp2; all_goals first | exact ⟨HK4.out, HKQ.out, HI.out⟩ | (rename_i hu hu2; exact absurd (Option.some.inj hu) (by simp [undef])))
        | true =>
          by_cases hk0 : kk = 0
          · subst hk0
            by_cases hm2 : mk = 2
            · subst hm2
              rw [show (((2 : UInt8)).toNat : Int) = 2 from rfl]
              have SC := same_calls a4 b tx.length c4 lb cb tx xb W4 o4' (hb.below hBW (Nat.le_refl _)) (Nat.le_refl _) hBW.size (by omega)
              gi_wp2_with fail
              refine ⟨trivial, ?_⟩
              gi_at_call 17
              refine (CallsIn.inRound l (callsIn_wide.2 SC)).mono ?_
              rintro e W5 ⟨rfl, b5⟩
              have rs5 : W5.cell? ⟨w.heap.size + 1, 0, none⟩ = some (.bool false) := (b5.cell (p := ⟨w.heap.size + 1, 0, none⟩) (World.block_lt_of_cell? W4 ⟨w.heap.size + 1, 0, none⟩ rs)).trans rs
              have HK5 : Hid (KeepsFrom wA.heap.size W W5) := HK4.out.trans (Ft.keeps (F := fun _ => False) (F' := fun _ => False) (Ft.of b5 (Nat.le_refl _)) (fun k h => h.elim) _)
              have HQ5 : Hid (Kq gq2 W W5) := ⟨Nat.le_trans HKQ.out.size b5.size, (b5.block gq2 (Nat.lt_of_lt_of_le hg4 (by obtain ⟨S9, h9, _, _⟩ := HI.out; exact h9.size))).trans HKQ.out.block⟩
              have HI5 : Hid (feedI (zs := frameN xb 2) wA F1 (fun _ => False) r (fun j S _ => FeedX (frameN xb 2) Mq (5 + (1 + wt)) 1 1 j S) (fun j S _ => S.l ≤ 1 + 2 * j) (pre ++ [x]) W5) := by
                obtain ⟨S9, h9, h10, h11⟩ := HI.out
                exact ⟨S9, h9.below b5 (Nat.le_refl _), h10, h11⟩
              have rf5 : W5.frozen? ⟨w.heap.size + 1, 0, none⟩ = false := (World.frozen?_of_block (a := ⟨w.heap.size + 1, 0, none⟩) (b5.block _ (World.block_lt_of_cell? W4 ⟨w.heap.size + 1, 0, none⟩ rs))).trans rf
              have HKR5 : Hid (KeepsFrom wA.heap.size W (W5.setCell ⟨w.heap.size + 1, 0, none⟩ (.bool false))) := HK5.out.trans ((KeepsOthers.setCell _ _ _).from _)
              obtain ⟨sm, hsm⟩ : ∃ sm, (tx == xb) = sm := ⟨_, rfl⟩
              rw [hsm]
              clear SC b5 rs rf bs hBW o4'
              cases sm with
              | true =>
                clear mid hsm
                gi_wp2
                exact ⟨HK5.out, HQ5.out, HI5.out⟩
              | false =>
                have mid2 := mid (fun h => by have := h.2; simp only [Prod.mk.injEq] at this; rw [this.1] at hsm; simp at hsm) (by first | rfl | trivial)
                clear mid hsm
                gi_wp2
                exact ⟨HKR5.out, rfl, mid2⟩
            · have hm3 : ((mk.toNat : Int) != 2) = true := by
                rw [bne_iff_ne]; intro h; apply hm2; apply UInt8.toNat_inj.1; show mk.toNat = 2; omega
              have mid2 := mid (fun h => by have := h.2; simp only [Prod.mk.injEq] at this; exact hm2 this.2.1) (by first | rfl | trivial)
              clear mid hm2
              gi_wp2
              refine ⟨trivial, ?_⟩
              gi_wp2
              exact ⟨HKR.out, rfl, mid2⟩
          · have hk1 : ((kk : Int) != 0) = true := by rw [bne_iff_ne]; omega
            have mid2 := mid (fun h => by have := h.2; simp only [Prod.mk.injEq] at this; exact hk0 this.2.2) (by first | rfl | trivial)
            clear mid hk0
            gi_wp2
            refine ⟨trivial, ?_⟩
            gi_wp2
            exact ⟨HKR.out, rfl, mid2⟩
      case done =>
        intro D2 W S hD2 hF hX hd2
        rw [qL, Nat.mul_div_cancel_left _ (by decide)] at hX
        obtain ⟨hX1, _, _⟩ := hX.2 rfl
        obtain ⟨FF, gF, _, _⟩ := hF.after
        have hMW := MA.fi hF (fun e he => ⟨hnb e he, fun h => h⟩)
        have kg := hMW.get (b := xg) (v := .pointer (some ⟨r, 0, none⟩)) (t := 24) (by simp)
        have rb := hMW.bk (b := w.heap.size + 1) (v := .bool false) (t := 4) (by simp)
        have rs := rb.cell 0 _ rfl
        have rf := rb.frozen 0
        have rb2 : BK (W.setCell ⟨w.heap.size + 1, 0, none⟩ (.bool true)) (w.heap.size + 1) #[.bool true] 4 := rb.set 0 (.bool true)
        have hBW : Below w.heap.size w W := BA.trans (hF.bel (fun k hk => by rcases hFA k hk with e | e <;> omega) (fun k h => h.elim) BA.size)
        have dW : W.heap[D1]? = some (.deferred (some [])) := hF.obj dA hD1F (fun h => h)
        have hL := glost_calls gF hX1
        have hD1lt : D1 < wA.heap.size := (Array.getElem?_eq_some_iff.1 dA).1
        have hne1 : D1 ≠ w.heap.size + 1 := by omega
        have hne2 : D2 ≠ w.heap.size + 1 := by omega
        have HD : Hid (∀ D ∈ [D2, D1], (W.setCell ⟨w.heap.size + 1, 0, none⟩ (.bool true)).heap[D]? = some (.deferred (some []))) := by
          intro D hD
          simp only [List.mem_cons, List.not_mem_nil, or_false] at hD
          rcases hD with rfl | rfl
          · exact (Below.heap_setCell _ _ _ _ hne2).trans hd2
          · exact (Below.heap_setCell _ _ _ _ hne1).trans dW
        have HB : Hid (Below w.heap.size w (W.setCell ⟨w.heap.size + 1, 0, none⟩ (.bool true))) := hBW.setCell (p := ⟨w.heap.size + 1, 0, none⟩) (by show w.heap.size ≤ w.heap.size + 1; omega) _
        refine hKK2 _ _ ?_
        clear hKK2 hF hX gF hd2 dW hBW
        go_wp2_with fail
        refine hL.mono ?_
        rintro e W9 ⟨rfl, e9⟩
        rw [e9]; clear e9 hL
        go_wp2
        refine fin_marks 3 _ [D2, D1] _ w w.heap.size (w.heap.size + 1) ?_ (by simp; omega) HD.out (fun D hD => by simp only [List.mem_cons, List.not_mem_nil, or_false] at hD; rcases hD with rfl | rfl <;> omega) rb2 HB.out
        intro W' hb'
        have c3 := hb'.cell 0 _ rfl
        simp [results, Try.results5, go_sem, c3]

end Go.Proofs.Ytfmicnjijcmjaaa
