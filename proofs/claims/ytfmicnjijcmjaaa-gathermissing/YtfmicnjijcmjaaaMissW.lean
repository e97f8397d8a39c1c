/- Proved here: the walk of GatherMissing. Conditions: as each theorem states them. -/
import Derived.Test.YtfmicnjijcmjaaaMissS
namespace Go.Proofs.Ytfmicnjijcmjaaa
set_option linter.unusedSimpArgs false
set_option linter.unusedVariables false
open Go.RowKit Go.Shelf
attribute [local go_sem] Oper.semAt_some

set_option maxHeartbeats 8000000 in
set_option maxRecDepth 100000 in
theorem miss_in (a : Option Addr) (la ca : Nat) (xa : List UInt8) (b : Option Addr) (lb cb : Nat) (xb : List UInt8) (cut : Int) (w : World) (hc0 : 0 ≤ cut) (hc1 : cut ≤ 255)
    (ha : IsB w.heap.size w a la xa) (na : a = none → ca = 0) (hb : IsB w.heap.size w b lb xb) (nb : b = none → cb = 0) (hbc : lb ≤ cb) (h1 : 88 < la) (h2 : la ≤ 900) (h3 : 0 < lb) (h4 : lb ≤ 1000) :
    CallsIn Fence.wide 3 Try.prog 6 #[.slice a la ca, .slice b lb cb, .int .u8 cut] w fun e w' => e = .returned (.bool true) ∧ Below w.heap.size w w' := by
  have d1 : decide (900 < (la : Int)) = false := by simp; omega
  have d2 : decide (1000 < (lb : Int)) = false := by simp; omega
  have d3 : decide ((la : Int) ≤ 88) = false := by simp; omega
  have d4 : ((lb : Int) == 0) = false := by rw [beq_eq_false_iff_ne]; omega
  refine callsIn_of_wp_marks Try.func6 rfl trivial ?_ rfl
  refine wpIn_wide.2 (wp_calm ?_)
  simp only [Try.ntmps6, List.size_toArray, List.length_cons, List.length_nil, Nat.reduceAdd, Nat.reduceSub, Array.replicate_succ, Array.replicate_zero, List.push_toArray, List.append_toArray, List.nil_append, List.cons_append]
  obtain ⟨M0, B0, z0⟩ := late_boxes w b lb cb
  go_wp2_with fail
  generalize (w.alloc (.cells #[.slice b lb cb] 32)).alloc (.cells #[.bool false] 4) = W0 at *
  refine (awake_calls _).mono ?_
  rintro e w1 ⟨rfl, b1⟩
  have M1 := M0.below b1 (Nat.le_refl _)
  have B1 := B0.trans (b1.mono B0.size)
  have s1 := b1.size
  clear b1 M0 B0
  have kb := M1 (w.heap.size, .slice b lb cb, 32) (by simp)
  have c0 := kb.cell 0 _ rfl
  go_wp2_with fail
  refine (gnew_calls 100 w1).mono ?_
  rintro e w3 ⟨rfl, g3, b3⟩
  have M3 := M1.below b3 (Nat.le_refl _)
  have B3 := B1.trans (b3.mono B1.size)
  have hr3 : w1.heap.size < w3.heap.size := g3.x.lt _ rfl
  have hs2 : w.heap.size + 2 ≤ w1.heap.size := by omega
  clear M1 b3 B1 s1 c0 kb
  generalize w1.heap.size = r at *
  go_wp2_with fail
  have A4 : Below w3.heap.size w3 (w3.alloc (.cells #[.pointer (some ⟨r, 0, none⟩)] 24)) := (Below.refl _ w3).alloc (Nat.le_refl _) _
  have M4 := BX.cons (e := (w3.heap.size, .pointer (some ⟨r, 0, none⟩), 24)) (bk_new w3 #[.pointer (some ⟨r, 0, none⟩)] 24) (M3.below A4 (Nat.le_refl _))
  have B4 := B3.trans (A4.mono B3.size)
  have g4 := g3.below A4 (Nat.le_refl _)
  have s4 : (w3.alloc (.cells #[.pointer (some ⟨r, 0, none⟩)] 24)).heap.size = w3.heap.size + 1 := by simp
  generalize w3.alloc (.cells #[.pointer (some ⟨r, 0, none⟩)] 24) = W4 at *
  clear M3 B3 A4 g3
  generalize w3.heap.size = xg at *
  have HP := pack_calls a la ca xa 1 W4 (ha.below B4 (Nat.le_refl _)) B4.size na (by omega) (by omega)
  rw [show (((1 : UInt8)).toNat : Int) = 1 from rfl] at HP
  refine HP.mono ?_
  rintro e w5 ⟨ap, cp, rfl, o5, b5⟩
  have M5 := M4.below b5 (Nat.le_refl _)
  have B5 := B4.trans (b5.mono B4.size)
  have g5 := g4.below b5 (Nat.le_refl _)
  have s5 := b5.size
  have c0 := M5.get (b := w.heap.size) (v := .slice b lb cb) (t := 32) (by simp)
  clear HP M4 B4 g4 b5
  go_wp2_with fail
  have HP := pack_calls b lb cb xb 2 w5 (hb.below B5 (Nat.le_refl _)) B5.size nb (by omega) h4
  rw [show (((2 : UInt8)).toNat : Int) = 2 from rfl] at HP
  refine HP.mono ?_
  rintro e w6 ⟨aq, cq, rfl, o6, b6⟩
  have M6 := M5.below b6 (Nat.le_refl _)
  have B6 := B5.trans (b6.mono B5.size)
  have g6 := g5.below b6 (Nat.le_refl _)
  have p6 := o5.below b6 (Nat.le_refl _)
  have s6 := b6.size
  clear HP M5 B5 g5 b6 o5 c0
  -- the numbers
  have hM1 := many_eq (n := la) (by omega)
  obtain ⟨M, hM⟩ : ∃ M, manyN la = M := ⟨_, rfl⟩
  obtain ⟨Mq, hMq⟩ : ∃ Mq, manyN lb = Mq := ⟨_, rfl⟩
  have hMq1 := many_eq (n := lb) (by omega)
  rw [hM] at hM1 p6
  rw [hMq] at hMq1 o6
  have m1 : 3 ≤ M := by omega
  have m2 : M ≤ 21 := by omega
  have m3 : 1 ≤ Mq := by omega
  have m4 : Mq ≤ 21 := by omega
  have LA : Hid (la = xa.length) := ha.1
  have LB : Hid (lb = xb.length) := hb.1
  clear hM1 hMq1
  obtain ⟨c, hc⟩ : ∃ c : Nat, cut = (c : Int) := ⟨cut.toNat, by omega⟩
  subst hc
  have hn : IntKind.i64.wrap (c : Int) = (c : Int) := by rw [IntKind.wrap_i64]; omega
  have e1 : ((48 * M : Nat) : Int) / 48 = (M : Int) := by omega
  have e3 : (c : Int).tmod ((M : Int) - 1) = ((c % (M - 1) : Nat) : Int) := by
    rw [show (M : Int) - 1 = ((M - 1 : Nat) : Int) by omega]; rfl
  obtain ⟨k, hkk⟩ : ∃ k, c % (M - 1) = k := ⟨_, rfl⟩
  have hmod : c % (M - 1) < M - 1 := Nat.mod_lt _ (by omega)
  have HK0 : Hid (k + 1 < M) := by show _ < _; omega
  have e4 : (c : Int) % ((M - 1 : Nat) : Int) = (k : Int) := by rw [← Int.natCast_emod, hkk]
  clear hkk hmod
  go_wp2_with fail
  have A7 : Below w6.heap.size w6 ((w6.alloc (.cells #[.int .i64 (k : Int)] 3)).alloc (.cells #[.int .i64 0] 3)) := ((Below.refl _ w6).alloc (Nat.le_refl _) _).alloc (by simp) _
  have M7' := BX.cons (e := (w6.heap.size, .int .i64 (k : Int), 3)) ((bk_new w6 #[.int .i64 (k : Int)] 3).alloc (.cells #[.int .i64 0] 3)) (M6.below A7 (Nat.le_refl _))
  have kn7 := bk_new (w6.alloc (.cells #[.int .i64 (k : Int)] 3)) #[.int .i64 0] 3
  rw [World.size_alloc] at kn7
  have B7' := B6.trans (A7.mono B6.size)
  have g7' := g6.below A7 (Nat.le_refl _)
  have p7 := p6.below A7 (Nat.le_refl _)
  have o7 := o6.below A7 (Nat.le_refl _)
  have hqb6 : ∀ y, aq = some y → y.block < w6.heap.size := fun y e => (o6.lt y.block (by rw [e]; rfl)).2
  have s7' : ((w6.alloc (.cells #[.int .i64 (k : Int)] 3)).alloc (.cells #[.int .i64 0] 3)).heap.size = w6.heap.size + 2 := by simp
  generalize (w6.alloc (.cells #[.int .i64 (k : Int)] 3)).alloc (.cells #[.int .i64 0] 3) = W7 at *
  clear A7 M6 B6 g6 p6 o6 e1 e3 e4 hn
  obtain ⟨xn, hxn⟩ : ∃ xn, w6.heap.size + 1 = xn := ⟨_, rfl⟩
  rw [hxn] at kn7 ⊢
  obtain ⟨xk, hxk⟩ : ∃ xk, w6.heap.size = xk := ⟨_, rfl⟩
  rw [hxk] at M7' ⊢
  have hqb : ∀ y, aq = some y → y.block < xn := fun y e => by have := hqb6 y e; omega
  clear hqb6
  have pI := p7.isB
  have pL := frame_len (t := xa) 1 (by have := LA.out; omega)
  rw [← LA.out, hM] at pL
  refine (cells_calls ap (48 * M) cp _ W7 pI.1 (Nat.le_refl _) pI.2.1 (by omega)).mono ?_
  rintro e w7 ⟨Bp, gq, a7, c7, rfl, hBp, hc7, hg1, hg2, hG, b7⟩
  have M7 := M7'.below b7 (Nat.le_refl _)
  have B7 := B7'.trans (b7.mono B7'.size)
  have g7 := g7'.below b7 (Nat.le_refl _)
  have q7 := o7.below b7 (Nat.le_refl _)
  have kn := kn7.below b7 kn7.lt
  have s7 := b7.size
  clear M7' B7' g7' o7 p7 pI b7 kn7
  go_wp2
  rename_i KK hKK
  have hr7 : r < w5.heap.size := by omega
  have hxn1 : xn < w7.heap.size := kn.lt
  have hxk1 : xk < xn := by omega
  have hxn5 : w5.heap.size ≤ xk := by omega
  have hgx : xn < gq := by omega
  have HUB : Hid (unpackN (frameN xb 2) = (xb, 2, 0)) := unpack_frame 2 (by have := LB.out; omega) (by have := LB.out; omega)
  have qL := frame_len (t := xb) 2 (by have := LB.out; omega)
  rw [← LB.out, hMq] at qL
  have cL := cut_len (k := k) pL (by have := HK0.out; omega)
  obtain ⟨ee, hee, hee0⟩ := unpack_cut (t := xa) 1 (k := k) (by have := LA.out; omega) (by have := LA.out; omega) (by rw [← LA.out, hM]; exact HK0.out)
  have HCU : Hid (unpackN (cutN (frameN xa 1) k) = ([], 0, ee) ∧ ee ≠ 0) := ⟨hee, hee0⟩
  clear hee hee0
  refine (wpIn_wide (n := 3)).1 ?_
  have hxg : ∀ e ∈ ([(xk, .int .i64 k, 3), (xg, .pointer (some ⟨r, 0, none⟩), 24), (w.heap.size, .slice b lb cb, 32), (w.heap.size + 1, .bool false, 4)] : List (Nat × Value × TypeId)), ¬ e.1 = r := by
    simp only [List.mem_cons, List.not_mem_nil, or_false]
    rintro e (rfl | rfl | rfl | rfl) <;> (dsimp only; omega)
  have hxx : ∀ e ∈ ([(xk, .int .i64 k, 3), (xg, .pointer (some ⟨r, 0, none⟩), 24), (w.heap.size, .slice b lb cb, 32), (w.heap.size + 1, .bool false, 4)] : List (Nat × Value × TypeId)), ¬ e.1 = xn := by
    simp only [List.mem_cons, List.not_mem_nil, or_false]
    rintro e (rfl | rfl | rfl | rfl) <;> (dsimp only; omega)
  refine range_feed 67 68 14 (some 15) (F0 := fun k => k = r) (E := fun k => k = xn) rfl hBp hG hc7 hg2 (by omega) g7 (fun k h => by subst h; exact hxn1) (fun k h h' => by omega) (by show ¬ gq = r; omega) (by show ¬ gq = xn; omega) rfl
    (fun j S _ => FeedX (cutN (frameN xa 1) k) (M - 1) 0 0 1 (if j ≤ k then j else j - 1) S) (fun j S W => S.l ≤ 2 * j ∧ BK W xn #[.int .i64 (j : Int)] 3) same_own
    (fun n S s A B row h hg hr => ⟨h.1, (hg.block xn h.2.lt (fun e => by obtain ⟨_, o, ho, hc⟩ := hr xn e.symm; rw [show A.heap[xn]? = _ from h.2] at ho; cases ho; cases hc)).trans h.2⟩)
    (fun _ _ _ _ h => h) (fun _ _ _ _ h => ⟨h.1, h.2.alloc _⟩) (by rw [if_pos (Nat.zero_le _)]; exact ⟨fun _ => At.nil rfl rfl rfl, fun h => by omega⟩) ⟨Nat.zero_le _, kn⟩ ?assign ?body ?done
  case assign =>
    intro l ck Lx W K hcl hK
    (simp only [feedT, List.setIfInBounds_toArray, List.set_cons_zero, List.set_cons_succ] at hK; gi_wp2_with (with_reducible show wpListIn _ _ _ _ _ (Oper.mk _ (Op.alloc 28) _ _ _ _ :: _) _ _; revert hcl); intro hcl; refine wpListIn_def rfl rfl rfl rfl rfl rfl zero40 (by rw [size24, payV_size, hcl]) (by rw [payV_size, payV_size, hcl]; simp [zer]) (payV_one _) ?_; (try simp only [Act.put, List.setIfInBounds_toArray, List.set_cons_zero, List.set_cons_succ, World.size_alloc]); generalize W.alloc (.cells (payV ck) 28) = WA at *; gi_wp2; exact hK)
  case body =>
    intro l pre x ck Lx W S Bx hck hLx hl hlo hF hY hX hBx bX hcl hlt
    obtain ⟨hYl, hYn⟩ := hY
    have hMW := M7.fi hF (fun e he => ⟨hxg e he, hxx e he⟩)
    have kg := hMW.get (b := xg) (v := .pointer (some ⟨r, 0, none⟩)) (t := 24) (by simp)
    have kx := hMW.get (b := xk) (v := .int .i64 (k : Int)) (t := 3) (by simp)
    have kn0 := hYn.cell 0 (.int .i64 (pre.length : Int)) rfl
    have kf0 := hYn.frozen 0
    rw [pL, Nat.mul_div_cancel_left _ (by decide)] at hlt
    have hkM := HK0.out
    have HLN : Hid ((pre ++ [x]).length = pre.length + 1) := by show _ = _; simp
    have HO : Hid ((pre ++ [x]).map (·.1) = List.range (pre ++ [x]).length → pre.map (·.1) = List.range pre.length ∧ x.1 = pre.length) := order_next
    obtain ⟨j, hj⟩ : ∃ j, pre.length = j := ⟨_, rfl⟩
    rw [hj] at hX hYl hYn kn0 hlt HLN HO
    by_cases hjk : j = k
    · have q1 : ((j : Int) != (k : Int)) = false := by rw [bne_eq_false_iff_eq]; omega
      have hK2 : KeepsFrom w7.heap.size W (W.setCell ⟨xn, 0, none⟩ (.int .i64 ((j : Int) + 1))) := (KeepsOthers.setCell _ _ _).from _
      have hF2 := hF.set (b := xn) rfl (.int .i64 ((j : Int) + 1))
      have hQ2 : Kq gq W (W.setCell ⟨xn, 0, none⟩ (.int .i64 ((j : Int) + 1))) := hF.kq hF2 (by simp [World.setCell]) hg2 (by show ¬ gq = r; omega) (by show ¬ gq = xn; omega)
      have hN2 : BK (W.setCell ⟨xn, 0, none⟩ (.int .i64 ((j : Int) + 1))) xn #[.int .i64 ((j : Int) + 1)] 3 := hYn.set 0 _
      have HEND : Hid (KeepsFrom w7.heap.size W (W.setCell ⟨xn, 0, none⟩ (.int .i64 ((j : Int) + 1))) ∧ Kq gq W (W.setCell ⟨xn, 0, none⟩ (.int .i64 ((j : Int) + 1))) ∧ feedI (zs := frameN xa 1) w7 (fun k => k = r) (fun k => k = xn) r (fun j S _ => FeedX (cutN (frameN xa 1) k) (M - 1) 0 0 1 (if j ≤ k then j else j - 1) S) (fun j S W => S.l ≤ 2 * j ∧ BK W xn #[.int .i64 (j : Int)] 3) (pre ++ [x]) (W.setCell ⟨xn, 0, none⟩ (.int .i64 ((j : Int) + 1)))) := by
        refine ⟨hK2, hQ2, S, hF2, ?_, fun h => ?_⟩
        · show S.l ≤ 2 * (pre ++ [x]).length ∧ BK _ xn #[.int .i64 ((pre ++ [x]).length : Int)] _
          rw [HLN.out]
          exact ⟨by omega, by rw [Int.natCast_add]; exact hN2⟩
        · show FeedX _ _ _ _ _ (if (pre ++ [x]).length ≤ k then (pre ++ [x]).length else (pre ++ [x]).length - 1) S
          have h1 := hX (HO.out h).1
          rw [HLN.out]
          rw [if_pos (by omega)] at h1
          rw [if_neg (by omega), Nat.add_sub_cancel]; exact h1
      clear hX hK2 hF2 hQ2 hN2 hck hLx hjk hYn hj hYl
      simp only [feedT, List.setIfInBounds_toArray, List.set_cons_zero, List.set_cons_succ]
      gi_wp2
      exact HEND.out
    · have q1 : ((j : Int) != (k : Int)) = true := by rw [bne_iff_ne]; omega
      have HT := hF.take (fun k h => by subst h; exact hxn1) w7.heap.size (by omega) 0 (by decide) (by decide) ck hcl Lx
      have HBX : Hid (BK W Bx (payV ck) 28) := bX
      clear bX
      have HY' : Hid ((S.take 0 ck Lx).1.l ≤ 2 * (j + 1)) := by show _ ≤ _; have := S.take_l 0 ck Lx; omega
      have HX' : (pre ++ [x]).map (·.1) = List.range (pre ++ [x]).length → FeedX (cutN (frameN xa 1) k) (M - 1) 0 0 1 (if j + 1 ≤ k then j + 1 else j + 1 - 1) (S.take 0 ck Lx).1 ∧ ∃ e, (S.take 0 ck Lx).2 = ([], 0, e) ∧ e ≠ 0 := by
        intro h
        obtain ⟨h1, h2⟩ := HO.out h
        have h3 := hX h1
        rw [h2] at hck hLx
        obtain ⟨hu1, hu2⟩ := HCU.out
        rcases Nat.lt_or_gt_of_ne hjk with hlt' | hgt'
        · rw [if_pos (by omega)] at h3
          have h4 := h3.next cL (by omega) hu1 (by rw [if_neg hu2]) (by omega)
          rw [chunk_cut_lt pL (by omega) hlt', ← hck, cL] at h4
          have hLe : (((48 * (M - 1) - 48 * j : Nat) : Int) == 48) = Lx := by
            rw [hLx, pL]
            have e1 : (((48 * (M - 1) - 48 * j : Nat) : Int) == 48) = decide (j + 1 = M - 1) := by rw [Bool.eq_iff_iff, beq_iff_eq, decide_eq_true_eq]; omega
            have e2 : (((48 * M - 48 * j : Nat) : Int) == 48) = decide (j + 1 = M) := by rw [Bool.eq_iff_iff, beq_iff_eq, decide_eq_true_eq]; omega
            rw [e1, e2, decide_eq_false (by omega), decide_eq_false (by omega)]
          rw [hLe] at h4
          rw [if_pos (by omega)]
          refine ⟨h4.1, 2, ?_, by decide⟩
          rw [h4.2.1, if_neg (by omega)]
        · rw [if_neg (by omega)] at h3
          have h4 := h3.next cL (by omega) hu1 (by rw [if_neg hu2]) (by omega)
          rw [chunk_cut_ge pL (by omega) (by omega), show j - 1 + 1 = j by omega, ← hck, cL] at h4
          have hLe : (((48 * (M - 1) - 48 * (j - 1) : Nat) : Int) == 48) = Lx := by
            rw [hLx, pL, show 48 * (M - 1) - 48 * (j - 1) = 48 * M - 48 * j by omega]
          rw [hLe] at h4
          rw [if_neg (by omega), Nat.add_sub_cancel]
          refine ⟨h4.1, ?_⟩
          by_cases hl2 : j = M - 1
          · exact ⟨ee, by rw [h4.2.1, if_pos hl2], hu2⟩
          · exact ⟨2, by rw [h4.2.1, if_neg hl2], by decide⟩
      obtain ⟨u, hu⟩ : ∃ u, S.take 0 ck Lx = u := ⟨_, rfl⟩
      rw [hu] at HT HY' HX'
      have mid : ¬ (u.2.2.2 ≠ 0 ∧ u.2.1.length = 0) → ¬ (pre ++ [x]).map (·.1) = List.range (pre ++ [x]).length := by
        intro h1 h3
        obtain ⟨_, e, h5, h6⟩ := HX' h3
        exact h1 (by rw [h5]; exact ⟨h6, rfl⟩)
      have HXI : Hid ((pre ++ [x]).map (·.1) = List.range (pre ++ [x]).length → FeedX (cutN (frameN xa 1) k) (M - 1) 0 0 1 (if j + 1 ≤ k then j + 1 else j + 1 - 1) u.1) := fun h => (HX' h).1
      clear hu HX' hX hck hLx hjk hj hYl
      simp only [feedT, List.setIfInBounds_toArray, List.set_cons_zero, List.set_cons_succ]
      gi_wp2_with (with_reducible show wpListIn _ _ _ _ _ (Oper.mk _ (Op.load 24 _) _ _ _ _ :: _) _ _; revert hcl)
      intro hcl
      have hgl : (Instr.loadAt 24 (.pointer (some ⟨xg, 0, none⟩))).run Try.prog W = .ok (.pointer (some ⟨r, 0, none⟩)) W := run_ldG kg
      refine wpListIn_ld rfl rfl rfl hgl ?_
      (try simp only [Act.put, List.setIfInBounds_toArray, List.set_cons_zero, List.set_cons_succ, World.size_alloc])
      clear hgl
      have hld := run_ld24 W Bx _ _ HBX.out hcl
      refine wpListIn_ld rfl rfl rfl hld ?_
      (try simp only [Act.put, List.setIfInBounds_toArray, List.set_cons_zero, List.set_cons_succ, World.size_alloc])
      clear hld
      gi_wp2_with fail
      refine ⟨trivial, ?_⟩
      gi_at_call 15
      refine (CallsIn.inRound l (callsIn_wide.2 HT)).mono ?_
      rintro e W4' ⟨⟨a4, c4, rfl, o4⟩, hF4, hK4, hS4, hE4⟩
      have hN4 := hE4 xn _ _ rfl hYn
      have hM4 := M7.fi hF4 (fun e he => ⟨hxg e he, hxx e he⟩)
      have rs := hM4.get (b := w.heap.size + 1) (v := .bool false) (t := 4) (by simp)
      have rf := hM4.fz (b := w.heap.size + 1) (v := .bool false) (t := 4) (by simp)
      clear kn0 kf0
      have kn0 := hN4.cell 0 (.int .i64 (j : Int)) rfl
      have kf0 := hN4.frozen 0
      have HKR : Hid (KeepsFrom w7.heap.size W (W4'.setCell ⟨w.heap.size + 1, 0, none⟩ (.bool false))) := hK4.trans ((KeepsOthers.setCell _ _ _).from _)
      have hF2 := hF4.set (b := xn) rfl (.int .i64 ((j : Int) + 1))
      have hN2 : BK (W4'.setCell ⟨xn, 0, none⟩ (.int .i64 ((j : Int) + 1))) xn #[.int .i64 ((j : Int) + 1)] 3 := hN4.set 0 _
      have HEND : Hid (KeepsFrom w7.heap.size W (W4'.setCell ⟨xn, 0, none⟩ (.int .i64 ((j : Int) + 1))) ∧ Kq gq W (W4'.setCell ⟨xn, 0, none⟩ (.int .i64 ((j : Int) + 1))) ∧ feedI (zs := frameN xa 1) w7 (fun k => k = r) (fun k => k = xn) r (fun j S _ => FeedX (cutN (frameN xa 1) k) (M - 1) 0 0 1 (if j ≤ k then j else j - 1) S) (fun j S W => S.l ≤ 2 * j ∧ BK W xn #[.int .i64 (j : Int)] 3) (pre ++ [x]) (W4'.setCell ⟨xn, 0, none⟩ (.int .i64 ((j : Int) + 1)))) := by
        refine ⟨hK4.trans ((KeepsOthers.setCell _ _ _).from _), hF.kq hF2 (by simp [World.setCell]; exact hS4) hg2 (by show ¬ gq = r; omega) (by show ¬ gq = xn; omega), u.1, hF2, ?_, fun h => ?_⟩
        · show u.1.l ≤ 2 * (pre ++ [x]).length ∧ BK _ xn #[.int .i64 ((pre ++ [x]).length : Int)] _
          rw [HLN.out]
          exact ⟨HY'.out, by rw [Int.natCast_add]; exact hN2⟩
        · show FeedX _ _ _ _ _ (if (pre ++ [x]).length ≤ k then (pre ++ [x]).length else (pre ++ [x]).length - 1) u.1
          rw [HLN.out]
          exact HXI.out h
      clear HT kg kx hF4 hK4 hM4 o4 hF hMW hF2 hN2 hN4 hYn hE4
      obtain ⟨S', tx, mk, kk⟩ := u
      dsimp only at mid ⊢
      by_cases hk0 : kk = 0
      · subst hk0
        have mid2 := mid (fun h => h.1 rfl)
        clear mid
        gi_wp2
        exact ⟨HKR.out, rfl, mid2⟩
      · have hk1 : ((kk : Int) == 0) = false := by rw [beq_eq_false_iff_ne]; omega
        obtain ⟨N, hN⟩ : ∃ N, tx.length = N := ⟨_, rfl⟩
        rw [hN] at mid ⊢
        by_cases ht0 : N = 0
        · subst ht0
          clear mid hk0 hN
          gi_wp2
          exact HEND.out
        · have ht1 : 0 < N := by omega
          have mid2 := mid (fun h => ht0 h.2)
          clear mid hk0 hN
          gi_wp2
          all_goals first
            | exact ⟨HKR.out, rfl, mid2⟩
            | (exfalso; omega)
  case done =>
    intro D1 W S hD1 hF hXn hd1
    rw [pL, Nat.mul_div_cancel_left _ (by decide)] at hXn
    have hkM := HK0.out
    rw [if_neg (by omega)] at hXn
    obtain ⟨l1, x1, k1⟩ := hXn.2 rfl
    obtain ⟨F0, g0, hE0, k8⟩ := hF.after
    obtain ⟨F1, g8, hs8, hc8⟩ := g0.shrink
    have hF9 : ∀ k, F1 k → k = r ∨ w7.heap.size ≤ k := fun k hk => by
      rcases k8.new k (.inl (hs8 k hk)) with (e | e) | e
      · exact .inl e
      · exact absurd (hs8 k hk) (hE0 k e)
      · exact .inr e
    have M9 := M7.fi hF (fun e he => ⟨hxg e he, hxx e he⟩)
    have q9 : OwnB w5.heap.size W aq (48 * Mq) cq (frameN xb 2) := ownB_keep q7 (fun y e => k8.block y.block (q7.lt y.block (by rw [e]; rfl)).2 (fun h => by
      have h9 := hqb y e
      rcases h with h | h
      · have := (q7.lt y.block (by rw [e]; rfl)).1; omega
      · omega))
    have B9 : Below w.heap.size w W := B7.trans (hF.bel (fun k (e : k = r) => by omega) (fun k (e : k = xn) => by omega) B7.size)
    have hD1F : ¬ F1 D1 := not_cells hc8 hd1 rfl
    have hAt9 : At S (frameN xb 2) 0 1 1 := At.nil k1 x1 l1
    have hl9 : S.l ≤ 1 + 2 * 0 := by omega
    have g9 := g8
    have d9 := hd1
    refine hKK _ _ ?_
    clear hF hXn l1 x1 k1 g0 g8 hs8 hc8 hKK q7 k8 hE0 hd1 kn hBp hG hc7 hg2
    go_wp2_with fail
    -- the second frame, from the world W on
    have qI := q9.isB
    refine (cells_calls aq (48 * Mq) cq _ W qI.1 (Nat.le_refl _) qI.2.1 (by omega)).mono ?_
    rintro e wA ⟨Bp2, gq2, a9, c9, rfl, hBp2, hc9, hg3, hg4, hG2, bA⟩
    have MA := M9.below bA (Nat.le_refl _)
    have BA := B9.trans (bA.mono B9.size)
    have gA := g9.below bA (Nat.le_refl _)
    have dA : wA.heap[D1]? = some (.deferred (some [])) := (bA.block D1 (Array.getElem?_eq_some_iff.1 d9).1).trans d9
    have sA := bA.size
    have hFA : ∀ k, F1 k → k = r ∨ w7.heap.size ≤ k := hF9
    have hF9lt : ∀ k, F1 k → k < W.heap.size := g9.x.lt
    clear M9 B9 g9 d9 bA q9 qI hF9
    go_wp2
    rename_i KK2 hKK2
    refine (wpIn_wide (n := 3)).1 ?_
    have hnb : ∀ e ∈ ([(xk, .int .i64 k, 3), (xg, .pointer (some ⟨r, 0, none⟩), 24), (w.heap.size, .slice b lb cb, 32), (w.heap.size + 1, .bool false, 4)] : List (Nat × Value × TypeId)), ¬ F1 e.1 := by
      intro e he hF
      have h1 := hxg e he
      have h2 := M7.lt e he
      rcases hFA _ hF with h | h
      · exact h1 h
      · omega
    refine range_feed 91 92 19 (some 20) (F0 := F1) (E := fun _ => False) rfl hBp2 hG2 hc9 hg4 (by omega) gA (fun k h => h.elim) (fun k h => h.elim) (fun h => by have := hF9lt _ h; omega) (fun h => h) rfl
      (fun j S _ => FeedX (frameN xb 2) Mq 1 1 1 j S) (fun j S _ => S.l ≤ 1 + 2 * j) same_own same_own (fun _ _ _ _ h => h) (fun _ _ _ _ h => h) ⟨fun _ => hAt9, fun h => by omega⟩ hl9 ?assign ?body ?done
    case assign =>
      intro l ck Lx W K hcl hK
      (simp only [feedT, List.setIfInBounds_toArray, List.set_cons_zero, List.set_cons_succ] at hK; gi_wp2_with (with_reducible show wpListIn _ _ _ _ _ (Oper.mk _ (Op.alloc 28) _ _ _ _ :: _) _ _; revert hcl); intro hcl; refine wpListIn_def rfl rfl rfl rfl rfl rfl zero40 (by rw [size24, payV_size, hcl]) (by rw [payV_size, payV_size, hcl]; simp [zer]) (payV_one _) ?_; (try simp only [Act.put, List.setIfInBounds_toArray, List.set_cons_zero, List.set_cons_succ, World.size_alloc]); generalize W.alloc (.cells (payV ck) 28) = WA at *; gi_wp2; exact hK)
    case body =>
      intro l pre x ck Lx W S Bx hck hLx hl hlo hF hY hX hBx bX hcl hlt
      have hMW := MA.fi hF (fun e he => ⟨hnb e he, fun h => h⟩)
      have kg := hMW.get (b := xg) (v := .pointer (some ⟨r, 0, none⟩)) (t := 24) (by simp)
      rw [qL, Nat.mul_div_cancel_left _ (by decide)] at hlt
      have HT := hF.take (fun k h => h.elim) wA.heap.size (by omega) 1 (by omega) (by omega) ck hcl Lx
      have hld := run_ld24 W Bx _ _ bX hcl
      have HY' : Hid ((S.take 1 ck Lx).1.l ≤ 1 + 2 * (pre.length + 1)) := by show _ ≤ _; have := S.take_l 1 ck Lx; omega
      have htx : (S.take 1 ck Lx).2.1.length ≤ 1008 := by obtain ⟨F', gg, _, _⟩ := hF.ex; exact Ga.take_text gg.fit _ _ _ hcl
      have HX' : (pre ++ [x]).map (·.1) = List.range (pre ++ [x]).length → FeedX (frameN xb 2) Mq 1 1 1 (pre.length + 1) (S.take 1 ck Lx).1 ∧ (S.take 1 ck Lx).2 = (if pre.length + 1 = Mq then (xb, 2, 0) else ([], 0, 2)) ∧ Lx = decide (pre.length + 1 = Mq) := by
        intro h
        obtain ⟨h1, h2⟩ := order_next h
        rw [h2] at hck hLx
        rw [hck, hLx]
        exact (hX h1).next qL m4 HUB.out rfl hlt
      have HLN : Hid ((pre ++ [x]).length = pre.length + 1) := by show _ = _; simp
      obtain ⟨u, hu⟩ : ∃ u, S.take 1 ck Lx = u := ⟨_, rfl⟩
      rw [hu] at HT HY' HX' htx
      clear hu hX hY hck hLx
      have mid : ¬ (pre.length + 1 = Mq ∧ u.2 = (xb, 2, 0)) → Lx = true → ¬ (pre ++ [x]).map (·.1) = List.range (pre ++ [x]).length := by
        intro h1 h2 h3
        obtain ⟨_, h5, h6⟩ := HX' h3
        rw [h2] at h6
        have h7 : pre.length + 1 = Mq := of_decide_eq_true h6.symm
        rw [if_pos h7] at h5
        exact h1 ⟨h7, h5⟩
      have HXI : Hid ((pre ++ [x]).map (·.1) = List.range (pre ++ [x]).length → FeedX (frameN xb 2) Mq 1 1 1 (pre.length + 1) u.1) := fun h => (HX' h).1
      clear HX'
      simp only [feedT, List.setIfInBounds_toArray, List.set_cons_zero, List.set_cons_succ]
      gi_wp2_with (with_reducible show wpListIn _ _ _ _ _ (Oper.mk _ (Op.load 28 _) _ _ _ _ :: _) _ _; revert hld)
      intro hld
      refine wpListIn_ld rfl rfl rfl hld ?_
      (try simp only [Act.put, List.setIfInBounds_toArray, List.set_cons_zero, List.set_cons_succ, World.size_alloc])
      clear hld
      gi_wp2_with fail
      refine ⟨trivial, ?_⟩
      gi_at_call 15
      refine (CallsIn.inRound l (callsIn_wide.2 HT)).mono ?_
      rintro e W4 ⟨⟨a4, c4, rfl, o4⟩, hF4, hK4, hS4, _⟩
      have HKQ : Hid (Kq gq2 W W4) := hF.kq hF4 hS4 hg4 (fun h => by have := hF9lt _ h; omega) (fun h => h)
      have HI : Hid (feedI (zs := frameN xb 2) wA F1 (fun _ => False) r (fun j S _ => FeedX (frameN xb 2) Mq 1 1 1 j S) (fun j S _ => S.l ≤ 1 + 2 * j) (pre ++ [x]) W4) := ⟨u.1, hF4, by show u.1.l ≤ 1 + 2 * (pre ++ [x]).length; rw [HLN.out]; exact HY'.out, fun h => by show FeedX _ _ _ _ _ (pre ++ [x]).length _; rw [HLN.out]; exact HXI.out h⟩
      have HK4 : Hid (KeepsFrom wA.heap.size W W4) := hK4
      have hM4 := MA.fi hF4 (fun e he => ⟨hnb e he, fun h => h⟩)
      have rs := hM4.get (b := w.heap.size + 1) (v := .bool false) (t := 4) (by simp)
      have rf := hM4.fz (b := w.heap.size + 1) (v := .bool false) (t := 4) (by simp)
      have bs := hM4.get (b := w.heap.size) (v := .slice b lb cb) (t := 32) (by simp)
      have HKR : Hid (KeepsFrom wA.heap.size W (W4.setCell ⟨w.heap.size + 1, 0, none⟩ (.bool false))) := hK4.trans ((KeepsOthers.setCell _ _ _).from _)
      have hBW : Below w.heap.size w W4 := BA.trans (hF4.bel (fun k hk => by rcases hFA k hk with e | e <;> omega) (fun k h => h.elim) BA.size)
      have o4' : IsB W4.heap.size W4 a4 u.2.1.length u.2.1 := o4.isB.1
      clear HT kg hF4 hK4 hM4 o4 hF hMW
      obtain ⟨S', tx, mk, kk⟩ := u
      dsimp only at mid htx o4' ⊢
      cases Lx with
      | false =>
        clear mid
        gi_wp2
        all_goals first
          | (rename_i hu hu2; exact absurd (Option.some.inj hu) (by simp [undef]))
          | (refine ⟨trivial, ?_⟩; gi_wp2; all_goals first | exact ⟨HK4.out, HKQ.out, HI.out⟩ | (rename_i hu hu2; exact absurd (Option.some.inj hu) (by simp [undef])))
      | true =>
        by_cases hk0 : kk = 0
        · subst hk0
          by_cases hm2 : mk = 2
          · subst hm2
            rw [show (((2 : UInt8)).toNat : Int) = 2 from rfl]
            have SC := same_calls a4 b tx.length c4 lb cb tx xb W4 o4' (hb.below hBW (Nat.le_refl _)) (Nat.le_refl _) hBW.size (by omega)
            gi_wp2_with fail
            refine ⟨trivial, ?_⟩
            gi_at_call 17
            refine (CallsIn.inRound l (callsIn_wide.2 SC)).mono ?_
            rintro e W5 ⟨rfl, b5⟩
            have rs5 : W5.cell? ⟨w.heap.size + 1, 0, none⟩ = some (.bool false) := (b5.cell (p := ⟨w.heap.size + 1, 0, none⟩) (World.block_lt_of_cell? W4 ⟨w.heap.size + 1, 0, none⟩ rs)).trans rs
            have HK5 : Hid (KeepsFrom wA.heap.size W W5) := HK4.out.trans (Ft.keeps (F := fun _ => False) (F' := fun _ => False) (Ft.of b5 (Nat.le_refl _)) (fun k h => h.elim) _)
            have HQ5 : Hid (Kq gq2 W W5) := ⟨Nat.le_trans HKQ.out.size b5.size, (b5.block gq2 (Nat.lt_of_lt_of_le hg4 (by obtain ⟨S9, h9, _, _⟩ := HI.out; exact h9.size))).trans HKQ.out.block⟩
            have HI5 : Hid (feedI (zs := frameN xb 2) wA F1 (fun _ => False) r (fun j S _ => FeedX (frameN xb 2) Mq 1 1 1 j S) (fun j S _ => S.l ≤ 1 + 2 * j) (pre ++ [x]) W5) := by
              obtain ⟨S9, h9, h10, h11⟩ := HI.out
              exact ⟨S9, h9.below b5 (Nat.le_refl _), h10, h11⟩
            have rf5 : W5.frozen? ⟨w.heap.size + 1, 0, none⟩ = false := (World.frozen?_of_block (a := ⟨w.heap.size + 1, 0, none⟩) (b5.block _ (World.block_lt_of_cell? W4 ⟨w.heap.size + 1, 0, none⟩ rs))).trans rf
            have HKR5 : Hid (KeepsFrom wA.heap.size W (W5.setCell ⟨w.heap.size + 1, 0, none⟩ (.bool false))) := HK5.out.trans ((KeepsOthers.setCell _ _ _).from _)
            obtain ⟨sm, hsm⟩ : ∃ sm, (tx == xb) = sm := ⟨_, rfl⟩
            rw [hsm]
            clear SC b5 rs rf bs hBW o4'
            cases sm with
            | true =>
              clear mid hsm
              gi_wp2
              exact ⟨HK5.out, HQ5.out, HI5.out⟩
            | false =>
              have mid2 := mid (fun h => by have := h.2; simp only [Prod.mk.injEq] at this; rw [this.1] at hsm; simp at hsm) (by first | rfl | trivial)
              clear mid hsm
              gi_wp2
              exact ⟨HKR5.out, rfl, mid2⟩
          · have hm3 : ((mk.toNat : Int) != 2) = true := by
              rw [bne_iff_ne]; intro h; apply hm2; apply UInt8.toNat_inj.1; show mk.toNat = 2; omega
            have mid2 := mid (fun h => by have := h.2; simp only [Prod.mk.injEq] at this; exact hm2 this.2.1) (by first | rfl | trivial)
            clear mid hm2
            gi_wp2
            refine ⟨trivial, ?_⟩
            gi_wp2
            exact ⟨HKR.out, rfl, mid2⟩
        · have hk1 : ((kk : Int) != 0) = true := by rw [bne_iff_ne]; omega
          have mid2 := mid (fun h => by have := h.2; simp only [Prod.mk.injEq] at this; exact hk0 this.2.2) (by first | rfl | trivial)
          clear mid hk0
          gi_wp2
          refine ⟨trivial, ?_⟩
          gi_wp2
          exact ⟨HKR.out, rfl, mid2⟩
    case done =>
      intro D2 W S hD2 hF hX hd2
      rw [qL, Nat.mul_div_cancel_left _ (by decide)] at hX
      obtain ⟨hX1, _, _⟩ := hX.2 rfl
      obtain ⟨FF, gF, _, _⟩ := hF.after
      have hMW := MA.fi hF (fun e he => ⟨hnb e he, fun h => h⟩)
      have kg := hMW.get (b := xg) (v := .pointer (some ⟨r, 0, none⟩)) (t := 24) (by simp)
      have rb := hMW.bk (b := w.heap.size + 1) (v := .bool false) (t := 4) (by simp)
      have rs := rb.cell 0 _ rfl
      have rf := rb.frozen 0
      have rb2 : BK (W.setCell ⟨w.heap.size + 1, 0, none⟩ (.bool true)) (w.heap.size + 1) #[.bool true] 4 := rb.set 0 (.bool true)
      have hBW : Below w.heap.size w W := BA.trans (hF.bel (fun k hk => by rcases hFA k hk with e | e <;> omega) (fun k h => h.elim) BA.size)
      have dW : W.heap[D1]? = some (.deferred (some [])) := hF.obj dA hD1F (fun h => h)
      have hL := glost_calls gF hX1
      have hD1lt : D1 < wA.heap.size := (Array.getElem?_eq_some_iff.1 dA).1
      have hne1 : D1 ≠ w.heap.size + 1 := by omega
      have hne2 : D2 ≠ w.heap.size + 1 := by omega
      have HD : Hid (∀ D ∈ [D2, D1], (W.setCell ⟨w.heap.size + 1, 0, none⟩ (.bool true)).heap[D]? = some (.deferred (some []))) := by
        intro D hD
        simp only [List.mem_cons, List.not_mem_nil, or_false] at hD
        rcases hD with rfl | rfl
        · exact (Below.heap_setCell _ _ _ _ hne2).trans hd2
        · exact (Below.heap_setCell _ _ _ _ hne1).trans dW
      have HB : Hid (Below w.heap.size w (W.setCell ⟨w.heap.size + 1, 0, none⟩ (.bool true))) := hBW.setCell (p := ⟨w.heap.size + 1, 0, none⟩) (by show w.heap.size ≤ w.heap.size + 1; omega) _
      refine hKK2 _ _ ?_
      clear hKK2 hF hX gF hd2 dW hBW
      go_wp2_with fail
      refine hL.mono ?_
      rintro e W9 ⟨rfl, e9⟩
      rw [e9]; clear e9 hL
      go_wp2
      refine fin_marks 3 _ [D2, D1] _ w w.heap.size (w.heap.size + 1) ?_ (by simp; omega) HD.out (fun D hD => by simp only [List.mem_cons, List.not_mem_nil, or_false] at hD; rcases hD with rfl | rfl <;> omega) rb2 HB.out
      intro W' hb'
      have c3 := hb'.cell 0 _ rfl
      simp [results, Try.results6, go_sem, c3]
end Go.Proofs.Ytfmicnjijcmjaaa
