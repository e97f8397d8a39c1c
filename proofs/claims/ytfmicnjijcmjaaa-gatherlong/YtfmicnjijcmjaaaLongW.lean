/- Proved here: the walk of GatherLong. Conditions: as each theorem states them. -/
import Derived.Test.YtfmicnjijcmjaaaLongS
namespace Go.Proofs.Ytfmicnjijcmjaaa
set_option linter.unusedSimpArgs false
set_option linter.unusedVariables false
open Go.RowKit Go.Shelf
attribute [local go_sem] Oper.semAt_some

set_option maxHeartbeats 8000000 in
set_option maxRecDepth 100000 in
theorem long_in (ps : List UInt8) (hp : ps.length = 48) (many : Int) (hm0 : 0 ≤ many) (hm1 : many ≤ 255) (b : Option Addr) (lb cb : Nat) (xb : List UInt8) (w : World)
    (hb : IsB w.heap.size w b lb xb) (nb : b = none → cb = 0) (hbc : lb ≤ cb) (h3 : 0 < lb) (h4 : lb ≤ 1000) :
    CallsIn Fence.wide 3 Try.prog 7 #[.agg (payV ps), .int .u8 many, .slice b lb cb] w fun e w' => e = .returned (.bool true) ∧ Below w.heap.size w w' := by
  have d2 : decide (1000 < (lb : Int)) = false := by simp; omega
  have d4 : ((lb : Int) == 0) = false := by rw [beq_eq_false_iff_ne]; omega
  refine callsIn_of_wp_marks Try.func7 rfl trivial ?_ rfl
  refine wpIn_wide.2 (wp_calm ?_)
  simp only [Try.ntmps7, List.size_toArray, List.length_cons, List.length_nil, Nat.reduceAdd, Nat.reduceSub, Array.replicate_succ, Array.replicate_zero, List.push_toArray, List.append_toArray, List.nil_append, List.cons_append]
  obtain ⟨M0, P0, B0, z0⟩ := long_boxes w ps b lb cb
  go_wp2_with (first | (with_reducible show wpList _ _ _ (Oper.mk _ (Op.box 28 _) _ _ _ _ :: _) _ _; refine wpList_box rfl rfl rfl ?_; (try simp only [Act.put, List.setIfInBounds_toArray, List.set_cons_zero, List.set_cons_succ, World.size_alloc])) | fail)
  generalize ((w.alloc (.cells (payV ps) 28)).alloc (.cells #[.slice b lb cb] 32)).alloc (.cells #[.bool false] 4) = W0 at *
  refine (awake_calls _).mono ?_
  rintro e w1 ⟨rfl, b1⟩
  have M1 := M0.below b1 (Nat.le_refl _)
  have P1 := P0.below b1 P0.lt
  have B1 := B0.trans (b1.mono B0.size)
  have s1 := b1.size
  have c0 := M1.get (b := w.heap.size + 1) (v := .slice b lb cb) (t := 32) (by simp)
  clear b1 M0 B0 P0
  go_wp2_with fail
  refine (gnew_calls 1000 w1).mono ?_
  rintro e w3 ⟨rfl, g3, b3⟩
  have M3 := M1.below b3 (Nat.le_refl _)
  have P3 := P1.below b3 P1.lt
  have B3 := B1.trans (b3.mono B1.size)
  have hr3 : w1.heap.size < w3.heap.size := g3.x.lt _ rfl
  have hs2 : w.heap.size + 3 ≤ w1.heap.size := by omega
  clear M1 b3 B1 s1 c0 P1
  generalize w1.heap.size = r at *
  go_wp2_with fail
  have A4 : Below w3.heap.size w3 (w3.alloc (.cells #[.pointer (some ⟨r, 0, none⟩)] 24)) := (Below.refl _ w3).alloc (Nat.le_refl _) _
  have M7 := BX.cons (e := (w3.heap.size, .pointer (some ⟨r, 0, none⟩), 24)) (bk_new w3 #[.pointer (some ⟨r, 0, none⟩)] 24) (M3.below A4 (Nat.le_refl _))
  have B7 := B3.trans (A4.mono B3.size)
  have g7 := g3.below A4 (Nat.le_refl _)
  have P7 := P3.below A4 P3.lt
  have s4 : (w3.alloc (.cells #[.pointer (some ⟨r, 0, none⟩)] 24)).heap.size = w3.heap.size + 1 := by simp
  generalize w3.alloc (.cells #[.pointer (some ⟨r, 0, none⟩)] 24) = w7 at *
  clear M3 B3 A4 g3 P3
  generalize w3.heap.size = xg at *
  have hxg : ∀ e ∈ ([(xg, .pointer (some ⟨r, 0, none⟩), 24), (w.heap.size + 1, .slice b lb cb, 32), (w.heap.size + 1 + 1, .bool false, 4)] : List (Nat × Value × TypeId)), ¬ e.1 = r := by
    simp only [List.mem_cons, List.not_mem_nil, or_false]
    rintro e (rfl | rfl | rfl) <;> (dsimp only; omega)
  have HMy := many_calls 1000 (by decide) w7
  rw [show ((manyN 1000 : Nat) : Int) = 21 from rfl] at HMy
  refine HMy.mono ?_
  rintro e w7' ⟨rfl, e7⟩
  rw [e7]; clear e7 HMy
  have I7 : FI w7 (fun k => k = r) (fun _ => False) r (Ga.mk0 1000) w7 := FI.init g7 (fun k h => h.elim)
  obtain ⟨c, hc⟩ : ∃ c : Nat, many = (c : Int) := ⟨many.toNat, by omega⟩
  subst hc
  have hc1 : c ≤ 255 := by omega
  have wc : IntKind.i64.wrap (c : Int) = (c : Int) := by rw [IntKind.wrap_i64]; omega
  clear hm0 hm1
  go_wp2
  go_loopw [46] (fun iv wr => ∃ (i : Nat) (S : Ga), i ≤ 21 ∧ iv = .int .i64 i ∧ FI w7 (fun k => k = r) (fun _ => False) r S wr ∧ LongP i S) (fun iv _ => 21 - (intOf iv).toNat)
  case atStart => exact ⟨0, _, by omega, rfl, I7, ⟨fun _ => ⟨rfl, rfl, rfl, rfl⟩, fun h => by omega⟩⟩
  case round =>
    obtain ⟨i, S, hi, rfl, hF, hP⟩ := hrel
    by_cases hlt : i < 21
    · have hMW := M7.fi hF (fun e he => ⟨hxg e he, fun h => h⟩)
      have PW := hF.bk P7 (by show ¬ w.heap.size = r; omega) (fun h => h)
      have kg := hMW.get (b := xg) (v := .pointer (some ⟨r, 0, none⟩)) (t := 24) (by simp)
      have HT := hF.take (fun k h => h.elim) 0 (by have := (hP.more hlt).2.2.1; omega) 0 (by decide) (by decide) ps hp false
      obtain ⟨hP1, hP2⟩ := hP.next hlt ps hp
      have HP1 : Hid (LongP (i + 1) (S.take 0 ps false).1) := hP1
      rw [hP2] at HT
      have hld := run_ld24 wr _ _ _ PW hp
      clear hP hP1 hP2 PW hMW
      generalize (S.take 0 ps false).1 = S' at *
      go_wp2_with (first | (with_reducible show wpList _ _ _ (Oper.mk _ (Op.load 28 _) _ _ _ _ :: _) _ _; refine wpList_ld rfl rfl rfl hld ?_; (try simp only [Act.put, List.setIfInBounds_toArray, List.set_cons_zero, List.set_cons_succ, World.size_alloc])) | fail)
      refine HT.mono ?_
      rintro e W4 ⟨⟨a4, c4, rfl, o4⟩, hF4, _, _, _⟩
      clear HT hld kg o4
      dsimp only
      by_cases hi2 : i = 20
      · subst hi2
        rw [if_pos rfl]
        go_wp2
        go_roundw
        case rel => exact ⟨21, S', by omega, by go_num, hF4, HP1.out⟩
        case measure => simp [intOf]
      · rw [if_neg hi2]
        have q1 : ((i : Int) == 20) = false := by rw [beq_eq_false_iff_ne]; omega
        clear hi2
        go_wp2
        go_roundw
        case rel => exact ⟨i + 1, S', by omega, by go_num, hF4, HP1.out⟩
        case measure => simp [intOf]; omega
    · obtain rfl : i = 21 := by omega
      obtain ⟨k1, x1, l1⟩ := hP.full rfl
      obtain ⟨wa, hwa⟩ : ∃ wa, wa = wr := ⟨_, rfl⟩
      subst hwa
      clear hP hlt hi I7
      go_wp2
      go_loopw [70] (fun iv wv => ∃ (i : Nat) (S : Ga), i ≤ c ∧ iv = .int .i64 i ∧ FI w7 (fun k => k = r) (fun _ => False) r S wv ∧ S.k = true ∧ S.xs = [] ∧ S.l = 1) (fun iv _ => c - (intOf iv).toNat)
      case atStart => exact ⟨0, S, by omega, rfl, hF, k1, x1, l1⟩
      case round =>
        clear hF k1 x1 l1
        obtain ⟨i, S, hi, rfl, hF, k1, x1, l1⟩ := hrel
        have hMW := M7.fi hF (fun e he => ⟨hxg e he, fun h => h⟩)
        have PW := hF.bk P7 (by show ¬ w.heap.size = r; omega) (fun h => h)
        have kg := hMW.get (b := xg) (v := .pointer (some ⟨r, 0, none⟩)) (t := 24) (by simp)
        have hld := run_ld24 wr _ _ _ PW hp
        by_cases hlt : i < c
        · have HT := hF.take (fun k h => h.elim) 0 (by omega) 0 (by decide) (by decide) ps hp false
          obtain ⟨t1, t2, t3, t4⟩ := skip_take k1 x1 l1 ps false
          rw [t4] at HT
          clear PW hMW k1 x1 l1
          generalize (S.take 0 ps false).1 = S' at *
          go_wp2_with (first | (with_reducible show wpList _ _ _ (Oper.mk _ (Op.load 28 _) _ _ _ _ :: _) _ _; refine wpList_ld rfl rfl rfl hld ?_; (try simp only [Act.put, List.setIfInBounds_toArray, List.set_cons_zero, List.set_cons_succ, World.size_alloc])) | fail)
          refine HT.mono ?_
          rintro e W4 ⟨⟨a4, c4, rfl, o4⟩, hF4, _, _, _⟩
          have hM4 := M7.fi hF4 (fun e he => ⟨hxg e he, fun h => h⟩)
          clear HT hld kg o4
          have kg := hM4.get (b := xg) (v := .pointer (some ⟨r, 0, none⟩)) (t := 24) (by simp)
          obtain ⟨F4, g4, _, _⟩ := hF4.after
          have hPt := gparts_calls g4 (p := 0) (by rw [t2]; rfl)
          dsimp only
          go_wp2_with fail
          refine hPt.mono ?_
          rintro e W5 ⟨rfl, e5⟩
          rw [e5]; clear e5 hPt
          go_wp2
          go_roundw
          case rel => exact ⟨_, _, _, _, _, _, _, _, _, _, _, _, _, _, _, _, _, _, _, _, ⟨i + 1, S', by omega, by go_num, hF4, t1, t2, t3⟩, rfl⟩
          case measure => simp [intOf]; omega
        · obtain rfl : i = c := by omega
          have HT := hF.take (fun k h => h.elim) 0 (by omega) 0 (by decide) (by decide) ps hp true
          obtain ⟨t1, t2, t3, t4⟩ := skip_take k1 x1 l1 ps true
          rw [t4] at HT
          clear PW hMW k1 x1 l1
          generalize (S.take 0 ps true).1 = S9 at *
          go_wp2_with (first | (with_reducible show wpList _ _ _ (Oper.mk _ (Op.load 28 _) _ _ _ _ :: _) _ _; refine wpList_ld rfl rfl rfl hld ?_; (try simp only [Act.put, List.setIfInBounds_toArray, List.set_cons_zero, List.set_cons_succ, World.size_alloc])) | fail)
          refine HT.mono ?_
          rintro e W4 ⟨⟨a4, c4, rfl, o4⟩, hF4, _, _, _⟩
          have hM4 := M7.fi hF4 (fun e he => ⟨hxg e he, fun h => h⟩)
          have P4 := hF4.bk P7 (by show ¬ w.heap.size = r; omega) (fun h => h)
          have B4 : Below w.heap.size w W4 := B7.trans (hF4.bel (fun k (e : k = r) => by omega) (fun k h => h.elim) B7.size)
          have s4' := hF4.size
          obtain ⟨F9, g4, _, k4⟩ := hF4.after
          have hF9 : ∀ k, F9 k → k = r ∨ w7.heap.size ≤ k := fun k hk => by
            rcases k4.new k (.inl hk) with (e | e) | e
            · exact .inl e
            · exact e.elim
            · exact .inr e
          clear HT hld kg o4 hF4 k4 hF
          have c0 := hM4.get (b := w.heap.size + 1) (v := .slice b lb cb) (t := 32) (by simp)
          dsimp only
          go_wp2_with fail
          have HP := pack_calls b lb cb xb 2 W4 (hb.below B4 (Nat.le_refl _)) B4.size nb (by omega) h4
          rw [show (((2 : UInt8)).toNat : Int) = 2 from rfl] at HP
          refine HP.mono ?_
          rintro e W9 ⟨aq, cq, rfl, q9, b9⟩
          have M9 := hM4.below b9 (Nat.le_refl _)
          have hP9 := P4.below b9 P4.lt
          have B9 := B4.trans (b9.mono B4.size)
          have g9 := g4.below b9 (Nat.le_refl _)
          have s9 := b9.size
          have hMq1 := many_eq (n := lb) (by omega)
          obtain ⟨Mq, hMq⟩ : ∃ Mq, manyN lb = Mq := ⟨_, rfl⟩
          rw [hMq] at hMq1 q9
          have m3 : 1 ≤ Mq := by omega
          have m4 : Mq ≤ 21 := by omega
          have LB : Hid (lb = xb.length) := hb.1
          have HUB : Hid (unpackN (frameN xb 2) = (xb, 2, 0)) := unpack_frame 2 (by have := LB.out; omega) (by have := LB.out; omega)
          have qL := frame_len (t := xb) 2 (by have := LB.out; omega)
          rw [← LB.out, hMq] at qL
          have hAt9 : At S9 (frameN xb 2) 0 0 1 := At.nil t1 t2 t3
          have hl9 : S9.l ≤ 1 + 2 * 0 := by omega
          clear HP hM4 P4 B4 g4 b9 c0 hMq1 t1 t2 t3
          go_wp2_with fail
          -- the second frame, from the world W9 on
          have qI := q9.isB
          refine (cells_calls aq (48 * Mq) cq _ W9 qI.1 (Nat.le_refl _) qI.2.1 (by omega)).mono ?_
          rintro e wA ⟨Bp2, gq2, a9, c9, rfl, hBp2, hc9, hg3, hg4, hG2, bA⟩
          have MA := M9.below bA (Nat.le_refl _)
          have BA := B9.trans (bA.mono B9.size)
          have gA := g9.below bA (Nat.le_refl _)
          have sA := bA.size
          have hFA : ∀ k, F9 k → k = r ∨ w7.heap.size ≤ k := hF9
          have hF9lt : ∀ k, F9 k → k < W9.heap.size := g9.x.lt
          clear M9 B9 g9 q9 qI hF9
          have PA : ∀ (W : World) {S : Ga}, FI wA F9 (fun _ => False) r S W → BK W w.heap.size (payV ps) 28 := fun W S h => h.bk (hP9.below bA hP9.lt) (fun h => by rcases hFA _ h with e | e <;> omega) (fun h => h)
          clear bA
          go_wp2
          rename_i KK2 hKK2
          refine (wpIn_wide (n := 3)).1 ?_
          have hnb : ∀ e ∈ ([(xg, .pointer (some ⟨r, 0, none⟩), 24), (w.heap.size + 1, .slice b lb cb, 32), (w.heap.size + 1 + 1, .bool false, 4)] : List (Nat × Value × TypeId)), ¬ F9 e.1 := by
            intro e he hF
            have h1 := hxg e he
            have h2 := M7.lt e he
            rcases hFA _ hF with h | h
            · exact h1 h
            · omega
          refine range_feed 101 102 21 (some 22) (F0 := F9) (E := fun _ => False) rfl hBp2 hG2 hc9 hg4 (by omega) gA (fun k h => h.elim) (fun k h => h.elim) (fun h => by have := hF9lt _ h; omega) (fun h => h) rfl
            (fun j S _ => FeedX (frameN xb 2) Mq 0 1 1 j S) (fun j S _ => S.l ≤ 1 + 2 * j) same_own same_own (fun _ _ _ _ h => h) (fun _ _ _ _ h => h) ⟨fun _ => hAt9, fun h => by omega⟩ hl9 ?assign ?body ?done
          case assign =>
            intro l ck Lx W K hcl hK
            (simp only [feedT, List.setIfInBounds_toArray, List.set_cons_zero, List.set_cons_succ] at hK; gi_wp2_with (with_reducible show wpListIn _ _ _ _ _ (Oper.mk _ (Op.alloc 28) _ _ _ _ :: _) _ _; revert hcl); intro hcl; refine wpListIn_def rfl rfl rfl rfl rfl rfl zero40 (by rw [size24, payV_size, hcl]) (by rw [payV_size, payV_size, hcl]; simp [zer]) (payV_one _) ?_; (try simp only [Act.put, List.setIfInBounds_toArray, List.set_cons_zero, List.set_cons_succ, World.size_alloc]); generalize W.alloc (.cells (payV ck) 28) = WA at *; gi_wp2; exact hK)
          case body =>
            intro l pre x ck Lx W S Bx hck hLx hl hlo hF hY hX hBx bX hcl hlt
            have hMW := MA.fi hF (fun e he => ⟨hnb e he, fun h => h⟩)
            have kg := hMW.get (b := xg) (v := .pointer (some ⟨r, 0, none⟩)) (t := 24) (by simp)
            rw [qL, Nat.mul_div_cancel_left _ (by decide)] at hlt
            have HT := hF.take (fun k h => h.elim) wA.heap.size (by omega) 0 (by omega) (by omega) ck hcl Lx
            have hld := run_ld24 W Bx _ _ bX hcl
            have HY' : Hid ((S.take 0 ck Lx).1.l ≤ 1 + 2 * (pre.length + 1)) := by show _ ≤ _; have := S.take_l 0 ck Lx; omega
            have htx : (S.take 0 ck Lx).2.1.length ≤ 1008 := by obtain ⟨F', gg, _, _⟩ := hF.ex; exact Ga.take_text gg.fit _ _ _ hcl
            have HX' : (pre ++ [x]).map (·.1) = List.range (pre ++ [x]).length → FeedX (frameN xb 2) Mq 0 1 1 (pre.length + 1) (S.take 0 ck Lx).1 ∧ (S.take 0 ck Lx).2 = (if pre.length + 1 = Mq then (xb, 2, 0) else ([], 0, 2)) ∧ Lx = decide (pre.length + 1 = Mq) := by
              intro h
              obtain ⟨h1, h2⟩ := order_next h
              rw [h2] at hck hLx
              rw [hck, hLx]
              exact (hX h1).next qL m4 HUB.out rfl hlt
            have HLN : Hid ((pre ++ [x]).length = pre.length + 1) := by show _ = _; simp
            obtain ⟨u, hu⟩ : ∃ u, S.take 0 ck Lx = u := ⟨_, rfl⟩
            rw [hu] at HT HY' HX' htx
            clear hu hX hY hck hLx
            have mid : ¬ (pre.length + 1 = Mq ∧ u.2 = (xb, 2, 0)) → Lx = true → ¬ (pre ++ [x]).map (·.1) = List.range (pre ++ [x]).length := by
              intro h1 h2 h3
              obtain ⟨_, h5, h6⟩ := HX' h3
              rw [h2] at h6
              have h7 : pre.length + 1 = Mq := of_decide_eq_true h6.symm
              rw [if_pos h7] at h5
              exact h1 ⟨h7, h5⟩
            have HXI : Hid ((pre ++ [x]).map (·.1) = List.range (pre ++ [x]).length → FeedX (frameN xb 2) Mq 0 1 1 (pre.length + 1) u.1) := fun h => (HX' h).1
            clear HX'
            simp only [feedT, List.setIfInBounds_toArray, List.set_cons_zero, List.set_cons_succ]
            gi_wp2_with (with_reducible show wpListIn _ _ _ _ _ (Oper.mk _ (Op.load 28 _) _ _ _ _ :: _) _ _; revert hld)
            intro hld
            refine wpListIn_ld rfl rfl rfl hld ?_
            (try simp only [Act.put, List.setIfInBounds_toArray, List.set_cons_zero, List.set_cons_succ, World.size_alloc])
            clear hld
            gi_wp2_with fail
            refine ⟨trivial, ?_⟩
            gi_at_call 15
            refine (CallsIn.inRound l (callsIn_wide.2 HT)).mono ?_
            rintro e W4 ⟨⟨a4, c4, rfl, o4⟩, hF4, hK4, hS4, _⟩
            have HKQ : Hid (Kq gq2 W W4) := hF.kq hF4 hS4 hg4 (fun h => by have := hF9lt _ h; omega) (fun h => h)
            have HI : Hid (feedI (zs := frameN xb 2) wA F9 (fun _ => False) r (fun j S _ => FeedX (frameN xb 2) Mq 0 1 1 j S) (fun j S _ => S.l ≤ 1 + 2 * j) (pre ++ [x]) W4) := ⟨u.1, hF4, by show u.1.l ≤ 1 + 2 * (pre ++ [x]).length; rw [HLN.out]; exact HY'.out, fun h => by show FeedX _ _ _ _ _ (pre ++ [x]).length _; rw [HLN.out]; exact HXI.out h⟩
            have HK4 : Hid (KeepsFrom wA.heap.size W W4) := hK4
            have hM4 := MA.fi hF4 (fun e he => ⟨hnb e he, fun h => h⟩)
            have rs := hM4.get (b := w.heap.size + 1 + 1) (v := .bool false) (t := 4) (by simp)
            have rf := hM4.fz (b := w.heap.size + 1 + 1) (v := .bool false) (t := 4) (by simp)
            have bs := hM4.get (b := w.heap.size + 1) (v := .slice b lb cb) (t := 32) (by simp)
            have HKR : Hid (KeepsFrom wA.heap.size W (W4.setCell ⟨w.heap.size + 1 + 1, 0, none⟩ (.bool false))) := hK4.trans ((KeepsOthers.setCell _ _ _).from _)
            have hBW : Below w.heap.size w W4 := BA.trans (hF4.bel (fun k hk => by rcases hFA k hk with e | e <;> omega) (fun k h => h.elim) BA.size)
            have o4' : IsB W4.heap.size W4 a4 u.2.1.length u.2.1 := o4.isB.1
            clear HT kg hF4 hK4 hM4 o4 hF hMW
            obtain ⟨S', tx, mk, kk⟩ := u
            dsimp only at mid htx o4' ⊢
            cases Lx with
            | false =>
              clear mid
              gi_wp2
              all_goals first
                | (rename_i hu hu2; exact absurd (Option.some.inj hu) (by simp [undef]))
                | (refine ⟨trivial, ?_⟩; gi_wp2; all_goals first | exact ⟨HK4.out, HKQ.out, HI.out⟩ | (rename_i hu hu2; exact absurd (Option.some.inj hu) (by simp [undef])))
            | true =>
              by_cases hk0 : kk = 0
              · subst hk0
                have SC := same_calls a4 b tx.length c4 lb cb tx xb W4 o4' (hb.below hBW (Nat.le_refl _)) (Nat.le_refl _) hBW.size (by omega)
                gi_wp2_with fail
                refine ⟨trivial, ?_⟩
                gi_at_call 17
                refine (CallsIn.inRound l (callsIn_wide.2 SC)).mono ?_
                rintro e W5 ⟨rfl, b5⟩
                have rs5 : W5.cell? ⟨w.heap.size + 1 + 1, 0, none⟩ = some (.bool false) := (b5.cell (p := ⟨w.heap.size + 1 + 1, 0, none⟩) (World.block_lt_of_cell? W4 ⟨w.heap.size + 1 + 1, 0, none⟩ rs)).trans rs
                have HK5 : Hid (KeepsFrom wA.heap.size W W5) := HK4.out.trans (Ft.keeps (F := fun _ => False) (F' := fun _ => False) (Ft.of b5 (Nat.le_refl _)) (fun k h => h.elim) _)
                have HQ5 : Hid (Kq gq2 W W5) := ⟨Nat.le_trans HKQ.out.size b5.size, (b5.block gq2 (Nat.lt_of_lt_of_le hg4 (by obtain ⟨S9, h9, _, _⟩ := HI.out; exact h9.size))).trans HKQ.out.block⟩
                have HI5 : Hid (feedI (zs := frameN xb 2) wA F9 (fun _ => False) r (fun j S _ => FeedX (frameN xb 2) Mq 0 1 1 j S) (fun j S _ => S.l ≤ 1 + 2 * j) (pre ++ [x]) W5) := by
                  obtain ⟨S9, h9, h10, h11⟩ := HI.out
                  exact ⟨S9, h9.below b5 (Nat.le_refl _), h10, h11⟩
                have rf5 : W5.frozen? ⟨w.heap.size + 1 + 1, 0, none⟩ = false := (World.frozen?_of_block (a := ⟨w.heap.size + 1 + 1, 0, none⟩) (b5.block _ (World.block_lt_of_cell? W4 ⟨w.heap.size + 1 + 1, 0, none⟩ rs))).trans rf
                have HKR5 : Hid (KeepsFrom wA.heap.size W (W5.setCell ⟨w.heap.size + 1 + 1, 0, none⟩ (.bool false))) := HK5.out.trans ((KeepsOthers.setCell _ _ _).from _)
                obtain ⟨sm, hsm⟩ : ∃ sm, (tx == xb) = sm := ⟨_, rfl⟩
                rw [hsm]
                clear SC b5 rs rf bs hBW o4'
                cases sm with
                | true =>
                  clear mid hsm
                  gi_wp2
                  exact ⟨HK5.out, HQ5.out, HI5.out⟩
                | false =>
                  have mid2 := mid (fun h => by have := h.2; simp only [Prod.mk.injEq] at this; rw [this.1] at hsm; simp at hsm) (by first | rfl | trivial)
                  clear mid hsm
                  gi_wp2
                  exact ⟨HKR5.out, rfl, mid2⟩
              · have hk1 : ((kk : Int) != 0) = true := by rw [bne_iff_ne]; omega
                have mid2 := mid (fun h => by have := h.2; simp only [Prod.mk.injEq] at this; exact hk0 this.2.2) (by first | rfl | trivial)
                clear mid hk0
                gi_wp2
                refine ⟨trivial, ?_⟩
                gi_wp2
                exact ⟨HKR.out, rfl, mid2⟩
          case done =>
            intro D2 W S hD2 hF hX hd2
            rw [qL, Nat.mul_div_cancel_left _ (by decide)] at hX
            obtain ⟨hX1, _, _⟩ := hX.2 rfl
            obtain ⟨FF, gF, _, _⟩ := hF.after
            have gFW := gF
            have hFW := hF
            have HDW : Hid (W.heap[D2]? = some (.deferred (some []))) := hd2
            have hMW := MA.fi hF (fun e he => ⟨hnb e he, fun h => h⟩)
            have kg := hMW.get (b := xg) (v := .pointer (some ⟨r, 0, none⟩)) (t := 24) (by simp)
            have rb := hMW.bk (b := w.heap.size + 1 + 1) (v := .bool false) (t := 4) (by simp)
            have rs := rb.cell 0 _ rfl
            have rf := rb.frozen 0
            have rb2 : BK (W.setCell ⟨w.heap.size + 1 + 1, 0, none⟩ (.bool true)) (w.heap.size + 1 + 1) #[.bool true] 4 := rb.set 0 (.bool true)
            have hBW : Below w.heap.size w W := BA.trans (hF.bel (fun k hk => by rcases hFA k hk with e | e <;> omega) (fun k h => h.elim) BA.size)
            have HBW : Hid (Below w.heap.size w W) := hBW
            have hL := glost_calls gF hX1
            have hne2 : D2 ≠ w.heap.size + 1 + 1 := by omega
            have HD : Hid (∀ D ∈ [D2], (W.setCell ⟨w.heap.size + 1 + 1, 0, none⟩ (.bool true)).heap[D]? = some (.deferred (some []))) := by
              intro D hD
              simp only [List.mem_cons, List.not_mem_nil, or_false] at hD
              subst hD
              exact (Below.heap_setCell _ _ _ _ hne2).trans hd2
            have HB : Hid (Below w.heap.size w (W.setCell ⟨w.heap.size + 1 + 1, 0, none⟩ (.bool true))) := hBW.setCell (p := ⟨w.heap.size + 1 + 1, 0, none⟩) (by show w.heap.size ≤ w.heap.size + 1 + 1; omega) _
            refine hKK2 _ _ ?_
            clear hKK2 hF hX gF hd2 hBW
            have P9 := PA W hFW
            have hld := run_ld24 W _ _ _ P9 hp
            go_wp2_with (first | (with_reducible show wpList _ _ _ (Oper.mk _ (Op.load 28 _) _ _ _ _ :: _) _ _; refine wpList_ld rfl rfl rfl hld ?_; (try simp only [Act.put, List.setIfInBounds_toArray, List.set_cons_zero, List.set_cons_succ, World.size_alloc])) | fail)
            refine (nil_take 0 ps true W).mono ?_
            rintro e WX ⟨rfl, bX⟩
            have kg' := (bX.cell (p := ⟨xg, 0, none⟩) (World.block_lt_of_cell? W ⟨xg, 0, none⟩ kg)).trans kg
            have rb' := rb.below bX rb.lt
            have gF' := gFW.below bX (Nat.le_refl _)
            have rs' := rb'.cell 0 _ rfl
            have rf' := rb'.frozen 0
            have hL' := glost_calls gF' hX1
            have HB' : Hid (Below w.heap.size w WX) := HBW.out.trans (bX.mono HBW.out.size)
            have HD' : Hid (WX.heap[D2]? = some (.deferred (some []))) := (bX.block D2 (Array.getElem?_eq_some_iff.1 HDW.out).1).trans HDW.out
            clear rs rf rb rb2 kg HB HD hL hld P9
            go_wp2_with fail
            refine hL'.mono ?_
            rintro e W8 ⟨rfl, e8⟩
            rw [e8]; clear e8
            go_wp2_with fail
            refine (nil_tick 0 WX).mono ?_
            rintro e WY ⟨rfl, e8⟩
            rw [e8]; clear e8
            go_wp2_with fail
            refine (nil_parts WX.drew).mono ?_
            rintro e W8 ⟨rfl, e8⟩
            rw [e8]; clear e8
            go_wp2_with fail
            refine (nil_lost WX.drew).mono ?_
            rintro e W8 ⟨rfl, e8⟩
            rw [e8]; clear e8
            have rbd : BK WX.drew (w.heap.size + 1 + 1) #[.bool false] 4 := rb'
            have rsd := rbd.cell 0 _ rfl
            have rfd := rbd.frozen 0
            have rb2 : BK (WX.drew.setCell ⟨w.heap.size + 1 + 1, 0, none⟩ (.bool true)) (w.heap.size + 1 + 1) #[.bool true] 4 := rbd.set 0 (.bool true)
            have HD : Hid (∀ D ∈ [D2], (WX.drew.setCell ⟨w.heap.size + 1 + 1, 0, none⟩ (.bool true)).heap[D]? = some (.deferred (some []))) := by
              intro D hD
              simp only [List.mem_cons, List.not_mem_nil, or_false] at hD
              subst hD
              exact (Below.heap_setCell _ _ _ _ hne2).trans HD'.out
            have HB : Hid (Below w.heap.size w (WX.drew.setCell ⟨w.heap.size + 1 + 1, 0, none⟩ (.bool true))) := HB'.out.drew.setCell (p := ⟨w.heap.size + 1 + 1, 0, none⟩) (by show w.heap.size ≤ w.heap.size + 1 + 1; omega) _
            clear rs' rf' kg' bX
            go_wp2
            refine fin_marks 3 _ [D2] _ w w.heap.size (w.heap.size + 1 + 1) ?_ (by simp) HD.out (fun D hD => by simp only [List.mem_cons, List.not_mem_nil, or_false] at hD; subst hD; omega) rb2 HB.out
            intro W' hb'
            have c3 := hb'.cell 0 _ rfl
            simp [results, Try.results7, go_sem, c3]
end Go.Proofs.Ytfmicnjijcmjaaa
