/- Proved here: the walk of ConnsAgain. Conditions: as each theorem states them. -/
import Derived.Test.YtgimmaancnlbcaaAgP
namespace Go.Proofs.Ytgimmaancnlbcaa
set_option linter.unusedSimpArgs false
set_option linter.unusedVariables false
open Go.RowKit Go.Shelf
attribute [local go_sem] Oper.semAt_some

theorem again_fin (TT : Array Value) (D : Nat) (Z w : World) (hT : TT.getD 4 undef = .bool true) (hd : Z.heap[D]? = some (.deferred (some []))) (hB : Below w.heap.size w Z) (hDn : w.heap.size ≤ D) :
    calm (bodyPostM Fence.wide 3 Try.prog Try.f8 (fun e w' => e = .returned (.bool true) ∧ Below w.heap.size w w')) .ret { tmps := TT, defers := [{ target := .collected D, args := #[] }] } Z := by
  refine ⟨by simp, .inl ⟨D, _, rfl, run_takeDeferred hd, ?_⟩⟩
  exact ⟨_, results_tmp rfl _ _ _, by rw [hT], hB.trans ⟨rfl, rfl, rfl, by simp, fun k hk => World.putObj_heap_other (by omega)⟩⟩

set_option maxHeartbeats 8000000 in
set_option maxRecDepth 100000 in
theorem again_in (s1 s2 : Option Addr) (len1 cap1 len2 cap2 : Nat) (M1 M2 : List En) (hl1 : len1 ≤ 30) (hl2 : len2 ≤ 30) (w : World) (hL1 : IsE w.heap.size w s1 len1 M1) (hL2 : IsE w.heap.size w s2 len2 M2) :
    CallsIn Fence.wide 3 Try.prog 8 #[.slice s1 len1 cap1, .slice s2 len2 cap2] w fun e w' => e = .returned (.bool true) ∧ Below w.heap.size w w' := by
  have q1 : decide (30 < (len1 : Int)) = false := by simp; omega
  have q2 : decide (30 < (len2 : Int)) = false := by simp; omega
  have R64 : roomN 64 = 64 := by decide
  refine callsIn_of_wp_marks Try.func8 rfl trivial ?_ rfl
  refine wpIn_wide.2 (wp_calm ?_)
  simp only [Try.ntmps8, List.size_toArray, List.length_cons, List.length_nil, Nat.reduceAdd, Nat.reduceSub, Array.replicate_succ, Array.replicate_zero, List.push_toArray, List.append_toArray, List.nil_append, List.cons_append]
  go_wp2_with fail
  refine (awake_calls _).mono ?_
  rintro x w1 ⟨rfl, b1⟩
  go_wp2_with fail
  refine (new_calls 64 _).mono ?_
  rintro x w2 ⟨rfl, T2, b2⟩
  rw [R64] at T2
  have B2 := b1.trans (b2.mono b1.size)
  have hr := b1.size
  have hrt := T2.lt
  generalize w1.heap.size = t at *
  go_wp2_with fail
  refine (new_calls 64 _).mono ?_
  rintro x w3 ⟨rfl, U3, b3⟩
  rw [R64] at U3
  have T3 := T2.below b3 T2.lt
  have B3 := B2.trans (b3.mono B2.size)
  have hut := U3.lt
  generalize w2.heap.size = u at *
  clear T2 B2 b1 b2 b3 R64
  have b4 := below_box w3 (.cells #[.pointer (some ⟨u, 0, none⟩)] 26)
  have K4 := bk_new w3 #[.pointer (some ⟨u, 0, none⟩)] 26
  have T4 := T3.below b4 T3.lt
  have U4 := U3.below b4 U3.lt
  have B4 := B3.trans (b4.mono B3.size)
  go_wp2
  generalize w3.alloc (.cells #[.pointer (some ⟨u, 0, none⟩)] 26) = w4 at *
  generalize w3.heap.size = bu at *
  clear T3 U3 B3 b4
  go_loopw [33] (fun iv wr => ∃ (i : Nat), i ≤ len1 ∧ iv = .int .i64 i ∧ TB wr t (putsL 64 [] (M1.take i)) 64 ∧ TB wr u [] 64 ∧ BK wr bu #[.pointer (some ⟨u, 0, none⟩)] 26 ∧ Below w.heap.size w wr) (fun iv _ => len1 - (intOf iv).toNat)
  case atStart => exact ⟨0, Nat.zero_le _, rfl, T4, U4, K4, B4⟩
  case round =>
    obtain ⟨i, hi, rfl, T5, U5, K5, B5⟩ := hrel
    clear T4 U4 K4 B4
    by_cases hlt : i < len1
    · obtain ⟨g, off, x, rfl, hg, hx, hc⟩ := hL1.at hlt
      obtain ⟨c0, c1, c2, c3⟩ := hc _ B5
      have HP : Hid (putL (putsL 64 [] (M1.take i)) 64 (x.1, x.2) = putsL 64 [] (M1.take (i + 1))) := (putsL_take hx).symm
      clear hx hL2
      go_wp2
      refine wp_region_held_drew (S := (fun w' => w'.cell? ⟨g, off + i * 4, none⟩ = some (.int .i64 x.1.1) ∧ w'.cell? ⟨g, off + i * 4 + 1, none⟩ = some (.int .i64 x.1.2.1) ∧ w'.cell? ⟨g, off + i * 4 + 1 + 1, none⟩ = some (.int .i64 x.1.2.2) ∧ w'.cell? ⟨g, off + i * 4 + 1 + 1 + 1, none⟩ = some (.int .i64 x.2))) (by kernel_rfl) ⟨c0, c1, c2, c3⟩ (fun hHeld => ?_)
      refine wpAnyH_take (i := 0) (oi := ({ dst := some 36, op := Op.move (Operand.tmp 5), type := 26, pos := _, after := #[], guard := none } : Oper)) (v := ?_) rfl (by kernel_rfl) (by kernel_rfl) (by kernel_rfl) (fun _ _ _ h => h) (Or.inl ⟨by rfl, ?_⟩) hHeld ?_
      rotate_left
      · (intro w hS; go_simp; try with_reducible rfl)
      try simp only [Act.put, List.setIfInBounds_toArray, List.set_cons_zero, List.set_cons_succ]
      refine wpAnyH_take (i := 1) (oi := ({ dst := some 37, op := Op.move (Operand.tmp 0), type := 22, pos := _, after := #[], guard := none } : Oper)) (v := ?_) rfl (by kernel_rfl) (by kernel_rfl) (by kernel_rfl) (fun _ _ _ h => h) (Or.inl ⟨by rfl, ?_⟩) hHeld ?_
      rotate_left
      · (intro w hS; go_simp; try with_reducible rfl)
      try simp only [Act.put, List.setIfInBounds_toArray, List.set_cons_zero, List.set_cons_succ]
      refine wpAnyH_take (i := 2) (oi := ({ dst := some 38, op := Op.move (Operand.tmp 7), type := 3, pos := _, after := #[], guard := none } : Oper)) (v := ?_) rfl (by kernel_rfl) (by kernel_rfl) (by kernel_rfl) (fun _ _ _ h => h) (Or.inl ⟨by rfl, ?_⟩) hHeld ?_
      rotate_left
      · (intro w hS; go_simp; try with_reducible rfl)
      try simp only [Act.put, List.setIfInBounds_toArray, List.set_cons_zero, List.set_cons_succ]
      refine wpAnyH_take (i := 3) (oi := ({ dst := some 39, op := Op.indexAddr 22 (Operand.tmp 37) (Operand.tmp 38), type := 0, pos := _, after := #[{ on := 1, ground := Ground.data }, { on := 2, ground := Ground.data }], guard := none } : Oper)) (v := ?_) rfl (by kernel_rfl) (by kernel_rfl) (by kernel_rfl) (fun _ _ _ h => h) (Or.inl ⟨by rfl, ?_⟩) hHeld ?_
      rotate_left
      · (intro w hS; go_simp; try with_reducible rfl)
      try simp only [Act.put, List.setIfInBounds_toArray, List.set_cons_zero, List.set_cons_succ]
      refine wpAnyH_take (i := 4) (oi := ({ dst := some 40, op := Op.fieldAddr 31 (Operand.tmp 39) 0, type := 0, pos := _, after := #[{ on := 3, ground := Ground.data }], guard := none } : Oper)) (v := ?_) rfl (by kernel_rfl) (by kernel_rfl) (by kernel_rfl) (fun _ _ _ h => h) (Or.inl ⟨by rfl, ?_⟩) hHeld ?_
      rotate_left
      · (intro w hS; go_simp; try with_reducible rfl)
      try simp only [Act.put, List.setIfInBounds_toArray, List.set_cons_zero, List.set_cons_succ]
      refine wpAnyH_take (i := 5) (oi := ({ dst := some 41, op := Op.load 24 (Operand.tmp 40), type := 24, pos := _, after := #[{ on := 4, ground := Ground.data }], guard := none } : Oper)) (v := ?_) rfl (by kernel_rfl) (by kernel_rfl) (by kernel_rfl) (fun _ _ _ h => h) (Or.inl ⟨by rfl, ?_⟩) hHeld ?_
      rotate_left
      · (intro w hS; go_simp; try with_reducible rfl)
      try simp only [Act.put, List.setIfInBounds_toArray, List.set_cons_zero, List.set_cons_succ]
      refine wpAnyH_take (i := 6) (oi := ({ dst := some 42, op := Op.move (Operand.tmp 0), type := 22, pos := _, after := #[], guard := none } : Oper)) (v := ?_) rfl (by kernel_rfl) (by kernel_rfl) (by kernel_rfl) (fun _ _ _ h => h) (Or.inl ⟨by rfl, ?_⟩) hHeld ?_
      rotate_left
      · (intro w hS; go_simp; try with_reducible rfl)
      try simp only [Act.put, List.setIfInBounds_toArray, List.set_cons_zero, List.set_cons_succ]
      refine wpAnyH_take (i := 7) (oi := ({ dst := some 43, op := Op.move (Operand.tmp 7), type := 3, pos := _, after := #[], guard := none } : Oper)) (v := ?_) rfl (by kernel_rfl) (by kernel_rfl) (by kernel_rfl) (fun _ _ _ h => h) (Or.inl ⟨by rfl, ?_⟩) hHeld ?_
      rotate_left
      · (intro w hS; go_simp; try with_reducible rfl)
      try simp only [Act.put, List.setIfInBounds_toArray, List.set_cons_zero, List.set_cons_succ]
      refine wpAnyH_take (i := 8) (oi := ({ dst := some 44, op := Op.indexAddr 22 (Operand.tmp 42) (Operand.tmp 43), type := 0, pos := _, after := #[{ on := 6, ground := Ground.data }, { on := 7, ground := Ground.data }], guard := none } : Oper)) (v := ?_) rfl (by kernel_rfl) (by kernel_rfl) (by kernel_rfl) (fun _ _ _ h => h) (Or.inl ⟨by rfl, ?_⟩) hHeld ?_
      rotate_left
      · (intro w hS; go_simp; try with_reducible rfl)
      try simp only [Act.put, List.setIfInBounds_toArray, List.set_cons_zero, List.set_cons_succ]
      refine wpAnyH_take (i := 9) (oi := ({ dst := some 45, op := Op.fieldAddr 31 (Operand.tmp 44) 1, type := 0, pos := _, after := #[{ on := 8, ground := Ground.data }], guard := none } : Oper)) (v := ?_) rfl (by kernel_rfl) (by kernel_rfl) (by kernel_rfl) (fun _ _ _ h => h) (Or.inl ⟨by rfl, ?_⟩) hHeld ?_
      rotate_left
      · (intro w hS; go_simp; try with_reducible rfl)
      try simp only [Act.put, List.setIfInBounds_toArray, List.set_cons_zero, List.set_cons_succ]
      refine wpAnyH_take (i := 10) (oi := ({ dst := some 46, op := Op.load 3 (Operand.tmp 45), type := 3, pos := _, after := #[{ on := 9, ground := Ground.data }], guard := none } : Oper)) (v := ?_) rfl (by kernel_rfl) (by kernel_rfl) (by kernel_rfl) (fun _ _ _ h => h) (Or.inl ⟨by rfl, ?_⟩) hHeld ?_
      rotate_left
      · (intro w hS; go_simp; try with_reducible rfl)
      try simp only [Act.put, List.setIfInBounds_toArray, List.set_cons_zero, List.set_cons_succ]
      refine wpAnyH_ready (rs := [11]) (by kernel_rfl) (by simp) ?_
      refine AllReadyH.cons (o := ({ dst := some 47, op := Op.call { callee := Callee.value (Operand.func 12), args := #[Operand.tmp 36, Operand.tmp 41, Operand.tmp 46], argTypes := #[26, 24, 3] }, type := 32, pos := _, after := #[{ on := 0, ground := Ground.data }, { on := 5, ground := Ground.data }, { on := 10, ground := Ground.data }], guard := none } : Oper)) rfl (fun K hK => ?_) AllReadyH.nil
      refine step_call (put_calls T5.drew x.1 x.2) (enters_of Try.func12 (by kernel_rfl) rfl) _ _ rfl rfl rfl ?_
      rintro e w6 ⟨rfl, T6, q6⟩
      rw [HP.out] at T6
      have B6 := But.own B5.drew hr q6 (Nat.le_refl _)
      have U6 := U5.drew.but q6 U5.lt (by omega)
      have K6 := BK.but (show BK wr.drew _ _ _ from K5) q6 K5.lt (by omega)
      refine ⟨_, rfl, hK.out _ _ (hc _ B6) (fun hHeld => ?_)⟩
      clear hK K
      try simp only [Act.put, List.setIfInBounds_toArray, List.set_cons_zero, List.set_cons_succ]
      refine wpAnyH_done (by kernel_rfl) ?_ _
      skip
      clear T5 U5 K5 B5 q6 c0 c1 c2 c3
      go_wp2
      go_roundw
      case rel => exact ⟨i + 1, by omega, by go_num, T6, U6, K6, B6⟩
      case measure => simp [intOf]; omega
    · obtain rfl : i = len1 := by omega
      generalize putsL 64 [] (M1.take i) = L at *
      clear hL1
      have b7 := below_box wr (.cells #[.pointer (some ⟨t, 0, none⟩)] 26)
      have P7 := bk_new wr #[.pointer (some ⟨t, 0, none⟩)] 26
      have T7 := T5.below b7 T5.lt
      have U7 := U5.below b7 U5.lt
      have K7 := K5.below b7 K5.lt
      have B7 := B5.trans (b7.mono B5.size)
      have hbu := K5.lt
      have hs7 : (wr.alloc (.cells #[.pointer (some ⟨t, 0, none⟩)] 26)).heap.size = wr.heap.size + 1 := by simp
      clear T5 U5 K5 B5 b7
      go_wp2_with fail
      refine (all_calls _ _ rfl rfl).mono ?_
      rintro e w8 ⟨rfl, e8⟩
      rw [e8]
      clear e8
      generalize wr.alloc (.cells #[.pointer (some ⟨t, 0, none⟩)] 26) = W0 at *
      go_wp2
      rename_i KK hKK
      have hok := T7.ok
      refine (wpIn_wide (n := 3)).1 ?_
      refine wpIn_rangeFunc_ownH (α := { x : En // x ∈ L }) rfl (by omega) (gf := 31) (lb := #[.pointer (some ⟨wr.heap.size, 0, none⟩)]) rfl trivial (enters_of Try.func31 (by kernel_rfl) rfl)
        (all_stops (3 - 1) (by omega) wr.heap.size t L 64 W0 (by omega) (P7.cell 0 _ rfl) T7) Kt.trans Kt.put (Below.refl _ _) (fun _ => rfl)
        (fun (pre : List { x : En // x ∈ L }) W => TB W t L 64 ∧ TB W u (putsL 64 [] (pre.map fun (y : { x : En // x ∈ L }) => y.1)) 64 ∧ BK W bu #[.pointer (some ⟨u, 0, none⟩)] 26 ∧ Below w.heap.size w W ∧ wr.heap.size + 1 ≤ W.heap.size)
        (fun _ _ _ => False)
        (fun (pre : List { x : En // x ∈ L }) X Y row hh hg hr => ⟨hh.1.grown hg (fun r e => (hr r e).2), hh.2.1.grown hg (fun r e => (hr r e).2), bk_grown hh.2.2.1 hg (fun r e => (hr r e).2), (ownFrom_below (β := Unit) (by omega) (Nat.le_refl _)) () X Y row hh.2.2.2.1 hg hr, Nat.le_trans hh.2.2.2.2 hg.size⟩)
        (fun _ _ _ _ _ hs _ _ => hs)
        ⟨T7, U7, K7, B7, by omega⟩
        (fun x a' W => ∃ Bx, wr.heap.size + 1 ≤ Bx ∧ BK W Bx #[.int .i64 x.1.1.1, .int .i64 x.1.1.2.1, .int .i64 x.1.1.2.2] 24 ∧ a' = { tmps := #[.slice s1 i cap1, .slice s2 len2 cap2, undef, undef, .bool false, .pointer (some ⟨t, 0, none⟩), .pointer (some ⟨bu, 0, none⟩), u7, .pointer (some ⟨Bx, 0, none⟩), .int .i64 x.1.2, undef, undef, undef, undef, undef, undef, .bool true, .bool false, .bool false, .slice s1 i cap1, .int .i64 (i : Int), .bool false, .bool false, .bool false, .slice s2 len2 cap2, .int .i64 (len2 : Int), .bool false, .bool false, undef, .pointer (some ⟨t, 0, none⟩), .pointer (some ⟨u, 0, none⟩), .slice s1 i cap1, .int .i64 (i : Int), .int .i64 (i : Int), .bool false, u35, u36, u37, u38, u39, u40, u41, u42, u43, u44, u45, u46, u47, u48, .pointer (some ⟨t, 0, none⟩), .func (.func 31) #[] #[.pointer (some ⟨wr.heap.size, 0, none⟩)], keyV x.1.1, .int .i64 x.1.2, undef, undef, undef, undef, undef, undef, undef, undef, undef, undef, undef, undef, undef, undef, undef, undef, undef, undef, undef, undef, undef, undef, undef, undef, undef, undef, undef, undef, undef, undef, undef, undef, undef, undef, undef, undef, undef, undef, undef, undef, undef, undef, undef, undef, undef, undef, undef, undef, undef, undef, undef, undef, undef, undef, undef, undef, undef, undef, undef, undef, undef, undef, undef, undef], defers := [] })
        (fun x a' u X Y row hs hgr hr => by
          obtain ⟨Bx, h1, h2, h3⟩ := hs
          exact ⟨Bx, h1, (Own.from (bk_own (β := Unit) Bx _ (fun _ => _)) _) () X Y row h2 hgr hr, h3⟩) ?assign ?body ?done ?stop
      case assign =>
        rintro l pre x W K ⟨i1, i2, i3, i4, i5⟩ hK
        gi_wp2
        have hb := below_box W (.cells #[.int .i64 x.1.1.1, .int .i64 x.1.1.2.1, .int .i64 x.1.1.2.2] 24)
        exact hK _ _ ((KeepsOthers.alloc _ _).from _) (Kt.of hb (Nat.le_refl _)) ⟨i1.below hb i1.lt, i2.below hb i2.lt, i3.below hb i3.lt, i4.trans (hb.mono i4.size), by simp; omega⟩ ⟨W.heap.size, i5, bk_new W _ _, rfl⟩
      case body =>
        rintro l pre x a' W hl _ ⟨i1, i2, i3, i4, i5⟩ ⟨Bx, hBx, bX, rfl⟩ hlt
        have HM : Hid (putsL 64 [] ((pre ++ [x]).map (·.1)) = putL (putsL 64 [] (pre.map (·.1))) 64 (x.1.1, x.1.2)) := by show _ = _; rw [List.map_append]; exact putsL_snoc _ _ _ _
        have k0 := i3.cell 0 _ rfl
        have x0 := bX.cell 0 _ rfl
        have x1 := bX.cell 1 _ rfl
        have x2 := bX.cell 2 _ rfl
        have hput := put_calls i2 x.1.1 x.1.2
        obtain ⟨SS, _, _, KS⟩ := i2.ex
        gi_wp2_with (refine ⟨trivial, ?_⟩; gi_at_call 12; refine (CallsIn.inRound l (callsIn_wide.2 hput)).mono ?_; clear hput; rintro e V2 ⟨rfl, T2, q2⟩)
        refine ⟨by rw [hs7]; exact keepsFrom_but (m := wr.heap.size + 1) q2 (Nat.le_refl _) KS, by rw [hs7]; exact Kt.but (m := wr.heap.size + 1) q2 (Nat.le_refl _) (by omega), i1.but q2 i1.lt (by omega), by rw [HM.out]; exact T2, i3.but q2 i3.lt (by omega), i4.trans (q2.below i4.size (by omega)), Nat.le_trans i5 q2.size⟩
      case done =>
        rintro D ys W hD hys ⟨T9, U9, K9, B9, s9⟩ hd9
        rw [hys, putsL_all hok] at U9
        have hDlt : D < W.heap.size := (Array.getElem?_eq_some_iff.1 hd9).1
        have HOK : Hid (Ok L 64) := hok
        have hL64 := hok.len
        show KK _ W
        clear hys T7 U7 K7 B7 P7 hok
        go_wp2_with fail
        refine (lall_calls T9).mono ?_
        rintro e V1 ⟨aw, cw, rfl, row1, b1⟩
        have A0 : AI w.heap.size t u bu D W.heap.size aw cw L w V1 L :=
          ⟨T9.below b1 T9.lt, U9.below b1 U9.lt, K9.below b1 K9.lt, (b1.block D hDlt).trans hd9, row1, B9.trans (b1.mono B9.size), hr, hrt, hut, T9.lt, by omega, Nat.le_refl _⟩
        have hWs : w.heap.size ≤ W.heap.size := B9.size
        have hV1 := b1.size
        clear T9 U9 K9 B9 row1 b1
        go_wp2
        go_loopw [11, 61] (fun pv iv wz => ∃ (j : Nat) (T : List En) (Ks : List Ky) (pa : Option Addr) (pc : Nat), j ≤ len2 ∧ iv = .int .i64 j ∧ pv = .slice pa Ks.length pc ∧ Ks.length ≤ j ∧ AI w.heap.size t u bu D W.heap.size aw cw L w wz T ∧ Stk L T Ks.reverse ∧ wz.ownsRow V1.heap.size 24 3 (.slice pa Ks.length pc) Ks.length (kcells Ks) ∧ V1.heap.size ≤ wz.heap.size) (fun _ iv _ => len2 - (intOf iv).toNat)
        case atStart => exact ⟨0, L, [], none, 0, Nat.zero_le _, rfl, rfl, Nat.le_refl _, A0, rfl, World.ownsRow_nil _ _ _ _, Nat.le_refl _⟩
        case round =>
          obtain ⟨j, T, Ks, pa, pc, hj, rfl, rfl, hKj, A1, hS, hrow, hsz⟩ := hrel
          clear A0
          by_cases hlt : j < len2
          · obtain ⟨g, off, x, rfl, hg, hx, hc⟩ := hL2.at hlt
            obtain ⟨c0, c1, c2, c3⟩ := hc _ A1.bel
            have A1d : AI w.heap.size t u bu D W.heap.size aw cw L w wr.drew T := A1.below (Below.refl wr.heap.size wr).drew (Nat.le_refl _)
            have rowd : wr.drew.ownsRow V1.heap.size 24 3 (.slice pa Ks.length pc) Ks.length (kcells Ks) := row_below hrow (Below.refl wr.heap.size wr).drew (Nat.le_refl _)
            have htV : t < V1.heap.size := by omega
            clear hx A1 hrow
            by_cases hE : putE T 64 x.1 = 0
            · have HE : Hid (putE T 64 x.1 = 0) := hE
              have HS : Hid (Stk L (putL T 64 (x.1, x.2)) (x.1 :: Ks.reverse)) := stk_put hS hE
              clear hE hS
              go_wp2
              refine wp_region_held_drew (S := (fun w' => w'.cell? ⟨g, off + j * 4, none⟩ = some (.int .i64 x.1.1) ∧ w'.cell? ⟨g, off + j * 4 + 1, none⟩ = some (.int .i64 x.1.2.1) ∧ w'.cell? ⟨g, off + j * 4 + 1 + 1, none⟩ = some (.int .i64 x.1.2.2) ∧ w'.cell? ⟨g, off + j * 4 + 1 + 1 + 1, none⟩ = some (.int .i64 x.2))) (by kernel_rfl) ⟨c0, c1, c2, c3⟩ (fun hHeld => ?_)
              refine wpAnyH_take (i := 0) (oi := ({ dst := some 64, op := Op.move (Operand.tmp 5), type := 26, pos := _, after := #[], guard := none } : Oper)) (v := ?_) rfl (by kernel_rfl) (by kernel_rfl) (by kernel_rfl) (fun _ _ _ h => h) (Or.inl ⟨by rfl, ?_⟩) hHeld ?_
              rotate_left
              · (intro w hS; go_simp; try with_reducible rfl)
              try simp only [Act.put, List.setIfInBounds_toArray, List.set_cons_zero, List.set_cons_succ]
              refine wpAnyH_take (i := 1) (oi := ({ dst := some 65, op := Op.move (Operand.tmp 1), type := 22, pos := _, after := #[], guard := none } : Oper)) (v := ?_) rfl (by kernel_rfl) (by kernel_rfl) (by kernel_rfl) (fun _ _ _ h => h) (Or.inl ⟨by rfl, ?_⟩) hHeld ?_
              rotate_left
              · (intro w hS; go_simp; try with_reducible rfl)
              try simp only [Act.put, List.setIfInBounds_toArray, List.set_cons_zero, List.set_cons_succ]
              refine wpAnyH_take (i := 2) (oi := ({ dst := some 66, op := Op.move (Operand.tmp 12), type := 3, pos := _, after := #[], guard := none } : Oper)) (v := ?_) rfl (by kernel_rfl) (by kernel_rfl) (by kernel_rfl) (fun _ _ _ h => h) (Or.inl ⟨by rfl, ?_⟩) hHeld ?_
              rotate_left
              · (intro w hS; go_simp; try with_reducible rfl)
              try simp only [Act.put, List.setIfInBounds_toArray, List.set_cons_zero, List.set_cons_succ]
              refine wpAnyH_take (i := 3) (oi := ({ dst := some 67, op := Op.indexAddr 22 (Operand.tmp 65) (Operand.tmp 66), type := 0, pos := _, after := #[{ on := 1, ground := Ground.data }, { on := 2, ground := Ground.data }], guard := none } : Oper)) (v := ?_) rfl (by kernel_rfl) (by kernel_rfl) (by kernel_rfl) (fun _ _ _ h => h) (Or.inl ⟨by rfl, ?_⟩) hHeld ?_
              rotate_left
              · (intro w hS; go_simp; try with_reducible rfl)
              try simp only [Act.put, List.setIfInBounds_toArray, List.set_cons_zero, List.set_cons_succ]
              refine wpAnyH_take (i := 4) (oi := ({ dst := some 68, op := Op.fieldAddr 31 (Operand.tmp 67) 0, type := 0, pos := _, after := #[{ on := 3, ground := Ground.data }], guard := none } : Oper)) (v := ?_) rfl (by kernel_rfl) (by kernel_rfl) (by kernel_rfl) (fun _ _ _ h => h) (Or.inl ⟨by rfl, ?_⟩) hHeld ?_
              rotate_left
              · (intro w hS; go_simp; try with_reducible rfl)
              try simp only [Act.put, List.setIfInBounds_toArray, List.set_cons_zero, List.set_cons_succ]
              refine wpAnyH_take (i := 5) (oi := ({ dst := some 69, op := Op.load 24 (Operand.tmp 68), type := 24, pos := _, after := #[{ on := 4, ground := Ground.data }], guard := none } : Oper)) (v := ?_) rfl (by kernel_rfl) (by kernel_rfl) (by kernel_rfl) (fun _ _ _ h => h) (Or.inl ⟨by rfl, ?_⟩) hHeld ?_
              rotate_left
              · (intro w hS; go_simp; try with_reducible rfl)
              try simp only [Act.put, List.setIfInBounds_toArray, List.set_cons_zero, List.set_cons_succ]
              refine wpAnyH_take (i := 6) (oi := ({ dst := some 70, op := Op.move (Operand.tmp 1), type := 22, pos := _, after := #[], guard := none } : Oper)) (v := ?_) rfl (by kernel_rfl) (by kernel_rfl) (by kernel_rfl) (fun _ _ _ h => h) (Or.inl ⟨by rfl, ?_⟩) hHeld ?_
              rotate_left
              · (intro w hS; go_simp; try with_reducible rfl)
              try simp only [Act.put, List.setIfInBounds_toArray, List.set_cons_zero, List.set_cons_succ]
              refine wpAnyH_take (i := 7) (oi := ({ dst := some 71, op := Op.move (Operand.tmp 12), type := 3, pos := _, after := #[], guard := none } : Oper)) (v := ?_) rfl (by kernel_rfl) (by kernel_rfl) (by kernel_rfl) (fun _ _ _ h => h) (Or.inl ⟨by rfl, ?_⟩) hHeld ?_
              rotate_left
              · (intro w hS; go_simp; try with_reducible rfl)
              try simp only [Act.put, List.setIfInBounds_toArray, List.set_cons_zero, List.set_cons_succ]
              refine wpAnyH_take (i := 8) (oi := ({ dst := some 72, op := Op.indexAddr 22 (Operand.tmp 70) (Operand.tmp 71), type := 0, pos := _, after := #[{ on := 6, ground := Ground.data }, { on := 7, ground := Ground.data }], guard := none } : Oper)) (v := ?_) rfl (by kernel_rfl) (by kernel_rfl) (by kernel_rfl) (fun _ _ _ h => h) (Or.inl ⟨by rfl, ?_⟩) hHeld ?_
              rotate_left
              · (intro w hS; go_simp; try with_reducible rfl)
              try simp only [Act.put, List.setIfInBounds_toArray, List.set_cons_zero, List.set_cons_succ]
              refine wpAnyH_take (i := 9) (oi := ({ dst := some 73, op := Op.fieldAddr 31 (Operand.tmp 72) 1, type := 0, pos := _, after := #[{ on := 8, ground := Ground.data }], guard := none } : Oper)) (v := ?_) rfl (by kernel_rfl) (by kernel_rfl) (by kernel_rfl) (fun _ _ _ h => h) (Or.inl ⟨by rfl, ?_⟩) hHeld ?_
              rotate_left
              · (intro w hS; go_simp; try with_reducible rfl)
              try simp only [Act.put, List.setIfInBounds_toArray, List.set_cons_zero, List.set_cons_succ]
              refine wpAnyH_take (i := 10) (oi := ({ dst := some 74, op := Op.load 3 (Operand.tmp 73), type := 3, pos := _, after := #[{ on := 9, ground := Ground.data }], guard := none } : Oper)) (v := ?_) rfl (by kernel_rfl) (by kernel_rfl) (by kernel_rfl) (fun _ _ _ h => h) (Or.inl ⟨by rfl, ?_⟩) hHeld ?_
              rotate_left
              · (intro w hS; go_simp; try with_reducible rfl)
              try simp only [Act.put, List.setIfInBounds_toArray, List.set_cons_zero, List.set_cons_succ]
              refine wpAnyH_ready (rs := [11]) (by kernel_rfl) (by simp) ?_
              refine AllReadyH.cons (o := ({ dst := some 75, op := Op.call { callee := Callee.value (Operand.func 12), args := #[Operand.tmp 64, Operand.tmp 69, Operand.tmp 74], argTypes := #[26, 24, 3] }, type := 32, pos := _, after := #[{ on := 0, ground := Ground.data }, { on := 5, ground := Ground.data }, { on := 10, ground := Ground.data }], guard := none } : Oper)) rfl (fun K hK => ?_) AllReadyH.nil
              refine step_call (put_calls A1d.tab x.1 x.2) (enters_of Try.func12 (by kernel_rfl) rfl) _ _ rfl rfl rfl ?_
              rintro e V3 ⟨rfl, T3, q3⟩
              rw [HE.out]
              have A3 := A1d.but T3 q3 (Nat.le_refl _)
              have row3 := row_but rowd q3 (Nat.le_refl _) htV
              have s3 := q3.size
              refine ⟨_, rfl, hK.out _ _ (hc _ A3.bel) (fun hHeld => ?_)⟩
              clear hK K
              try simp only [Act.put, List.setIfInBounds_toArray, List.set_cons_zero, List.set_cons_succ]
              refine wpAnyH_take (i := 12) (oi := ({ dst := some 76, op := Op.binOp BinOp.eql 32 (Operand.tmp 75) (Operand.const (Value.int IntKind.i64 0)) 32, type := 4, pos := _, after := #[{ on := 11, ground := Ground.data }], guard := none } : Oper)) (v := ?_) rfl (by kernel_rfl) (by kernel_rfl) (by kernel_rfl) (fun _ _ _ h => h) (Or.inl ⟨by rfl, ?_⟩) hHeld ?_
              rotate_left
              · (intro w hS; go_simp; try with_reducible rfl)
              try simp only [Act.put, List.setIfInBounds_toArray, List.set_cons_zero, List.set_cons_succ]
              refine wpAnyH_done (by kernel_rfl) ?_ _
              skip
              obtain ⟨d0, d1, d2, d3⟩ := hc _ A3.bel
              have A4 := A3.below (below_box V3 (.cells #[.int .i64 x.1.1, .int .i64 x.1.2.1, .int .i64 x.1.2.2] 24)) (Nat.le_refl _)
              have row4 := row3.alloc (.cells #[.int .i64 x.1.1, .int .i64 x.1.2.1, .int .i64 x.1.2.2] 24)
              obtain ⟨g5, c5, V5, hap, row5, gr5⟩ := run_app_k (V3.alloc (.cells #[.int .i64 x.1.1, .int .i64 x.1.2.1, .int .i64 x.1.2.2] 24)) V1.heap.size (by have : wr.drew.heap.size = wr.heap.size := rfl; simp; omega) _ _ Ks row4 (by omega) 56 x.1 V3.heap.size (bk_new V3 _ _)
              have A5 := A4.beside row4 gr5 (by omega)
              have s5 : V1.heap.size ≤ V5.heap.size := by have := gr5.size; have : wr.drew.heap.size = wr.heap.size := rfl; simp at *; omega
              clear A1d rowd T3 q3 A3 row3 c0 c1 c2 c3 A4 row4 gr5
              go_wp2_with (at_builtin; refine wpList_app hap _ _ rfl rfl rfl rfl rfl ?_)
              clear hap
              go_roundw
              case rel => exact ⟨j + 1, _, Ks ++ [x.1], some ⟨g5, 0, none⟩, c5, by omega, by go_num, by simp, by simp; omega, A5, by rw [List.reverse_append]; exact HS.out, by simpa using row5, s5⟩
              case measure => simp [intOf]; omega
            · obtain ⟨E, hEE⟩ : ∃ E, putE T 64 x.1 = E := ⟨_, rfl⟩
              have HE : Hid (putE T 64 x.1 = E) := hEE
              have hE0 : (E == 0) = false := by rw [← hEE]; simpa using hE
              have HT : Hid (putL T 64 (x.1, x.2) = T) := putL_no hE
              clear hEE hE
              go_wp2
              refine wp_region_held_drew (S := (fun w' => w'.cell? ⟨g, off + j * 4, none⟩ = some (.int .i64 x.1.1) ∧ w'.cell? ⟨g, off + j * 4 + 1, none⟩ = some (.int .i64 x.1.2.1) ∧ w'.cell? ⟨g, off + j * 4 + 1 + 1, none⟩ = some (.int .i64 x.1.2.2) ∧ w'.cell? ⟨g, off + j * 4 + 1 + 1 + 1, none⟩ = some (.int .i64 x.2))) (by kernel_rfl) ⟨c0, c1, c2, c3⟩ (fun hHeld => ?_)
              refine wpAnyH_take (i := 0) (oi := ({ dst := some 64, op := Op.move (Operand.tmp 5), type := 26, pos := _, after := #[], guard := none } : Oper)) (v := ?_) rfl (by kernel_rfl) (by kernel_rfl) (by kernel_rfl) (fun _ _ _ h => h) (Or.inl ⟨by rfl, ?_⟩) hHeld ?_
              rotate_left
              · (intro w hS; go_simp; try with_reducible rfl)
              try simp only [Act.put, List.setIfInBounds_toArray, List.set_cons_zero, List.set_cons_succ]
              refine wpAnyH_take (i := 1) (oi := ({ dst := some 65, op := Op.move (Operand.tmp 1), type := 22, pos := _, after := #[], guard := none } : Oper)) (v := ?_) rfl (by kernel_rfl) (by kernel_rfl) (by kernel_rfl) (fun _ _ _ h => h) (Or.inl ⟨by rfl, ?_⟩) hHeld ?_
              rotate_left
              · (intro w hS; go_simp; try with_reducible rfl)
              try simp only [Act.put, List.setIfInBounds_toArray, List.set_cons_zero, List.set_cons_succ]
              refine wpAnyH_take (i := 2) (oi := ({ dst := some 66, op := Op.move (Operand.tmp 12), type := 3, pos := _, after := #[], guard := none } : Oper)) (v := ?_) rfl (by kernel_rfl) (by kernel_rfl) (by kernel_rfl) (fun _ _ _ h => h) (Or.inl ⟨by rfl, ?_⟩) hHeld ?_
              rotate_left
              · (intro w hS; go_simp; try with_reducible rfl)
              try simp only [Act.put, List.setIfInBounds_toArray, List.set_cons_zero, List.set_cons_succ]
              refine wpAnyH_take (i := 3) (oi := ({ dst := some 67, op := Op.indexAddr 22 (Operand.tmp 65) (Operand.tmp 66), type := 0, pos := _, after := #[{ on := 1, ground := Ground.data }, { on := 2, ground := Ground.data }], guard := none } : Oper)) (v := ?_) rfl (by kernel_rfl) (by kernel_rfl) (by kernel_rfl) (fun _ _ _ h => h) (Or.inl ⟨by rfl, ?_⟩) hHeld ?_
              rotate_left
              · (intro w hS; go_simp; try with_reducible rfl)
              try simp only [Act.put, List.setIfInBounds_toArray, List.set_cons_zero, List.set_cons_succ]
              refine wpAnyH_take (i := 4) (oi := ({ dst := some 68, op := Op.fieldAddr 31 (Operand.tmp 67) 0, type := 0, pos := _, after := #[{ on := 3, ground := Ground.data }], guard := none } : Oper)) (v := ?_) rfl (by kernel_rfl) (by kernel_rfl) (by kernel_rfl) (fun _ _ _ h => h) (Or.inl ⟨by rfl, ?_⟩) hHeld ?_
              rotate_left
              · (intro w hS; go_simp; try with_reducible rfl)
              try simp only [Act.put, List.setIfInBounds_toArray, List.set_cons_zero, List.set_cons_succ]
              refine wpAnyH_take (i := 5) (oi := ({ dst := some 69, op := Op.load 24 (Operand.tmp 68), type := 24, pos := _, after := #[{ on := 4, ground := Ground.data }], guard := none } : Oper)) (v := ?_) rfl (by kernel_rfl) (by kernel_rfl) (by kernel_rfl) (fun _ _ _ h => h) (Or.inl ⟨by rfl, ?_⟩) hHeld ?_
              rotate_left
              · (intro w hS; go_simp; try with_reducible rfl)
              try simp only [Act.put, List.setIfInBounds_toArray, List.set_cons_zero, List.set_cons_succ]
              refine wpAnyH_take (i := 6) (oi := ({ dst := some 70, op := Op.move (Operand.tmp 1), type := 22, pos := _, after := #[], guard := none } : Oper)) (v := ?_) rfl (by kernel_rfl) (by kernel_rfl) (by kernel_rfl) (fun _ _ _ h => h) (Or.inl ⟨by rfl, ?_⟩) hHeld ?_
              rotate_left
              · (intro w hS; go_simp; try with_reducible rfl)
              try simp only [Act.put, List.setIfInBounds_toArray, List.set_cons_zero, List.set_cons_succ]
              refine wpAnyH_take (i := 7) (oi := ({ dst := some 71, op := Op.move (Operand.tmp 12), type := 3, pos := _, after := #[], guard := none } : Oper)) (v := ?_) rfl (by kernel_rfl) (by kernel_rfl) (by kernel_rfl) (fun _ _ _ h => h) (Or.inl ⟨by rfl, ?_⟩) hHeld ?_
              rotate_left
              · (intro w hS; go_simp; try with_reducible rfl)
              try simp only [Act.put, List.setIfInBounds_toArray, List.set_cons_zero, List.set_cons_succ]
              refine wpAnyH_take (i := 8) (oi := ({ dst := some 72, op := Op.indexAddr 22 (Operand.tmp 70) (Operand.tmp 71), type := 0, pos := _, after := #[{ on := 6, ground := Ground.data }, { on := 7, ground := Ground.data }], guard := none } : Oper)) (v := ?_) rfl (by kernel_rfl) (by kernel_rfl) (by kernel_rfl) (fun _ _ _ h => h) (Or.inl ⟨by rfl, ?_⟩) hHeld ?_
              rotate_left
              · (intro w hS; go_simp; try with_reducible rfl)
              try simp only [Act.put, List.setIfInBounds_toArray, List.set_cons_zero, List.set_cons_succ]
              refine wpAnyH_take (i := 9) (oi := ({ dst := some 73, op := Op.fieldAddr 31 (Operand.tmp 72) 1, type := 0, pos := _, after := #[{ on := 8, ground := Ground.data }], guard := none } : Oper)) (v := ?_) rfl (by kernel_rfl) (by kernel_rfl) (by kernel_rfl) (fun _ _ _ h => h) (Or.inl ⟨by rfl, ?_⟩) hHeld ?_
              rotate_left
              · (intro w hS; go_simp; try with_reducible rfl)
              try simp only [Act.put, List.setIfInBounds_toArray, List.set_cons_zero, List.set_cons_succ]
              refine wpAnyH_take (i := 10) (oi := ({ dst := some 74, op := Op.load 3 (Operand.tmp 73), type := 3, pos := _, after := #[{ on := 9, ground := Ground.data }], guard := none } : Oper)) (v := ?_) rfl (by kernel_rfl) (by kernel_rfl) (by kernel_rfl) (fun _ _ _ h => h) (Or.inl ⟨by rfl, ?_⟩) hHeld ?_
              rotate_left
              · (intro w hS; go_simp; try with_reducible rfl)
              try simp only [Act.put, List.setIfInBounds_toArray, List.set_cons_zero, List.set_cons_succ]
              refine wpAnyH_ready (rs := [11]) (by kernel_rfl) (by simp) ?_
              refine AllReadyH.cons (o := ({ dst := some 75, op := Op.call { callee := Callee.value (Operand.func 12), args := #[Operand.tmp 64, Operand.tmp 69, Operand.tmp 74], argTypes := #[26, 24, 3] }, type := 32, pos := _, after := #[{ on := 0, ground := Ground.data }, { on := 5, ground := Ground.data }, { on := 10, ground := Ground.data }], guard := none } : Oper)) rfl (fun K hK => ?_) AllReadyH.nil
              refine step_call (put_calls A1d.tab x.1 x.2) (enters_of Try.func12 (by kernel_rfl) rfl) _ _ rfl rfl rfl ?_
              rintro e V3 ⟨rfl, T3, q3⟩
              rw [HE.out]
              rw [HT.out] at T3
              have A3 := A1d.but T3 q3 (Nat.le_refl _)
              have row3 := row_but rowd q3 (Nat.le_refl _) htV
              have s3 : V1.heap.size ≤ V3.heap.size := Nat.le_trans hsz q3.size
              refine ⟨_, rfl, hK.out _ _ (hc _ A3.bel) (fun hHeld => ?_)⟩
              clear hK K
              try simp only [Act.put, List.setIfInBounds_toArray, List.set_cons_zero, List.set_cons_succ]
              refine wpAnyH_take (i := 12) (oi := ({ dst := some 76, op := Op.binOp BinOp.eql 32 (Operand.tmp 75) (Operand.const (Value.int IntKind.i64 0)) 32, type := 4, pos := _, after := #[{ on := 11, ground := Ground.data }], guard := none } : Oper)) (v := ?_) rfl (by kernel_rfl) (by kernel_rfl) (by kernel_rfl) (fun _ _ _ h => h) (Or.inl ⟨by rfl, ?_⟩) hHeld ?_
              rotate_left
              · (intro w hS; go_simp; try with_reducible rfl)
              try simp only [Act.put, List.setIfInBounds_toArray, List.set_cons_zero, List.set_cons_succ]
              refine wpAnyH_done (by kernel_rfl) ?_ _
              skip
              clear A1d rowd T3 q3 c0 c1 c2 c3
              go_wp2
              go_roundw
              case rel => exact ⟨j + 1, T, Ks, pa, pc, by omega, by go_num, rfl, by omega, A3, hS, row3, s3⟩
              case measure => simp [intOf]; omega
          · obtain rfl : j = len2 := by omega
            clear hL2
            have hK30 : Ks.length ≤ 30 := by omega
            have htv : t < V1.heap.size := by have := A1.lt; omega
            generalize V1.heap.size = vb at *
            clear hsz
            go_wp2
            go_loopw [88] (fun iv wz => ∃ (m : Nat) (T' : List En), m ≤ Ks.length ∧ iv = .int .i64 m ∧ AI w.heap.size t u bu D W.heap.size aw cw L w wz T' ∧ Stk L T' (Ks.reverse.drop m) ∧ wz.ownsRow vb 24 3 (.slice pa Ks.length pc) Ks.length (kcells Ks)) (fun iv _ => Ks.length - (intOf iv).toNat)
            case atStart => exact ⟨0, T, Nat.zero_le _, rfl, A1, by simpa using hS, hrow⟩
            case round =>
              obtain ⟨m, T', hm, rfl, A2, hS2, hrow2⟩ := hrel
              clear A1 hS hrow
              by_cases hlt2 : m < Ks.length
              · obtain ⟨k, hk1, hk2, hk3⟩ := stk_at hS2 (by simpa using hlt2)
                rw [List.getElem?_reverse hlt2] at hk1
                obtain ⟨g, rfl⟩ : ∃ g, pa = some ⟨g, 0, none⟩ := by
                  rcases hrow2.2 with ⟨_, h0⟩ | ⟨g, cap, cur, e, _⟩
                  · omega
                  · simp only [Value.slice.injEq] at e; exact ⟨g, e.1⟩
                obtain ⟨y0, y1, y2, hg⟩ := kcell_row hrow2 rfl hk1
                obtain ⟨p, hp⟩ : ∃ p, Ks.length - 1 - m = p := ⟨_, rfl⟩
                rw [hp] at y0 y1 y2
                have hpl : p < Ks.length := by omega
                have hw1 : IntKind.i64.wrap ((Ks.length : Int) - 1) = (Ks.length : Int) - 1 := by rw [IntKind.wrap_i64]; omega
                have hw2 : IntKind.i64.wrap ((Ks.length : Int) - 1 - (m : Int)) = (p : Int) := by rw [IntKind.wrap_i64]; omega
                have HG : Hid (getB T' k = true) := by show _ = _; rw [← A2.tab.ok.fndB]; exact hk2
                have HS2 : Hid (Stk L (del T' k) (Ks.reverse.drop (m + 1))) := hk3
                clear hk1 hk2 hk3 hS2 hp
                go_wp2_with fail
                refine (drop_calls A2.tab k).mono ?_
                rintro e V6 ⟨rfl, T6, q6⟩
                rw [HG.out]
                have A6 := A2.but T6 q6 (Nat.le_refl _)
                have row6 := row_but hrow2 q6 (Nat.le_refl _) htv
                clear A2 hrow2 T6 q6 y0 y1 y2
                go_wp2
                go_roundw
                case rel => exact ⟨m + 1, del T' k, by omega, by go_num, A6, HS2.out, row6⟩
                case measure => simp [intOf]; omega
              · obtain rfl : m = Ks.length := by omega
                have hTL : T' = L := by
                  rw [List.drop_eq_nil_of_le (by simp)] at hS2
                  exact hS2
                subst hTL
                clear hrow2 hS2
                go_wp2_with fail
                refine (lall_calls A2.tab).mono ?_
                rintro e V7 ⟨a7, c7, rfl, row7, b7⟩
                have A7 := A2.below b7 (Nat.le_refl _)
                have E7 := isE_row row7 rfl
                have F7 := isE_row A7.was rfl
                clear A2 row7 b7
                go_wp2_with fail
                refine (same_calls a7 aw _ _ c7 cw _ (by omega) V7 E7 F7).mono ?_
                rintro e V8 ⟨rfl, b8⟩
                have A8 := A7.below b8 (Nat.le_refl _)
                have k8 := A8.hbu.cell 0 _ rfl
                clear A7 E7 F7 b8
                go_wp2_with fail
                refine (lall_calls A8.ut).mono ?_
                rintro e V9 ⟨a9, c9, rfl, row9, b9⟩
                have A9 := A8.below b9 (Nat.le_refl _)
                have E9 := isE_row row9 rfl
                have F9 := isE_row A9.was rfl
                clear A8 row9 b9 k8
                go_wp2_with fail
                refine (same_calls a9 aw _ _ c9 cw _ (by omega) V9 E9 F9).mono ?_
                rintro e V10 ⟨rfl, b10⟩
                have A10 := A9.below b10 (Nat.le_refl _)
                clear A9 E9 F9 b10
                go_wp2
                refine again_fin _ D _ w ?_ ?_ ?_ ?_
                · rfl
                · exact A10.hd
                · exact A10.bel
                · omega
      case stop =>
        rintro D c pre W _ _ h _
        exact h.elim
end Go.Proofs.Ytgimmaancnlbcaa
