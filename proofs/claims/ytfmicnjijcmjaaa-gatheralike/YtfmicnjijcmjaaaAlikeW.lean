/- Proved here: the walk of GatherAlike. Conditions: as each theorem states them. -/
import Derived.Test.YtfmicnjijcmjaaaTI
namespace Go.Proofs.Ytfmicnjijcmjaaa
set_option linter.unusedSimpArgs false
set_option linter.unusedVariables false
open Go.RowKit

set_option maxHeartbeats 4000000 in
set_option maxRecDepth 20000 in
theorem alike_walk (wt : Int) (wt0 : 0 ≤ wt) (wt1 : wt ≤ 65535) (a1 : Option Addr) (len cap : Nat) (L : List Pt) (d : Int) (d0 : 0 ≤ d) (d1 : d ≤ 4294967295) (w : World) (h1 : IsP w.heap.size w a1 len L) (c1 : len ≤ cap) :
    Calls Try.prog 8 #[.int .u16 wt, .slice a1 len cap, .int .u32 d] w fun e w' => e = .returned (.bool true) ∧ Below w.heap.size w w' := by
  by_cases hlen : 80 < len
  · have q1 : decide (80 < (len : Int)) = true := by simp; omega
    go_enter Try.func8, Try.ntmps8
    go_wp2_with fail
    refine (awake_calls _).mono ?_
    rintro e w1 ⟨rfl, b1⟩
    go_wp2_with fail
    refine (awake_calls _).mono ?_
    rintro e w2 ⟨rfl, b2⟩
    go_wp2
    go_ret
    exact ⟨rfl, b1.trans (b2.mono b1.size)⟩
  · have q1 : decide (80 < (len : Int)) = false := by simp; omega
    have hlen80 : len ≤ 80 := by omega
    clear hlen
    go_enter Try.func8, Try.ntmps8
    go_wp2_with fail
    refine (awake_calls _).mono ?_
    rintro e w1 ⟨rfl, b1⟩
    go_wp2_with fail
    refine (gnew_calls (1 + wt) w1).mono ?_
    rintro e w2 ⟨rfl, g2, b2⟩
    go_wp2_with fail
    refine (gnew_calls (1 + wt) w2).mono ?_
    rintro e w3 ⟨rfl, r3, b3⟩
    have g3 := g2.below b3 (Nat.le_refl _)
    have hq1 : w1.heap.size < w2.heap.size := g2.x.lt _ rfl
    have I0 : UI w.heap.size w1.heap.size w2.heap.size w w3 (fun k => k = w1.heap.size) (fun k => k = w2.heap.size) (Ga.mk0 (1 + wt)) (Ga.mk0 (1 + wt)) :=
      ⟨g3, r3, fun k (e : k = w1.heap.size) (e2 : k = w2.heap.size) => by omega, fun k (e : k = w1.heap.size) => by have := b1.size; omega, fun k (e : k = w2.heap.size) => by have := b1.size; omega, b1.trans ((b2.mono b1.size).trans (b3.mono (Nat.le_trans b1.size b2.size)))⟩
    clear g2 r3 g3 b1 b2 b3
    generalize w1.heap.size = q at *
    generalize w2.heap.size = p at *
    go_wp2
    go_loopw [35] (fun iv wr => ∃ (k : Nat) (S T : Ga) (F G : Nat → Prop), k ≤ len ∧ iv = .int .i64 k ∧ UI w.heap.size q p w wr F G S T ∧ S.l ≤ 2 * k ∧ Later d S T) (fun iv _ => len - (intOf iv).toNat)
    case atStart => exact ⟨0, _, _, _, _, Nat.zero_le _, rfl, I0, by simp [Ga.mk0], ⟨rfl, rfl, rfl, rfl, fun e => absurd rfl e⟩⟩
    case round =>
      obtain ⟨k, S, T, F, G, hk, rfl, I, hl, hLt⟩ := hrel
      by_cases hlt : k < len
      · obtain ⟨b, off, x, rfl, hb, hx, h48, hat⟩ := h1.at hlt
        have hld := hat wr I.b
        have HL : Hid (x.ps.length = 48) := h48
        have A1 : Below wr.heap.size wr (wr.alloc (.cells (partV x) 30)) := (Below.refl _ wr).alloc (Nat.le_refl _) _
        have K1 := bk_new wr (partV x) 30
        have I1 := I.below A1 (Nat.le_refl _) (Nat.le_refl _)
        have hFb : ∀ j, F j → j < wr.heap.size := I.g.x.lt
        have hGb : ∀ j, G j → j < wr.heap.size := I.r.x.lt
        have hbs := I.b.size
        have HLT : Hid (T.l = S.l) := hLt.l.symm
        clear hat I A1
        obtain ⟨tt, htt⟩ : ∃ tt, x.t = tt := ⟨_, rfl⟩
        obtain ⟨tk, htk⟩ : ∃ tk, x.tick = tk := ⟨_, rfl⟩
        by_cases ht0 : tt < 0
        · have qa : decide (tt < 0) = true := by simp; omega
          go_wp2_with (first
            | (with_reducible show wpList _ _ _ (Oper.mk _ (Op.load 30 _) _ _ _ _ :: _) _ _; refine wpList_ld rfl rfl rfl hld ?_; (try simp only [Act.put, List.setIfInBounds_toArray, List.set_cons_zero, List.set_cons_succ, World.size_alloc]))
            | (with_reducible show wpList _ _ _ (Oper.mk _ (Op.alloc 30) _ _ _ _ :: Oper.mk _ (Op.store 30 _ _) _ _ _ _ :: _) _ _; refine wpList_def rfl rfl rfl rfl rfl zero30 (by rw [size30, partV_size, HL.out]) (by rw [partV_size, partV_size, HL.out]; simp [zer]) (partV_one _) rfl ?_; (try simp only [Act.put, List.setIfInBounds_toArray, List.set_cons_zero, List.set_cons_succ, World.size_alloc]); generalize hwb : wr.alloc (.cells (partV x) 30) = wb at *; generalize hbx : wr.heap.size = bx at *; obtain ⟨e0, e49, e50, IPs, hldp⟩ := K1.part HL.out; rw [htt] at e0)
            | fail)
          go_ret
          exact ⟨rfl, I1.b⟩
        by_cases ht1 : 1099511627776 < tt
        · have qa : decide (tt < 0) = false := by simp; omega
          have qb : decide (1099511627776 < tt) = true := by simp; omega
          go_wp2_with (first
            | (with_reducible show wpList _ _ _ (Oper.mk _ (Op.load 30 _) _ _ _ _ :: _) _ _; refine wpList_ld rfl rfl rfl hld ?_; (try simp only [Act.put, List.setIfInBounds_toArray, List.set_cons_zero, List.set_cons_succ, World.size_alloc]))
            | (with_reducible show wpList _ _ _ (Oper.mk _ (Op.alloc 30) _ _ _ _ :: Oper.mk _ (Op.store 30 _ _) _ _ _ _ :: _) _ _; refine wpList_def rfl rfl rfl rfl rfl zero30 (by rw [size30, partV_size, HL.out]) (by rw [partV_size, partV_size, HL.out]; simp [zer]) (partV_one _) rfl ?_; (try simp only [Act.put, List.setIfInBounds_toArray, List.set_cons_zero, List.set_cons_succ, World.size_alloc]); generalize hwb : wr.alloc (.cells (partV x) 30) = wb at *; generalize hbx : wr.heap.size = bx at *; obtain ⟨e0, e49, e50, IPs, hldp⟩ := K1.part HL.out; rw [htt] at e0)
            | fail)
          go_ret
          exact ⟨rfl, I1.b⟩
        have qa : decide (tt < 0) = false := by simp; omega
        have qb : decide (1099511627776 < tt) = false := by simp; omega
        have t0 : 0 ≤ tt := by omega
        have t1 : tt ≤ 1099511627776 := by omega
        have hl' : S.l ≤ 160 := by omega
        have wd : IntKind.i64.wrap d = d := by rw [IntKind.wrap_i64]; omega
        have wtd : IntKind.i64.wrap (tt + d) = tt + d := by rw [IntKind.wrap_i64]; omega
        clear ht0 ht1
        cases tk with
        | true =>
          obtain ⟨bb, hbb⟩ : ∃ bb, S.late tt = bb := ⟨_, rfl⟩
          have HB : Hid (S.late tt = bb) := hbb
          have HB2 : Hid (T.late (tt + d) = bb) := by show _ = _; rw [← hLt.late tt]; exact hbb
          have HLA : Hid (Later d (S.tick tt) (T.tick (tt + d))) := hLt.tick tt
          have hbn : (bb != bb) = false := by simp
          clear hbb hLt
          go_wp2_with (first
            | (with_reducible show wpList _ _ _ (Oper.mk _ (Op.load 30 _) _ _ _ _ :: _) _ _; refine wpList_ld rfl rfl rfl hld ?_; (try simp only [Act.put, List.setIfInBounds_toArray, List.set_cons_zero, List.set_cons_succ, World.size_alloc]))
            | (with_reducible show wpList _ _ _ (Oper.mk _ (Op.alloc 30) _ _ _ _ :: Oper.mk _ (Op.store 30 _ _) _ _ _ _ :: _) _ _; refine wpList_def rfl rfl rfl rfl rfl zero30 (by rw [size30, partV_size, HL.out]) (by rw [partV_size, partV_size, HL.out]; simp [zer]) (partV_one _) rfl ?_; (try simp only [Act.put, List.setIfInBounds_toArray, List.set_cons_zero, List.set_cons_succ, World.size_alloc]); generalize hwb : wr.alloc (.cells (partV x) 30) = wb at *; generalize hbx : wr.heap.size = bx at *; obtain ⟨e0, e49, e50, IPs, hldp⟩ := K1.part HL.out; rw [htt] at e0; rw [htk] at e50)
            | fail)
          have hFn : ¬ F bx := fun hF => by have := hFb _ hF; omega
          have hGn : ¬ G bx := fun hG => by have := hGb _ hG; omega
          have ID := I1.below (m := wb.heap.size) (Below.refl _ wb).drew (Nat.le_refl _) (Nat.le_refl _)
          have KD : BK wb.drew bx (partV x) 30 := K1
          have eD : wb.drew.cell? ⟨bx, 0, none⟩ = some (.int .i64 tt) := e0
          refine wp_region_held_drew (S := (fun w' => w'.cell? ⟨bx, 0, none⟩ = some (.int .i64 tt))) (by kernel_rfl) eD (fun hHeld => ?_)
          refine wpAnyH_take (i := 0) (oi := ({ dst := some 52, op := Op.move (Operand.tmp 7), type := 24, pos := _, after := #[], guard := none } : Oper)) (v := ?_) rfl (by kernel_rfl) (by kernel_rfl) (by kernel_rfl) (fun _ _ _ h => h) (Or.inl ⟨by rfl, ?_⟩) hHeld ?_
          rotate_left
          · (intro w hS; go_simp; try with_reducible rfl)
          try simp only [Act.put, List.setIfInBounds_toArray, List.set_cons_zero, List.set_cons_succ]
          refine wpAnyH_take (i := 1) (oi := ({ dst := some 53, op := Op.fieldAddr 30 (Operand.tmp 10) 0, type := 0, pos := _, after := #[], guard := none } : Oper)) (v := ?_) rfl (by kernel_rfl) (by kernel_rfl) (by kernel_rfl) (fun _ _ _ h => h) (Or.inl ⟨by rfl, ?_⟩) hHeld ?_
          rotate_left
          · (intro w hS; go_simp; try with_reducible rfl)
          try simp only [Act.put, List.setIfInBounds_toArray, List.set_cons_zero, List.set_cons_succ]
          refine wpAnyH_take (i := 2) (oi := ({ dst := some 54, op := Op.load 3 (Operand.tmp 53), type := 3, pos := _, after := #[{ on := 1, ground := Ground.data }], guard := none } : Oper)) (v := ?_) rfl (by kernel_rfl) (by kernel_rfl) (by kernel_rfl) (fun _ _ _ h => h) (Or.inl ⟨by rfl, ?_⟩) hHeld ?_
          rotate_left
          · (intro w hS; go_simp; try with_reducible rfl)
          try simp only [Act.put, List.setIfInBounds_toArray, List.set_cons_zero, List.set_cons_succ]
          refine wpAnyH_take (i := 4) (oi := ({ dst := some 56, op := Op.move (Operand.tmp 8), type := 24, pos := _, after := #[], guard := none } : Oper)) (v := ?_) rfl (by kernel_rfl) (by kernel_rfl) (by kernel_rfl) (fun _ _ _ h => h) (Or.inl ⟨by rfl, ?_⟩) hHeld ?_
          rotate_left
          · (intro w hS; go_simp; try with_reducible rfl)
          try simp only [Act.put, List.setIfInBounds_toArray, List.set_cons_zero, List.set_cons_succ]
          refine wpAnyH_take (i := 5) (oi := ({ dst := some 57, op := Op.fieldAddr 30 (Operand.tmp 10) 0, type := 0, pos := _, after := #[], guard := none } : Oper)) (v := ?_) rfl (by kernel_rfl) (by kernel_rfl) (by kernel_rfl) (fun _ _ _ h => h) (Or.inl ⟨by rfl, ?_⟩) hHeld ?_
          rotate_left
          · (intro w hS; go_simp; try with_reducible rfl)
          try simp only [Act.put, List.setIfInBounds_toArray, List.set_cons_zero, List.set_cons_succ]
          refine wpAnyH_take (i := 6) (oi := ({ dst := some 58, op := Op.load 3 (Operand.tmp 57), type := 3, pos := _, after := #[{ on := 5, ground := Ground.data }], guard := none } : Oper)) (v := ?_) rfl (by kernel_rfl) (by kernel_rfl) (by kernel_rfl) (fun _ _ _ h => h) (Or.inl ⟨by rfl, ?_⟩) hHeld ?_
          rotate_left
          · (intro w hS; go_simp; try with_reducible rfl)
          try simp only [Act.put, List.setIfInBounds_toArray, List.set_cons_zero, List.set_cons_succ]
          refine wpAnyH_take (i := 7) (oi := ({ dst := some 59, op := Op.move (Operand.tmp 2), type := 55, pos := _, after := #[], guard := none } : Oper)) (v := ?_) rfl (by kernel_rfl) (by kernel_rfl) (by kernel_rfl) (fun _ _ _ h => h) (Or.inl ⟨by rfl, ?_⟩) hHeld ?_
          rotate_left
          · (intro w hS; go_simp; try with_reducible rfl)
          try simp only [Act.put, List.setIfInBounds_toArray, List.set_cons_zero, List.set_cons_succ]
          refine wpAnyH_take (i := 8) (oi := ({ dst := some 60, op := Op.convert 55 3 (Operand.tmp 59), type := 3, pos := _, after := #[{ on := 7, ground := Ground.data }], guard := none } : Oper)) (v := ?_) rfl (by kernel_rfl) (by kernel_rfl) (by kernel_rfl) (fun _ _ _ h => h) (Or.inl ⟨by rfl, ?_⟩) hHeld ?_
          rotate_left
          · (intro w hS; go_simp; try with_reducible rfl)
          try simp only [Act.put, List.setIfInBounds_toArray, List.set_cons_zero, List.set_cons_succ]
          try rw [wd]
          refine wpAnyH_take (i := 9) (oi := ({ dst := some 61, op := Op.binOp BinOp.add 3 (Operand.tmp 58) (Operand.tmp 60) 3, type := 3, pos := _, after := #[{ on := 6, ground := Ground.data }, { on := 8, ground := Ground.data }], guard := none } : Oper)) (v := ?_) rfl (by kernel_rfl) (by kernel_rfl) (by kernel_rfl) (fun _ _ _ h => h) (Or.inl ⟨by rfl, ?_⟩) hHeld ?_
          rotate_left
          · (intro w hS; go_simp; try with_reducible rfl)
          try simp only [Act.put, List.setIfInBounds_toArray, List.set_cons_zero, List.set_cons_succ]
          try rw [wtd]
          refine wpAnyH_ready (rs := [3]) (by kernel_rfl) (by simp) ?_
          refine AllReadyH.cons (o := ({ dst := some 55, op := Op.call { callee := Callee.value (Operand.func 13), args := #[Operand.tmp 52, Operand.tmp 54], argTypes := #[24, 3] }, type := 4, pos := _, after := #[{ on := 0, ground := Ground.data }, { on := 2, ground := Ground.data }], guard := none } : Oper)) rfl (fun K hK => ?_) AllReadyH.nil
          refine step_call (gtick_calls ID.g (by omega) tt (by omega) (by omega)) (enters_of Try.func13 (by kernel_rfl) rfl) _ _ rfl rfl rfl ?_
          rintro e w5 ⟨rfl, g5, k5⟩
          rw [HB.out]
          have I5 := ID.left (Nat.le_refl _) g5 k5
          have K5 := KD.ft k5 hFn
          have e5 := (K5.part HL.out).1
          rw [htt] at e5
          refine ⟨_, rfl, hK.out _ _ e5 (fun hHeld => ?_)⟩
          clear hK K
          try simp only [Act.put, List.setIfInBounds_toArray, List.set_cons_zero, List.set_cons_succ]
          refine wpAnyH_ready (rs := [10]) (by kernel_rfl) (by simp) ?_
          refine AllReadyH.cons (o := ({ dst := some 62, op := Op.call { callee := Callee.value (Operand.func 13), args := #[Operand.tmp 56, Operand.tmp 61], argTypes := #[24, 3] }, type := 4, pos := _, after := #[{ on := 4, ground := Ground.data }, { on := 9, ground := Ground.data }, { on := 3, ground := Ground.chain }], guard := none } : Oper)) rfl (fun K hK => ?_) AllReadyH.nil
          refine step_call (gtick_calls I5.r (by rw [HLT.out]; omega) (tt + d) (by omega) (by omega)) (enters_of Try.func13 (by kernel_rfl) rfl) _ _ rfl rfl rfl ?_
          rintro e w6 ⟨rfl, r6, k6⟩
          rw [HB2.out]
          have I6 := I5.right (Nat.le_refl _) r6 k6
          have K6 := K5.ft k6 hGn
          have e6 := (K6.part HL.out).1
          rw [htt] at e6
          refine ⟨_, rfl, hK.out _ _ e6 (fun hHeld => ?_)⟩
          clear hK K
          try simp only [Act.put, List.setIfInBounds_toArray, List.set_cons_zero, List.set_cons_succ]
          refine wpAnyH_take (i := 11) (oi := ({ dst := some 63, op := Op.binOp BinOp.neq 4 (Operand.tmp 55) (Operand.tmp 62) 4, type := 4, pos := _, after := #[{ on := 3, ground := Ground.data }, { on := 10, ground := Ground.data }], guard := none } : Oper)) (v := ?_) rfl (by kernel_rfl) (by kernel_rfl) (by kernel_rfl) (fun _ _ _ h => h) (Or.inl ⟨by rfl, ?_⟩) hHeld ?_
          rotate_left
          · (intro w hS; go_simp; try with_reducible rfl)
          try simp only [Act.put, List.setIfInBounds_toArray, List.set_cons_zero, List.set_cons_succ]
          try rw [hbn]
          refine wpAnyH_done (by kernel_rfl) ?_ _
          skip
          have hl8 : (S.tick tt).l ≤ 2 * (k + 1) := by have := S.tick_l tt; omega
          clear K6 e6 K5 e5 eD KD ID g5 r6 k5 k6 I5 I1 hwb
          go_wp2
          go_roundw
          case rel => exact ⟨k + 1, _, _, _, _, by omega, by go_num, I6, hl8, HLA.out⟩
          case measure => simp [intOf]; omega
        | false =>
          have hLA := hLt.take tt x.ps x.last
          have HLA : Hid (Later d (S.take tt x.ps x.last).1 (T.take (tt + d) x.ps x.last).1) := hLA.1
          obtain ⟨u, hu⟩ : ∃ u, (S.take tt x.ps x.last).2 = u := ⟨_, rfl⟩
          have hu2 : (T.take (tt + d) x.ps x.last).2 = u := by rw [← hLA.2]; exact hu
          have htx : u.1.length ≤ 1008 := by rw [← hu]; exact Ga.take_text I1.g.fit tt x.ps x.last HL.out
          have hl8 : (S.take tt x.ps x.last).1.l ≤ 2 * (k + 1) := by have := S.take_l tt x.ps x.last; omega
          have HG := gtake_calls I1.g (by omega) tt (by omega) (by omega) x.ps HL.out x.last
          have HRw := fun (w5 : World) (r5 : GV w5 G p T) => gtake_calls r5 (by rw [HLT.out]; omega) (tt + d) (by omega) (by omega) x.ps HL.out x.last
          unfold TkAns at HG HRw
          rw [hu] at HG
          rw [hu2] at HRw
          clear hu hu2 hLA hLt
          go_wp2_with (first
            | (with_reducible show wpList _ _ _ (Oper.mk _ (Op.load 30 _) _ _ _ _ :: _) _ _; refine wpList_ld rfl rfl rfl hld ?_; (try simp only [Act.put, List.setIfInBounds_toArray, List.set_cons_zero, List.set_cons_succ, World.size_alloc]))
            | (with_reducible show wpList _ _ _ (Oper.mk _ (Op.alloc 30) _ _ _ _ :: Oper.mk _ (Op.store 30 _ _) _ _ _ _ :: _) _ _; refine wpList_def rfl rfl rfl rfl rfl zero30 (by rw [size30, partV_size, HL.out]) (by rw [partV_size, partV_size, HL.out]; simp [zer]) (partV_one _) rfl ?_; (try simp only [Act.put, List.setIfInBounds_toArray, List.set_cons_zero, List.set_cons_succ, World.size_alloc]); generalize hwb : wr.alloc (.cells (partV x) 30) = wb at *; generalize hbx : wr.heap.size = bx at *; obtain ⟨e0, e49, e50, IPs, hldp⟩ := K1.part HL.out; rw [htt] at e0; rw [htk] at e50)
            | (with_reducible show wpList _ _ _ (Oper.mk _ (Op.load 28 _) _ _ _ _ :: _) _ _; refine wpList_ld rfl rfl rfl hldp ?_; (try simp only [Act.put, List.setIfInBounds_toArray, List.set_cons_zero, List.set_cons_succ, World.size_alloc]))
            | fail)
          have hFn : ¬ F bx := fun hF => by have := hFb _ hF; omega
          have hGn : ¬ G bx := fun hG => by have := hGb _ hG; omega
          have hwbx : bx < wb.heap.size := K1.lt
          refine HG.mono ?_
          rintro e w5 ⟨⟨a5, c5, rfl, o5⟩, F5, g5, k5⟩
          have I5 := I1.left (Nat.le_refl _) g5 k5
          have K5 := K1.ft k5 hFn
          have s5 := k5.size
          clear hldp e0 e49 e50 IPs hld
          obtain ⟨e0, e49, e50, IP5, hldp⟩ := K5.part HL.out
          rw [htt] at e0
          have HRc := HRw w5 I5.r
          have HO5 : Hid (OwnB wb.heap.size w5 a5 u.1.length c5 u.1) := o5
          clear HG HRw o5 g5 k5 I1
          obtain ⟨tx, mk, kk⟩ := u
          dsimp only at HO5 HRc htx ⊢
          go_wp2_with (first
            | (with_reducible show wpList _ _ _ (Oper.mk _ (Op.load 28 _) _ _ _ _ :: _) _ _; refine wpList_ld rfl rfl rfl hldp ?_; (try simp only [Act.put, List.setIfInBounds_toArray, List.set_cons_zero, List.set_cons_succ, World.size_alloc]))
            | fail)
          refine HRc.mono ?_
          rintro e w6 ⟨⟨a6, c6, rfl, o6⟩, G6, r6, k6⟩
          have I6 := I5.right (Nat.le_refl _) r6 k6
          have o56 : OwnB wb.heap.size w6 a5 tx.length c5 tx := ownB_keep HO5.out (fun y e => k6.block y.block (HO5.out.lt y.block (by rw [e]; rfl)).2 (fun hG => by have := hGb _ hG; have := (HO5.out.lt y.block (by rw [e]; rfl)).1; omega))
          have SC := same_calls a5 a6 tx.length c5 tx.length c6 tx tx w6 o56.isB.1 o6.isB.1 (Nat.le_refl _) (Nat.le_refl _) (by omega)
          rw [beq_self_eq_true] at SC
          have hmm : ((mk.toNat : Int) != (mk.toNat : Int)) = false := by simp
          have hkk : ((kk : Int) != (kk : Int)) = false := by simp
          clear r6 k6 I5 hwb o6 o56 HO5 HRc hldp e0 e49 e50 IP5 K5
          go_wp2_with fail
          refine SC.mono ?_
          rintro e w7 ⟨rfl, b7⟩
          have I7 := I6.below b7 (Nat.le_refl _) (Nat.le_refl _)
          clear I6 b7 SC
          go_wp2
          go_roundw
          case rel => exact ⟨k + 1, _, _, _, _, by omega, by go_num, I7, hl8, HLA.out⟩
          case measure => simp [intOf]; omega
      · obtain rfl : k = len := by omega
        obtain ⟨P, hP⟩ : ∃ P, S.xs.length / 48 = P := ⟨_, rfl⟩
        obtain ⟨l, hl9⟩ : ∃ l, S.l = l := ⟨_, rfl⟩
        have P1 := gparts_calls I.g hP
        have P2 := gparts_calls I.r (p := P) (by rw [← hLt.xs]; exact hP)
        have L1 := glost_calls I.g hl9
        have L2 := glost_calls I.r (p := l) (by rw [← hLt.l]; exact hl9)
        have HB : Hid (Below w.heap.size w wr) := I.b
        clear hP hl9 I hLt
        go_wp2_with fail
        refine P1.mono ?_
        rintro e w8 ⟨rfl, e8⟩
        rw [e8]; clear e8
        go_wp2_with fail
        refine P2.mono ?_
        rintro e w8 ⟨rfl, e8⟩
        rw [e8]; clear e8
        have hPP : ((P : Int) == (P : Int)) = true := by simp
        have hLL : ((l : Int) == (l : Int)) = true := by simp
        go_wp2_with fail
        refine L1.mono ?_
        rintro e w8 ⟨rfl, e8⟩
        rw [e8]; clear e8
        go_wp2_with fail
        refine L2.mono ?_
        rintro e w8 ⟨rfl, e8⟩
        rw [e8]; clear e8
        go_wp2
        go_ret
        exact ⟨rfl, HB.out⟩
end Go.Proofs.Ytfmicnjijcmjaaa
