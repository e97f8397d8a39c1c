/- Proved here: the walk of GatherTakes. Conditions: as each theorem states them. -/
import Derived.Test.YtfmicnjijcmjaaaTI
namespace Go.Proofs.Ytfmicnjijcmjaaa
set_option linter.unusedSimpArgs false
set_option linter.unusedVariables false
open Go.RowKit

set_option maxHeartbeats 4000000 in
set_option maxRecDepth 20000 in
theorem takes_walk (wt : Int) (a1 : Option Addr) (len cap : Nat) (L : List Pt) (w : World) (h1 : IsP w.heap.size w a1 len L) (c1 : len ≤ cap) :
    Calls Try.prog 3 #[.int .i64 wt, .slice a1 len cap] w fun e w' => e = .returned (.bool true) ∧ Below w.heap.size w w' := by
  by_cases hlen : 80 < len
  · have q1 : decide (80 < (len : Int)) = true := by simp; omega
    go_enter Try.func3, Try.ntmps3
    go_wp2_with fail
    refine (awake_calls _).mono ?_
    rintro e w1 ⟨rfl, b1⟩
    go_wp2_with fail
    refine (awake_calls _).mono ?_
    rintro e w2 ⟨rfl, b2⟩
    go_wp2
    go_ret
    exact ⟨rfl, b1.trans (b2.mono b1.size)⟩
  · have q1 : decide (80 < (len : Int)) = false := by simp; omega
    have hlen80 : len ≤ 80 := by omega
    clear hlen
    go_enter Try.func3, Try.ntmps3
    go_wp2_with fail
    refine (awake_calls _).mono ?_
    rintro e w1 ⟨rfl, b1⟩
    go_wp2_with fail
    refine (gnew_calls wt w1).mono ?_
    rintro e w2 ⟨rfl, g2, b2⟩
    go_wp2_with fail
    refine (rnew_calls wt w2).mono ?_
    rintro e w3 ⟨rfl, r3, b3⟩
    have g3 := g2.below b3 (Nat.le_refl _)
    have hq1 : w1.heap.size < w2.heap.size := g2.x.lt _ rfl
    have I0 : TI w.heap.size w1.heap.size w2.heap.size w w3 (fun k => k = w1.heap.size) (fun k => k = w2.heap.size) (Ga.mk0 wt) (Ga.mk0 wt) :=
      ⟨g3, r3, fun k (e : k = w1.heap.size) (e2 : k = w2.heap.size) => by omega, fun k (e : k = w1.heap.size) => by have := b1.size; omega, fun k (e : k = w2.heap.size) => by have := b1.size; omega, b1.trans ((b2.mono b1.size).trans (b3.mono (Nat.le_trans b1.size b2.size)))⟩
    clear g2 r3 g3 b1 b2 b3
    generalize w1.heap.size = q at *
    generalize w2.heap.size = p at *
    go_wp2
    go_loopw [31] (fun iv wr => ∃ (k : Nat) (S : Ga) (F G : Nat → Prop), k ≤ len ∧ iv = .int .i64 k ∧ TI w.heap.size q p w wr F G S S ∧ S.l ≤ 2 * k) (fun iv _ => len - (intOf iv).toNat)
    case atStart => exact ⟨0, _, _, _, Nat.zero_le _, rfl, I0, by simp [Ga.mk0]⟩
    case round =>
      obtain ⟨k, S, F, G, hk, rfl, I, hl⟩ := hrel
      by_cases hlt : k < len
      · obtain ⟨b, off, x, rfl, hb, hx, h48, hat⟩ := h1.at hlt
        have hld := hat wr I.b
        have HL : Hid (x.ps.length = 48) := h48
        have A1 : Below wr.heap.size wr (wr.alloc (.cells (partV x) 30)) := (Below.refl _ wr).alloc (Nat.le_refl _) _
        have K1 := bk_new wr (partV x) 30
        have I1 := I.below A1 (Nat.le_refl _) (Nat.le_refl _)
        have hFb : ∀ j, F j → j < wr.heap.size := I.g.x.lt
        have hGb : ∀ j, G j → j < wr.heap.size := I.r.lt
        have hbs := I.b.size
        clear hat I A1
        go_wp2_with (first
          | (with_reducible show wpList _ _ _ (Oper.mk _ (Op.load 30 _) _ _ _ _ :: _) _ _; refine wpList_ld rfl rfl rfl hld ?_; (try simp only [Act.put, List.setIfInBounds_toArray, List.set_cons_zero, List.set_cons_succ, World.size_alloc]))
          | (with_reducible show wpList _ _ _ (Oper.mk _ (Op.alloc 30) _ _ _ _ :: Oper.mk _ (Op.store 30 _ _) _ _ _ _ :: _) _ _; refine wpList_def rfl rfl rfl rfl rfl zero30 (by rw [size30, partV_size, HL.out]) (by rw [partV_size, partV_size, HL.out]; simp [zer]) (partV_one _) rfl ?_; (try simp only [Act.put, List.setIfInBounds_toArray, List.set_cons_zero, List.set_cons_succ, World.size_alloc]); generalize hwb : wr.alloc (.cells (partV x) 30) = wb at *; generalize hbx : wr.heap.size = bx at *; obtain ⟨e0, e49, e50, IPs, hldp⟩ := K1.part HL.out)
          | fail)
        refine (time_calls x.t _).mono ?_
        rintro e w4 ⟨rfl, e4⟩
        rw [e4]; clear e4 w4
        by_cases ht : 0 ≤ x.t ∧ x.t ≤ 1152921504606846976
        · obtain ⟨t0, t1⟩ := ht
          rw [decide_eq_true t0, decide_eq_true t1, Bool.and_self]
          obtain ⟨tk, htk⟩ : ∃ tk, x.tick = tk := ⟨_, rfl⟩
          have hwbx : bx < wb.heap.size := K1.lt
          have hFn : ¬ F bx := fun hF => by have := hFb _ hF; omega
          have hGn : ¬ G bx := fun hG => by have := hGb _ hG; omega
          have hl' : S.l ≤ 160 := by omega
          rw [htk] at e50
          cases tk with
          | true =>
            go_wp2
            have ID := I1.below (m := wb.heap.size) (Below.refl _ wb).drew (Nat.le_refl _) (Nat.le_refl _)
            have KD : BK wb.drew bx (partV x) 30 := K1
            have eD : wb.drew.cell? ⟨bx, 0, none⟩ = some (.int .i64 x.t) := e0
            obtain ⟨bb, hbb⟩ : ∃ bb, S.late x.t = bb := ⟨_, rfl⟩
            have HB : Hid (S.late x.t = bb) := hbb
            have hbn : (bb != bb) = false := by simp
            clear hbb
            refine wp_region_held_drew (S := (fun w' => w'.cell? ⟨bx, 0, none⟩ = some (.int .i64 x.t))) (by kernel_rfl) eD (fun hHeld => ?_)
            refine wpAnyH_take (i := 0) (oi := ({ dst := some 44, op := Op.move (Operand.tmp 5), type := 24, pos := _, after := #[], guard := none } : Oper)) (v := ?_) rfl (by kernel_rfl) (by kernel_rfl) (by kernel_rfl) (fun _ _ _ h => h) (Or.inl ⟨by rfl, ?_⟩) hHeld ?_
            rotate_left
            · (intro w hS; go_simp; try with_reducible rfl)
            try simp only [Act.put, List.setIfInBounds_toArray, List.set_cons_zero, List.set_cons_succ]
            refine wpAnyH_take (i := 1) (oi := ({ dst := some 45, op := Op.fieldAddr 30 (Operand.tmp 8) 0, type := 0, pos := _, after := #[], guard := none } : Oper)) (v := ?_) rfl (by kernel_rfl) (by kernel_rfl) (by kernel_rfl) (fun _ _ _ h => h) (Or.inl ⟨by rfl, ?_⟩) hHeld ?_
            rotate_left
            · (intro w hS; go_simp; try with_reducible rfl)
            try simp only [Act.put, List.setIfInBounds_toArray, List.set_cons_zero, List.set_cons_succ]
            refine wpAnyH_take (i := 2) (oi := ({ dst := some 46, op := Op.load 3 (Operand.tmp 45), type := 3, pos := _, after := #[{ on := 1, ground := Ground.data }], guard := none } : Oper)) (v := ?_) rfl (by kernel_rfl) (by kernel_rfl) (by kernel_rfl) (fun _ _ _ h => h) (Or.inl ⟨by rfl, ?_⟩) hHeld ?_
            rotate_left
            · (intro w hS; go_simp; try with_reducible rfl)
            try simp only [Act.put, List.setIfInBounds_toArray, List.set_cons_zero, List.set_cons_succ]
            refine wpAnyH_take (i := 4) (oi := ({ dst := some 48, op := Op.move (Operand.tmp 6), type := 26, pos := _, after := #[], guard := none } : Oper)) (v := ?_) rfl (by kernel_rfl) (by kernel_rfl) (by kernel_rfl) (fun _ _ _ h => h) (Or.inl ⟨by rfl, ?_⟩) hHeld ?_
            rotate_left
            · (intro w hS; go_simp; try with_reducible rfl)
            try simp only [Act.put, List.setIfInBounds_toArray, List.set_cons_zero, List.set_cons_succ]
            refine wpAnyH_take (i := 5) (oi := ({ dst := some 49, op := Op.fieldAddr 30 (Operand.tmp 8) 0, type := 0, pos := _, after := #[], guard := none } : Oper)) (v := ?_) rfl (by kernel_rfl) (by kernel_rfl) (by kernel_rfl) (fun _ _ _ h => h) (Or.inl ⟨by rfl, ?_⟩) hHeld ?_
            rotate_left
            · (intro w hS; go_simp; try with_reducible rfl)
            try simp only [Act.put, List.setIfInBounds_toArray, List.set_cons_zero, List.set_cons_succ]
            refine wpAnyH_take (i := 6) (oi := ({ dst := some 50, op := Op.load 3 (Operand.tmp 49), type := 3, pos := _, after := #[{ on := 5, ground := Ground.data }], guard := none } : Oper)) (v := ?_) rfl (by kernel_rfl) (by kernel_rfl) (by kernel_rfl) (fun _ _ _ h => h) (Or.inl ⟨by rfl, ?_⟩) hHeld ?_
            rotate_left
            · (intro w hS; go_simp; try with_reducible rfl)
            try simp only [Act.put, List.setIfInBounds_toArray, List.set_cons_zero, List.set_cons_succ]
            refine wpAnyH_ready (rs := [3]) (by kernel_rfl) (by simp) ?_
            refine AllReadyH.cons (o := ({ dst := some 47, op := Op.call { callee := Callee.value (Operand.func 13), args := #[Operand.tmp 44, Operand.tmp 46], argTypes := #[24, 3] }, type := 4, pos := _, after := #[{ on := 0, ground := Ground.data }, { on := 2, ground := Ground.data }], guard := none } : Oper)) rfl (fun K hK => ?_) AllReadyH.nil
            refine step_call (gtick_calls ID.g (by omega) x.t (by omega) (by omega)) (enters_of Try.func13 (by kernel_rfl) rfl) _ _ rfl rfl rfl ?_
            rintro e w5 ⟨rfl, g5, k5⟩
            rw [HB.out]
            have I5 := ID.left (Nat.le_refl _) g5 k5
            have K5 := KD.ft k5 hFn
            have e5 := (K5.part HL.out).1
            refine ⟨_, rfl, hK.out _ _ e5 (fun hHeld => ?_)⟩
            clear hK K
            try simp only [Act.put, List.setIfInBounds_toArray, List.set_cons_zero, List.set_cons_succ]
            refine wpAnyH_ready (rs := [7]) (by kernel_rfl) (by simp) ?_
            refine AllReadyH.cons (o := ({ dst := some 51, op := Op.call { callee := Callee.value (Operand.func 14), args := #[Operand.tmp 48, Operand.tmp 50], argTypes := #[26, 3] }, type := 4, pos := _, after := #[{ on := 4, ground := Ground.data }, { on := 6, ground := Ground.data }, { on := 3, ground := Ground.chain }], guard := none } : Oper)) rfl (fun K hK => ?_) AllReadyH.nil
            refine step_call (rtick_calls I5.r (by omega) x.t t0 t1) (enters_of Try.func14 (by kernel_rfl) rfl) _ _ rfl rfl rfl ?_
            rintro e w6 ⟨rfl, r6, k6⟩
            rw [HB.out]
            have I6 := I5.right (Nat.le_refl _) r6 k6
            have K6 := K5.ft k6 hGn
            have e6 := (K6.part HL.out).1
            refine ⟨_, rfl, hK.out _ _ e6 (fun hHeld => ?_)⟩
            clear hK K
            try simp only [Act.put, List.setIfInBounds_toArray, List.set_cons_zero, List.set_cons_succ]
            refine wpAnyH_take (i := 8) (oi := ({ dst := some 52, op := Op.binOp BinOp.neq 4 (Operand.tmp 47) (Operand.tmp 51) 4, type := 4, pos := _, after := #[{ on := 3, ground := Ground.data }, { on := 7, ground := Ground.data }], guard := none } : Oper)) (v := ?_) rfl (by kernel_rfl) (by kernel_rfl) (by kernel_rfl) (fun _ _ _ h => h) (Or.inl ⟨by rfl, ?_⟩) hHeld ?_
            rotate_left
            · (intro w hS; go_simp; try with_reducible rfl)
            try simp only [Act.put, List.setIfInBounds_toArray, List.set_cons_zero, List.set_cons_succ]
            try rw [hbn]
            refine wpAnyH_done (by kernel_rfl) ?_ _
            skip
            have hl8 : (S.tick x.t).l ≤ 2 * (k + 1) := by have := S.tick_l x.t; omega
            clear K6 e6 K5 e5 eD KD ID g5 r6 k5 k6 I5 I1 hwb
            generalize S.tick x.t = S' at *
            have hl' : S'.l ≤ 1000 := by omega
            -- what is told of both
            have hlS : S'.l ≤ 1000 := hl'
            obtain ⟨ar, nr, cr, hbr, hcr, hyr⟩ := I6.r.ex
            have d3 : w6.drew.cell? ⟨p, 3, none⟩ = some (.slice ar nr cr) := hbr.cell 3 _ rfl
            have d2 : w6.drew.cell? ⟨p, 2, none⟩ = some (.int .i64 (S'.l : Int)) := hbr.cell 2 _ rfl
            have hnr := hcr.1
            have hnr2 : nr ≤ 960 := by rw [hnr]; exact I6.r.fit
            obtain ⟨P, hP⟩ : ∃ P, S'.xs.length / 48 = P := ⟨_, rfl⟩
            have hq7 : (nr : Int) / 48 = (P : Int) := by omega
            have hq8 : IntKind.i64.wrap (P : Int) = (P : Int) := by rw [IntKind.wrap_i64]; omega
            have hPP : ((P : Int) != (P : Int)) = false := by simp
            have hLL : ((S'.l : Int) != (S'.l : Int)) = false := by simp
            have ID := I6.below (m := w6.heap.size) (Below.refl _ w6).drew (Nat.le_refl _) (Nat.le_refl _)
            have HPt := gparts_calls ID.g hP
            have HLt := glost_calls ID.g (p := S'.l) rfl
            clear hbr hcr hyr hnr hP
            obtain ⟨l', hl9⟩ : ∃ l', S'.l = l' := ⟨_, rfl⟩
            rw [hl9] at d2 hLL HLt
            go_wp2
            refine wp_region_held_drew (S := (fun w' => w'.cell? ⟨p, 3, none⟩ = some (.slice ar nr cr) ∧ w'.cell? ⟨p, 2, none⟩ = some (.int .i64 (l' : Int)))) (by kernel_rfl) ⟨d3, d2⟩ (fun hHeld => ?_)
            refine wpAnyH_take (i := 0) (oi := ({ dst := some 91, op := Op.move (Operand.tmp 5), type := 24, pos := _, after := #[], guard := none } : Oper)) (v := ?_) rfl (by kernel_rfl) (by kernel_rfl) (by kernel_rfl) (fun _ _ _ h => h) (Or.inl ⟨by rfl, ?_⟩) hHeld ?_
            rotate_left
            · (intro w hS; go_simp; try with_reducible rfl)
            try simp only [Act.put, List.setIfInBounds_toArray, List.set_cons_zero, List.set_cons_succ]
            refine wpAnyH_take (i := 2) (oi := ({ dst := some 93, op := Op.move (Operand.tmp 6), type := 26, pos := _, after := #[], guard := none } : Oper)) (v := ?_) rfl (by kernel_rfl) (by kernel_rfl) (by kernel_rfl) (fun _ _ _ h => h) (Or.inl ⟨by rfl, ?_⟩) hHeld ?_
            rotate_left
            · (intro w hS; go_simp; try with_reducible rfl)
            try simp only [Act.put, List.setIfInBounds_toArray, List.set_cons_zero, List.set_cons_succ]
            refine wpAnyH_take (i := 3) (oi := ({ dst := some 94, op := Op.nilCheck (Operand.tmp 93), type := 0, pos := _, after := #[{ on := 2, ground := Ground.data }], guard := none } : Oper)) (v := ?_) rfl (by kernel_rfl) (by kernel_rfl) (by kernel_rfl) (fun _ _ _ h => h) (Or.inl ⟨by rfl, ?_⟩) hHeld ?_
            rotate_left
            · (intro w hS; go_simp; try with_reducible rfl)
            try simp only [Act.put, List.setIfInBounds_toArray, List.set_cons_zero, List.set_cons_succ]
            refine wpAnyH_take (i := 4) (oi := ({ dst := some 95, op := Op.fieldAddr 41 (Operand.tmp 94) 3, type := 0, pos := _, after := #[{ on := 3, ground := Ground.data }], guard := none } : Oper)) (v := ?_) rfl (by kernel_rfl) (by kernel_rfl) (by kernel_rfl) (fun _ _ _ h => h) (Or.inl ⟨by rfl, ?_⟩) hHeld ?_
            rotate_left
            · (intro w hS; go_simp; try with_reducible rfl)
            try simp only [Act.put, List.setIfInBounds_toArray, List.set_cons_zero, List.set_cons_succ]
            refine wpAnyH_take (i := 5) (oi := ({ dst := some 96, op := Op.load 32 (Operand.tmp 95), type := 32, pos := _, after := #[{ on := 4, ground := Ground.data }], guard := none } : Oper)) (v := ?_) rfl (by kernel_rfl) (by kernel_rfl) (by kernel_rfl) (fun _ _ _ h => h) (Or.inl ⟨by rfl, ?_⟩) hHeld ?_
            rotate_left
            · (intro w hS; go_simp; try with_reducible rfl)
            try simp only [Act.put, List.setIfInBounds_toArray, List.set_cons_zero, List.set_cons_succ]
            refine wpAnyH_take (i := 6) (oi := ({ dst := some 97, op := Op.call { callee := Callee.builtin Builtin.len, args := #[Operand.tmp 96], argTypes := #[32] }, type := 3, pos := _, after := #[{ on := 5, ground := Ground.data }], guard := none } : Oper)) (v := ?_) rfl (by kernel_rfl) (by kernel_rfl) (by kernel_rfl) (fun _ _ _ h => h) (Or.inl ⟨by rfl, ?_⟩) hHeld ?_
            rotate_left
            · (intro w hS; go_simp; try with_reducible rfl)
            try simp only [Act.put, List.setIfInBounds_toArray, List.set_cons_zero, List.set_cons_succ]
            refine wpAnyH_take (i := 7) (oi := ({ dst := some 98, op := Op.binOp BinOp.quo 3 (Operand.tmp 97) (Operand.const (Value.int IntKind.i64 48)) 3, type := 3, pos := _, after := #[{ on := 6, ground := Ground.data }], guard := none } : Oper)) (v := ?_) rfl (by kernel_rfl) (by kernel_rfl) (by kernel_rfl) (fun _ _ _ h => h) (Or.inl ⟨by rfl, ?_⟩) hHeld ?_
            rotate_left
            · (intro w hS; go_simp; try with_reducible rfl)
            try simp only [Act.put, List.setIfInBounds_toArray, List.set_cons_zero, List.set_cons_succ]
            (try rw [hq7]); (try rw [hq8])
            refine wpAnyH_ready (rs := [1]) (by kernel_rfl) (by simp) ?_
            refine AllReadyH.cons (o := ({ dst := some 92, op := Op.call { callee := Callee.value (Operand.func 18), args := #[Operand.tmp 91], argTypes := #[24] }, type := 3, pos := _, after := #[{ on := 0, ground := Ground.data }], guard := none } : Oper)) rfl (fun K hK => ?_) AllReadyH.nil
            refine step_call (HPt) (enters_of Try.func18 (by kernel_rfl) rfl) _ _ rfl rfl rfl ?_
            rintro e w8 ⟨rfl, e8⟩
            rw [e8]
            clear e8
            refine ⟨_, rfl, hK.out _ _ ⟨d3, d2⟩ (fun hHeld => ?_)⟩
            clear hK K
            try simp only [Act.put, List.setIfInBounds_toArray, List.set_cons_zero, List.set_cons_succ]
            refine wpAnyH_take (i := 8) (oi := ({ dst := some 99, op := Op.binOp BinOp.neq 3 (Operand.tmp 92) (Operand.tmp 98) 3, type := 4, pos := _, after := #[{ on := 1, ground := Ground.data }, { on := 7, ground := Ground.data }], guard := none } : Oper)) (v := ?_) rfl (by kernel_rfl) (by kernel_rfl) (by kernel_rfl) (fun _ _ _ h => h) (Or.inl ⟨by rfl, ?_⟩) hHeld ?_
            rotate_left
            · (intro w hS; go_simp; try with_reducible rfl)
            try simp only [Act.put, List.setIfInBounds_toArray, List.set_cons_zero, List.set_cons_succ]
            try rw [hPP]
            refine wpAnyH_take (i := 9) (oi := ({ dst := some 100, op := Op.move (Operand.tmp 99), type := 4, pos := _, after := #[{ on := 8, ground := Ground.data }, { on := 1, ground := Ground.chain }], guard := none } : Oper)) (v := ?_) rfl (by kernel_rfl) (by kernel_rfl) (by kernel_rfl) (fun _ _ _ h => h) (Or.inl ⟨by rfl, ?_⟩) hHeld ?_
            rotate_left
            · (intro w hS; go_simp; try with_reducible rfl)
            try simp only [Act.put, List.setIfInBounds_toArray, List.set_cons_zero, List.set_cons_succ]
            refine wpAnyH_take (i := 10) (oi := ({ dst := some 101, op := Op.move (Operand.tmp 5), type := 24, pos := _, after := #[{ on := 9, ground := Ground.guard }], guard := some (9, false) } : Oper)) (v := ?_) rfl (by kernel_rfl) (by kernel_rfl) (by kernel_rfl) (fun _ _ _ h => h) (Or.inl ⟨by rfl, ?_⟩) hHeld ?_
            rotate_left
            · (intro w hS; go_simp; try with_reducible rfl)
            try simp only [Act.put, List.setIfInBounds_toArray, List.set_cons_zero, List.set_cons_succ]
            refine wpAnyH_take (i := 12) (oi := ({ dst := some 103, op := Op.move (Operand.tmp 6), type := 26, pos := _, after := #[{ on := 9, ground := Ground.guard }], guard := some (9, false) } : Oper)) (v := ?_) rfl (by kernel_rfl) (by kernel_rfl) (by kernel_rfl) (fun _ _ _ h => h) (Or.inl ⟨by rfl, ?_⟩) hHeld ?_
            rotate_left
            · (intro w hS; go_simp; try with_reducible rfl)
            try simp only [Act.put, List.setIfInBounds_toArray, List.set_cons_zero, List.set_cons_succ]
            refine wpAnyH_take (i := 13) (oi := ({ dst := some 104, op := Op.nilCheck (Operand.tmp 103), type := 0, pos := _, after := #[{ on := 12, ground := Ground.data }, { on := 9, ground := Ground.guard }], guard := some (9, false) } : Oper)) (v := ?_) rfl (by kernel_rfl) (by kernel_rfl) (by kernel_rfl) (fun _ _ _ h => h) (Or.inl ⟨by rfl, ?_⟩) hHeld ?_
            rotate_left
            · (intro w hS; go_simp; try with_reducible rfl)
            try simp only [Act.put, List.setIfInBounds_toArray, List.set_cons_zero, List.set_cons_succ]
            refine wpAnyH_take (i := 14) (oi := ({ dst := some 105, op := Op.fieldAddr 41 (Operand.tmp 104) 2, type := 0, pos := _, after := #[{ on := 13, ground := Ground.data }, { on := 9, ground := Ground.guard }], guard := some (9, false) } : Oper)) (v := ?_) rfl (by kernel_rfl) (by kernel_rfl) (by kernel_rfl) (fun _ _ _ h => h) (Or.inl ⟨by rfl, ?_⟩) hHeld ?_
            rotate_left
            · (intro w hS; go_simp; try with_reducible rfl)
            try simp only [Act.put, List.setIfInBounds_toArray, List.set_cons_zero, List.set_cons_succ]
            refine wpAnyH_take (i := 15) (oi := ({ dst := some 106, op := Op.load 3 (Operand.tmp 105), type := 3, pos := _, after := #[{ on := 14, ground := Ground.data }, { on := 9, ground := Ground.guard }], guard := some (9, false) } : Oper)) (v := ?_) rfl (by kernel_rfl) (by kernel_rfl) (by kernel_rfl) (fun _ _ _ h => h) (Or.inl ⟨by rfl, ?_⟩) hHeld ?_
            rotate_left
            · (intro w hS; go_simp; try with_reducible rfl)
            try simp only [Act.put, List.setIfInBounds_toArray, List.set_cons_zero, List.set_cons_succ]
            refine wpAnyH_ready (rs := [11]) (by kernel_rfl) (by simp) ?_
            refine AllReadyH.cons (o := ({ dst := some 102, op := Op.call { callee := Callee.value (Operand.func 19), args := #[Operand.tmp 101], argTypes := #[24] }, type := 3, pos := _, after := #[{ on := 10, ground := Ground.data }, { on := 9, ground := Ground.chain }, { on := 9, ground := Ground.guard }], guard := some (9, false) } : Oper)) rfl (fun K hK => ?_) AllReadyH.nil
            refine step_call (HLt) (enters_of Try.func19 (by kernel_rfl) rfl) _ _ rfl rfl rfl ?_
            rintro e w9 ⟨rfl, e9⟩
            rw [e9]
            clear e9
            refine ⟨_, rfl, hK.out _ _ ⟨d3, d2⟩ (fun hHeld => ?_)⟩
            clear hK K
            try simp only [Act.put, List.setIfInBounds_toArray, List.set_cons_zero, List.set_cons_succ]
            refine wpAnyH_take (i := 16) (oi := ({ dst := some 107, op := Op.binOp BinOp.neq 3 (Operand.tmp 102) (Operand.tmp 106) 3, type := 4, pos := _, after := #[{ on := 11, ground := Ground.data }, { on := 15, ground := Ground.data }, { on := 9, ground := Ground.guard }], guard := some (9, false) } : Oper)) (v := ?_) rfl (by kernel_rfl) (by kernel_rfl) (by kernel_rfl) (fun _ _ _ h => h) (Or.inl ⟨by rfl, ?_⟩) hHeld ?_
            rotate_left
            · (intro w hS; go_simp; try with_reducible rfl)
            try simp only [Act.put, List.setIfInBounds_toArray, List.set_cons_zero, List.set_cons_succ]
            try rw [hLL]
            refine wpAnyH_take (i := 17) (oi := ({ dst := some 108, op := Op.pick (Operand.tmp 100) (Operand.const (Value.bool true)) (Operand.tmp 107), type := 4, pos := _, after := #[{ on := 9, ground := Ground.data }, { on := 16, ground := Ground.data }], guard := none } : Oper)) (v := ?_) rfl (by kernel_rfl) (by kernel_rfl) (by kernel_rfl) (fun _ _ _ h => h) (Or.inl ⟨by rfl, ?_⟩) hHeld ?_
            rotate_left
            · (intro w hS; go_simp; try with_reducible rfl)
            try simp only [Act.put, List.setIfInBounds_toArray, List.set_cons_zero, List.set_cons_succ]
            refine wpAnyH_done (by kernel_rfl) ?_ _
            skip
            go_wp2
            go_roundw
            case rel => exact ⟨k + 1, S', F, G, by omega, by go_num, ID, hl8⟩
            case measure => simp [intOf]; omega
          | false =>
            obtain ⟨u, hu⟩ : ∃ u, (S.take x.t x.ps x.last).2 = u := ⟨_, rfl⟩
            have hl8 : (S.take x.t x.ps x.last).1.l ≤ 2 * (k + 1) := by have := S.take_l x.t x.ps x.last; omega
            have HG := gtake_calls I1.g (by omega) x.t (by omega) (by omega) x.ps HL.out x.last
            unfold TkAns at HG
            have HRw := fun (w5 : World) (r5 : RV w5 G p S) (I5 : IsB w5.heap.size w5 (some ⟨bx, 1, none⟩) 48 x.ps) (hl5 : bx < w5.heap.size) => rtake_calls r5 (by omega) x.t t0 t1 x.ps HL.out x.last bx 1 48 I5 (Nat.le_refl _) hGn hl5
            unfold RkAns at HRw
            have htx : u.1.length ≤ 1008 := by rw [← hu]; exact Ga.take_text I1.g.fit x.t x.ps x.last HL.out
            rw [hu] at HG HRw
            clear hu
            go_wp2_with (first | (with_reducible show wpList _ _ _ (Oper.mk _ (Op.load 28 _) _ _ _ _ :: _) _ _; refine wpList_ld rfl rfl rfl hldp ?_; (try simp only [Act.put, List.setIfInBounds_toArray, List.set_cons_zero, List.set_cons_succ, World.size_alloc])) | fail)
            refine HG.mono ?_
            rintro e w5 ⟨⟨a5, c5, rfl, o5⟩, F5, g5, k5⟩
            have I5 := I1.left (Nat.le_refl _) g5 k5
            have K5 := K1.ft k5 hFn
            have s5 := k5.size
            obtain ⟨f0, f49, f50, IP5, _⟩ := K5.part HL.out
            have ID := I5.below (m := w5.heap.size) (Below.refl _ w5).drew (Nat.le_refl _) (Nat.le_refl _)
            have KD : BK w5.drew bx (partV x) 30 := K5
            have eD : w5.drew.cell? ⟨bx, 0, none⟩ = some (.int .i64 x.t) := f0
            have eD9 : w5.drew.cell? ⟨bx, 49, none⟩ = some (.bool x.last) := f49
            have IPD : IsB w5.drew.heap.size w5.drew (some ⟨bx, 1, none⟩) 48 x.ps := IP5
            have HRc := HRw w5.drew ID.r IPD (by show bx < w5.heap.size; omega)
            have HO5 : Hid (OwnB wb.heap.size w5 a5 u.1.length c5 u.1) := o5
            clear HG HRw o5 g5 k5 I1 hldp e0 e49 e50 hld IPs IP5 f0 f49 f50
            obtain ⟨tx, mk, kk⟩ := u
            dsimp only at HO5 HRc htx ⊢
            go_wp2
            refine wp_region_held_drew (S := (fun w' => w'.cell? ⟨bx, 0, none⟩ = some (.int .i64 x.t) ∧ w'.cell? ⟨bx, 49, none⟩ = some (.bool x.last))) (by kernel_rfl) ⟨eD, eD9⟩ (fun hHeld => ?_)
            refine wpAnyH_take (i := 0) (oi := ({ dst := some 66, op := Op.move (Operand.tmp 6), type := 26, pos := _, after := #[], guard := none } : Oper)) (v := ?_) rfl (by kernel_rfl) (by kernel_rfl) (by kernel_rfl) (fun _ _ _ h => h) (Or.inl ⟨by rfl, ?_⟩) hHeld ?_
            rotate_left
            · (intro w hS; go_simp; try with_reducible rfl)
            try simp only [Act.put, List.setIfInBounds_toArray, List.set_cons_zero, List.set_cons_succ]
            refine wpAnyH_take (i := 1) (oi := ({ dst := some 67, op := Op.fieldAddr 30 (Operand.tmp 8) 0, type := 0, pos := _, after := #[], guard := none } : Oper)) (v := ?_) rfl (by kernel_rfl) (by kernel_rfl) (by kernel_rfl) (fun _ _ _ h => h) (Or.inl ⟨by rfl, ?_⟩) hHeld ?_
            rotate_left
            · (intro w hS; go_simp; try with_reducible rfl)
            try simp only [Act.put, List.setIfInBounds_toArray, List.set_cons_zero, List.set_cons_succ]
            refine wpAnyH_take (i := 2) (oi := ({ dst := some 68, op := Op.load 3 (Operand.tmp 67), type := 3, pos := _, after := #[{ on := 1, ground := Ground.data }], guard := none } : Oper)) (v := ?_) rfl (by kernel_rfl) (by kernel_rfl) (by kernel_rfl) (fun _ _ _ h => h) (Or.inl ⟨by rfl, ?_⟩) hHeld ?_
            rotate_left
            · (intro w hS; go_simp; try with_reducible rfl)
            try simp only [Act.put, List.setIfInBounds_toArray, List.set_cons_zero, List.set_cons_succ]
            refine wpAnyH_take (i := 3) (oi := ({ dst := some 69, op := Op.fieldAddr 30 (Operand.tmp 8) 1, type := 0, pos := _, after := #[], guard := none } : Oper)) (v := ?_) rfl (by kernel_rfl) (by kernel_rfl) (by kernel_rfl) (fun _ _ _ h => h) (Or.inl ⟨by rfl, ?_⟩) hHeld ?_
            rotate_left
            · (intro w hS; go_simp; try with_reducible rfl)
            try simp only [Act.put, List.setIfInBounds_toArray, List.set_cons_zero, List.set_cons_succ]
            refine wpAnyH_take (i := 4) (oi := ({ dst := some 70, op := Op.slice 28 (Operand.tmp 69) none none none, type := 32, pos := _, after := #[{ on := 3, ground := Ground.data }], guard := none } : Oper)) (v := ?_) rfl (by kernel_rfl) (by kernel_rfl) (by kernel_rfl) (fun _ _ _ h => h) (Or.inl ⟨by rfl, ?_⟩) hHeld ?_
            rotate_left
            · (intro w hS; go_simp; try with_reducible rfl)
            try simp only [Act.put, List.setIfInBounds_toArray, List.set_cons_zero, List.set_cons_succ]
            refine wpAnyH_take (i := 5) (oi := ({ dst := some 71, op := Op.fieldAddr 30 (Operand.tmp 8) 2, type := 0, pos := _, after := #[], guard := none } : Oper)) (v := ?_) rfl (by kernel_rfl) (by kernel_rfl) (by kernel_rfl) (fun _ _ _ h => h) (Or.inl ⟨by rfl, ?_⟩) hHeld ?_
            rotate_left
            · (intro w hS; go_simp; try with_reducible rfl)
            try simp only [Act.put, List.setIfInBounds_toArray, List.set_cons_zero, List.set_cons_succ]
            refine wpAnyH_take (i := 6) (oi := ({ dst := some 72, op := Op.load 4 (Operand.tmp 71), type := 4, pos := _, after := #[{ on := 5, ground := Ground.data }], guard := none } : Oper)) (v := ?_) rfl (by kernel_rfl) (by kernel_rfl) (by kernel_rfl) (fun _ _ _ h => h) (Or.inl ⟨by rfl, ?_⟩) hHeld ?_
            rotate_left
            · (intro w hS; go_simp; try with_reducible rfl)
            try simp only [Act.put, List.setIfInBounds_toArray, List.set_cons_zero, List.set_cons_succ]
            refine wpAnyH_ready (rs := [7]) (by kernel_rfl) (by simp) ?_
            refine AllReadyH.cons (o := ({ dst := some 73, op := Op.call { callee := Callee.value (Operand.func 16), args := #[Operand.tmp 66, Operand.tmp 68, Operand.tmp 70, Operand.tmp 72], argTypes := #[26, 3, 32, 4] }, type := 36, pos := _, after := #[{ on := 0, ground := Ground.data }, { on := 2, ground := Ground.data }, { on := 4, ground := Ground.data }, { on := 6, ground := Ground.data }], guard := none } : Oper)) rfl (fun K hK => ?_) AllReadyH.nil
            refine step_call (HRc) (enters_of Try.func16 (by kernel_rfl) rfl) _ _ rfl rfl rfl ?_
            rintro e w6 ⟨⟨a6, c6, rfl, o6⟩, G6, r6, k6⟩
            dsimp only at o6
            dsimp only
            have I6 := ID.right (Nat.le_refl _) r6 k6
            have K6 := KD.ft k6 hGn
            obtain ⟨e6, e69, _⟩ := K6.part HL.out
            refine ⟨_, rfl, hK.out _ _ ⟨e6, e69⟩ (fun hHeld => ?_)⟩
            clear hK K
            try simp only [Act.put, List.setIfInBounds_toArray, List.set_cons_zero, List.set_cons_succ]
            refine wpAnyH_take (i := 8) (oi := ({ dst := some 65, op := Op.move (Operand.tmp 73), type := 36, pos := _, after := #[{ on := 7, ground := Ground.data }], guard := none } : Oper)) (v := ?_) rfl (by kernel_rfl) (by kernel_rfl) (by kernel_rfl) (fun _ _ _ h => h) (Or.inl ⟨by rfl, ?_⟩) hHeld ?_
            rotate_left
            · (intro w hS; go_simp; try with_reducible rfl)
            try simp only [Act.put, List.setIfInBounds_toArray, List.set_cons_zero, List.set_cons_succ]
            refine wpAnyH_take (i := 9) (oi := ({ dst := some 74, op := Op.extract (Operand.tmp 65) 0, type := 32, pos := _, after := #[{ on := 8, ground := Ground.data }], guard := none } : Oper)) (v := ?_) rfl (by kernel_rfl) (by kernel_rfl) (by kernel_rfl) (fun _ _ _ h => h) (Or.inl ⟨by rfl, ?_⟩) hHeld ?_
            rotate_left
            · (intro w hS; go_simp; try with_reducible rfl)
            try simp only [Act.put, List.setIfInBounds_toArray, List.set_cons_zero, List.set_cons_succ]
            refine wpAnyH_take (i := 10) (oi := ({ dst := some 75, op := Op.extract (Operand.tmp 65) 1, type := 5, pos := _, after := #[{ on := 8, ground := Ground.data }, { on := 12, ground := Ground.gcOnly Departure.lateStores }], guard := none } : Oper)) (v := ?_) rfl (by kernel_rfl) (by kernel_rfl) (by kernel_rfl) (fun _ _ _ h => h) (Or.inl ⟨by rfl, ?_⟩) hHeld ?_
            rotate_left
            · (intro w hS; go_simp; try with_reducible rfl)
            try simp only [Act.put, List.setIfInBounds_toArray, List.set_cons_zero, List.set_cons_succ]
            refine wpAnyH_take (i := 11) (oi := ({ dst := some 76, op := Op.extract (Operand.tmp 65) 2, type := 3, pos := _, after := #[{ on := 8, ground := Ground.data }, { on := 13, ground := Ground.gcOnly Departure.lateStores }], guard := none } : Oper)) (v := ?_) rfl (by kernel_rfl) (by kernel_rfl) (by kernel_rfl) (fun _ _ _ h => h) (Or.inl ⟨by rfl, ?_⟩) hHeld ?_
            rotate_left
            · (intro w hS; go_simp; try with_reducible rfl)
            try simp only [Act.put, List.setIfInBounds_toArray, List.set_cons_zero, List.set_cons_succ]
            refine wpAnyH_take (i := 12) (oi := ({ dst := some 12, op := Op.assign (Operand.tmp 74), type := 32, pos := _, after := #[{ on := 9, ground := Ground.data }, { on := 7, ground := Ground.chain }, { on := 0, ground := Ground.phase }, { on := 1, ground := Ground.phase }, { on := 2, ground := Ground.phase }, { on := 3, ground := Ground.phase }, { on := 4, ground := Ground.phase }, { on := 5, ground := Ground.phase }, { on := 6, ground := Ground.phase }, { on := 7, ground := Ground.phase }, { on := 8, ground := Ground.phase }, { on := 9, ground := Ground.phase }, { on := 10, ground := Ground.textOnly Departure.lateStores }, { on := 11, ground := Ground.textOnly Departure.lateStores }], guard := none } : Oper)) (v := ?_) rfl (by kernel_rfl) (by kernel_rfl) (by kernel_rfl) (fun _ _ _ h => h) (Or.inl ⟨by rfl, ?_⟩) hHeld ?_
            rotate_left
            · (intro w hS; go_simp; try with_reducible rfl)
            try simp only [Act.put, List.setIfInBounds_toArray, List.set_cons_zero, List.set_cons_succ]
            refine wpAnyH_take (i := 13) (oi := ({ dst := some 13, op := Op.assign (Operand.tmp 75), type := 5, pos := _, after := #[{ on := 10, ground := Ground.data }, { on := 12, ground := Ground.chain }, { on := 0, ground := Ground.phase }, { on := 1, ground := Ground.phase }, { on := 2, ground := Ground.phase }, { on := 3, ground := Ground.phase }, { on := 4, ground := Ground.phase }, { on := 5, ground := Ground.phase }, { on := 6, ground := Ground.phase }, { on := 7, ground := Ground.phase }, { on := 8, ground := Ground.phase }, { on := 9, ground := Ground.phase }, { on := 10, ground := Ground.phase }, { on := 11, ground := Ground.textOnly Departure.lateStores }, { on := 12, ground := Ground.phase }], guard := none } : Oper)) (v := ?_) rfl (by kernel_rfl) (by kernel_rfl) (by kernel_rfl) (fun _ _ _ h => h) (Or.inl ⟨by rfl, ?_⟩) hHeld ?_
            rotate_left
            · (intro w hS; go_simp; try with_reducible rfl)
            try simp only [Act.put, List.setIfInBounds_toArray, List.set_cons_zero, List.set_cons_succ]
            refine wpAnyH_take (i := 14) (oi := ({ dst := some 14, op := Op.assign (Operand.tmp 76), type := 3, pos := _, after := #[{ on := 11, ground := Ground.data }, { on := 13, ground := Ground.chain }, { on := 0, ground := Ground.phase }, { on := 1, ground := Ground.phase }, { on := 2, ground := Ground.phase }, { on := 3, ground := Ground.phase }, { on := 4, ground := Ground.phase }, { on := 5, ground := Ground.phase }, { on := 6, ground := Ground.phase }, { on := 7, ground := Ground.phase }, { on := 8, ground := Ground.phase }, { on := 9, ground := Ground.phase }, { on := 10, ground := Ground.phase }, { on := 11, ground := Ground.phase }, { on := 12, ground := Ground.phase }, { on := 13, ground := Ground.phase }], guard := none } : Oper)) (v := ?_) rfl (by kernel_rfl) (by kernel_rfl) (by kernel_rfl) (fun _ _ _ h => h) (Or.inl ⟨by rfl, ?_⟩) hHeld ?_
            rotate_left
            · (intro w hS; go_simp; try with_reducible rfl)
            try simp only [Act.put, List.setIfInBounds_toArray, List.set_cons_zero, List.set_cons_succ]
            refine wpAnyH_done (by kernel_rfl) ?_ _
            skip
            have o56 : OwnB wb.heap.size w6 a5 tx.length c5 tx := ownB_keep HO5.out (fun y e => k6.block y.block (HO5.out.lt y.block (by rw [e]; rfl)).2 (fun hG => by have := hGb _ hG; have := (HO5.out.lt y.block (by rw [e]; rfl)).1; omega))
            have SC := same_calls a5 a6 tx.length c5 tx.length c6 tx tx w6 o56.isB.1 o6.isB.1 (Nat.le_refl _) (Nat.le_refl _) (by omega)
            rw [beq_self_eq_true] at SC
            have hmm : ((mk.toNat : Int) != (mk.toNat : Int)) = false := by simp
            have hkk : ((kk : Int) != (kk : Int)) = false := by simp
            clear K6 e6 e69 eD eD9 KD ID r6 k6 I5 hwb o6 o56 HO5 HRc IPD
            go_wp2_with fail
            refine SC.mono ?_
            rintro e w7 ⟨rfl, b7⟩
            have I7 := I6.below b7 (Nat.le_refl _) (Nat.le_refl _)
            clear I6 b7 SC
            generalize (S.take x.t x.ps x.last).1 = S' at *
            have hl' : S'.l ≤ 1000 := by omega
            -- what is told of both
            have hlS : S'.l ≤ 1000 := hl'
            obtain ⟨ar, nr, cr, hbr, hcr, hyr⟩ := I7.r.ex
            have d3 : w7.drew.cell? ⟨p, 3, none⟩ = some (.slice ar nr cr) := hbr.cell 3 _ rfl
            have d2 : w7.drew.cell? ⟨p, 2, none⟩ = some (.int .i64 (S'.l : Int)) := hbr.cell 2 _ rfl
            have hnr := hcr.1
            have hnr2 : nr ≤ 960 := by rw [hnr]; exact I7.r.fit
            obtain ⟨P, hP⟩ : ∃ P, S'.xs.length / 48 = P := ⟨_, rfl⟩
            have hq7 : (nr : Int) / 48 = (P : Int) := by omega
            have hq8 : IntKind.i64.wrap (P : Int) = (P : Int) := by rw [IntKind.wrap_i64]; omega
            have hPP : ((P : Int) != (P : Int)) = false := by simp
            have hLL : ((S'.l : Int) != (S'.l : Int)) = false := by simp
            have ID := I7.below (m := w7.heap.size) (Below.refl _ w7).drew (Nat.le_refl _) (Nat.le_refl _)
            have HPt := gparts_calls ID.g hP
            have HLt := glost_calls ID.g (p := S'.l) rfl
            clear hbr hcr hyr hnr hP
            obtain ⟨l', hl9⟩ : ∃ l', S'.l = l' := ⟨_, rfl⟩
            rw [hl9] at d2 hLL HLt
            go_wp2
            refine wp_region_held_drew (S := (fun w' => w'.cell? ⟨p, 3, none⟩ = some (.slice ar nr cr) ∧ w'.cell? ⟨p, 2, none⟩ = some (.int .i64 (l' : Int)))) (by kernel_rfl) ⟨d3, d2⟩ (fun hHeld => ?_)
            refine wpAnyH_take (i := 0) (oi := ({ dst := some 91, op := Op.move (Operand.tmp 5), type := 24, pos := _, after := #[], guard := none } : Oper)) (v := ?_) rfl (by kernel_rfl) (by kernel_rfl) (by kernel_rfl) (fun _ _ _ h => h) (Or.inl ⟨by rfl, ?_⟩) hHeld ?_
            rotate_left
            · (intro w hS; go_simp; try with_reducible rfl)
            try simp only [Act.put, List.setIfInBounds_toArray, List.set_cons_zero, List.set_cons_succ]
            refine wpAnyH_take (i := 2) (oi := ({ dst := some 93, op := Op.move (Operand.tmp 6), type := 26, pos := _, after := #[], guard := none } : Oper)) (v := ?_) rfl (by kernel_rfl) (by kernel_rfl) (by kernel_rfl) (fun _ _ _ h => h) (Or.inl ⟨by rfl, ?_⟩) hHeld ?_
            rotate_left
            · (intro w hS; go_simp; try with_reducible rfl)
            try simp only [Act.put, List.setIfInBounds_toArray, List.set_cons_zero, List.set_cons_succ]
            refine wpAnyH_take (i := 3) (oi := ({ dst := some 94, op := Op.nilCheck (Operand.tmp 93), type := 0, pos := _, after := #[{ on := 2, ground := Ground.data }], guard := none } : Oper)) (v := ?_) rfl (by kernel_rfl) (by kernel_rfl) (by kernel_rfl) (fun _ _ _ h => h) (Or.inl ⟨by rfl, ?_⟩) hHeld ?_
            rotate_left
            · (intro w hS; go_simp; try with_reducible rfl)
            try simp only [Act.put, List.setIfInBounds_toArray, List.set_cons_zero, List.set_cons_succ]
            refine wpAnyH_take (i := 4) (oi := ({ dst := some 95, op := Op.fieldAddr 41 (Operand.tmp 94) 3, type := 0, pos := _, after := #[{ on := 3, ground := Ground.data }], guard := none } : Oper)) (v := ?_) rfl (by kernel_rfl) (by kernel_rfl) (by kernel_rfl) (fun _ _ _ h => h) (Or.inl ⟨by rfl, ?_⟩) hHeld ?_
            rotate_left
            · (intro w hS; go_simp; try with_reducible rfl)
            try simp only [Act.put, List.setIfInBounds_toArray, List.set_cons_zero, List.set_cons_succ]
            refine wpAnyH_take (i := 5) (oi := ({ dst := some 96, op := Op.load 32 (Operand.tmp 95), type := 32, pos := _, after := #[{ on := 4, ground := Ground.data }], guard := none } : Oper)) (v := ?_) rfl (by kernel_rfl) (by kernel_rfl) (by kernel_rfl) (fun _ _ _ h => h) (Or.inl ⟨by rfl, ?_⟩) hHeld ?_
            rotate_left
            · (intro w hS; go_simp; try with_reducible rfl)
            try simp only [Act.put, List.setIfInBounds_toArray, List.set_cons_zero, List.set_cons_succ]
            refine wpAnyH_take (i := 6) (oi := ({ dst := some 97, op := Op.call { callee := Callee.builtin Builtin.len, args := #[Operand.tmp 96], argTypes := #[32] }, type := 3, pos := _, after := #[{ on := 5, ground := Ground.data }], guard := none } : Oper)) (v := ?_) rfl (by kernel_rfl) (by kernel_rfl) (by kernel_rfl) (fun _ _ _ h => h) (Or.inl ⟨by rfl, ?_⟩) hHeld ?_
            rotate_left
            · (intro w hS; go_simp; try with_reducible rfl)
            try simp only [Act.put, List.setIfInBounds_toArray, List.set_cons_zero, List.set_cons_succ]
            refine wpAnyH_take (i := 7) (oi := ({ dst := some 98, op := Op.binOp BinOp.quo 3 (Operand.tmp 97) (Operand.const (Value.int IntKind.i64 48)) 3, type := 3, pos := _, after := #[{ on := 6, ground := Ground.data }], guard := none } : Oper)) (v := ?_) rfl (by kernel_rfl) (by kernel_rfl) (by kernel_rfl) (fun _ _ _ h => h) (Or.inl ⟨by rfl, ?_⟩) hHeld ?_
            rotate_left
            · (intro w hS; go_simp; try with_reducible rfl)
            try simp only [Act.put, List.setIfInBounds_toArray, List.set_cons_zero, List.set_cons_succ]
            (try rw [hq7]); (try rw [hq8])
            refine wpAnyH_ready (rs := [1]) (by kernel_rfl) (by simp) ?_
            refine AllReadyH.cons (o := ({ dst := some 92, op := Op.call { callee := Callee.value (Operand.func 18), args := #[Operand.tmp 91], argTypes := #[24] }, type := 3, pos := _, after := #[{ on := 0, ground := Ground.data }], guard := none } : Oper)) rfl (fun K hK => ?_) AllReadyH.nil
            refine step_call (HPt) (enters_of Try.func18 (by kernel_rfl) rfl) _ _ rfl rfl rfl ?_
            rintro e w8 ⟨rfl, e8⟩
            rw [e8]
            clear e8
            refine ⟨_, rfl, hK.out _ _ ⟨d3, d2⟩ (fun hHeld => ?_)⟩
            clear hK K
            try simp only [Act.put, List.setIfInBounds_toArray, List.set_cons_zero, List.set_cons_succ]
            refine wpAnyH_take (i := 8) (oi := ({ dst := some 99, op := Op.binOp BinOp.neq 3 (Operand.tmp 92) (Operand.tmp 98) 3, type := 4, pos := _, after := #[{ on := 1, ground := Ground.data }, { on := 7, ground := Ground.data }], guard := none } : Oper)) (v := ?_) rfl (by kernel_rfl) (by kernel_rfl) (by kernel_rfl) (fun _ _ _ h => h) (Or.inl ⟨by rfl, ?_⟩) hHeld ?_
            rotate_left
            · (intro w hS; go_simp; try with_reducible rfl)
            try simp only [Act.put, List.setIfInBounds_toArray, List.set_cons_zero, List.set_cons_succ]
            try rw [hPP]
            refine wpAnyH_take (i := 9) (oi := ({ dst := some 100, op := Op.move (Operand.tmp 99), type := 4, pos := _, after := #[{ on := 8, ground := Ground.data }, { on := 1, ground := Ground.chain }], guard := none } : Oper)) (v := ?_) rfl (by kernel_rfl) (by kernel_rfl) (by kernel_rfl) (fun _ _ _ h => h) (Or.inl ⟨by rfl, ?_⟩) hHeld ?_
            rotate_left
            · (intro w hS; go_simp; try with_reducible rfl)
            try simp only [Act.put, List.setIfInBounds_toArray, List.set_cons_zero, List.set_cons_succ]
            refine wpAnyH_take (i := 10) (oi := ({ dst := some 101, op := Op.move (Operand.tmp 5), type := 24, pos := _, after := #[{ on := 9, ground := Ground.guard }], guard := some (9, false) } : Oper)) (v := ?_) rfl (by kernel_rfl) (by kernel_rfl) (by kernel_rfl) (fun _ _ _ h => h) (Or.inl ⟨by rfl, ?_⟩) hHeld ?_
            rotate_left
            · (intro w hS; go_simp; try with_reducible rfl)
            try simp only [Act.put, List.setIfInBounds_toArray, List.set_cons_zero, List.set_cons_succ]
            refine wpAnyH_take (i := 12) (oi := ({ dst := some 103, op := Op.move (Operand.tmp 6), type := 26, pos := _, after := #[{ on := 9, ground := Ground.guard }], guard := some (9, false) } : Oper)) (v := ?_) rfl (by kernel_rfl) (by kernel_rfl) (by kernel_rfl) (fun _ _ _ h => h) (Or.inl ⟨by rfl, ?_⟩) hHeld ?_
            rotate_left
            · (intro w hS; go_simp; try with_reducible rfl)
            try simp only [Act.put, List.setIfInBounds_toArray, List.set_cons_zero, List.set_cons_succ]
            refine wpAnyH_take (i := 13) (oi := ({ dst := some 104, op := Op.nilCheck (Operand.tmp 103), type := 0, pos := _, after := #[{ on := 12, ground := Ground.data }, { on := 9, ground := Ground.guard }], guard := some (9, false) } : Oper)) (v := ?_) rfl (by kernel_rfl) (by kernel_rfl) (by kernel_rfl) (fun _ _ _ h => h) (Or.inl ⟨by rfl, ?_⟩) hHeld ?_
            rotate_left
            · (intro w hS; go_simp; try with_reducible rfl)
            try simp only [Act.put, List.setIfInBounds_toArray, List.set_cons_zero, List.set_cons_succ]
            refine wpAnyH_take (i := 14) (oi := ({ dst := some 105, op := Op.fieldAddr 41 (Operand.tmp 104) 2, type := 0, pos := _, after := #[{ on := 13, ground := Ground.data }, { on := 9, ground := Ground.guard }], guard := some (9, false) } : Oper)) (v := ?_) rfl (by kernel_rfl) (by kernel_rfl) (by kernel_rfl) (fun _ _ _ h => h) (Or.inl ⟨by rfl, ?_⟩) hHeld ?_
            rotate_left
            · (intro w hS; go_simp; try with_reducible rfl)
            try simp only [Act.put, List.setIfInBounds_toArray, List.set_cons_zero, List.set_cons_succ]
            refine wpAnyH_take (i := 15) (oi := ({ dst := some 106, op := Op.load 3 (Operand.tmp 105), type := 3, pos := _, after := #[{ on := 14, ground := Ground.data }, { on := 9, ground := Ground.guard }], guard := some (9, false) } : Oper)) (v := ?_) rfl (by kernel_rfl) (by kernel_rfl) (by kernel_rfl) (fun _ _ _ h => h) (Or.inl ⟨by rfl, ?_⟩) hHeld ?_
            rotate_left
            · (intro w hS; go_simp; try with_reducible rfl)
            try simp only [Act.put, List.setIfInBounds_toArray, List.set_cons_zero, List.set_cons_succ]
            refine wpAnyH_ready (rs := [11]) (by kernel_rfl) (by simp) ?_
            refine AllReadyH.cons (o := ({ dst := some 102, op := Op.call { callee := Callee.value (Operand.func 19), args := #[Operand.tmp 101], argTypes := #[24] }, type := 3, pos := _, after := #[{ on := 10, ground := Ground.data }, { on := 9, ground := Ground.chain }, { on := 9, ground := Ground.guard }], guard := some (9, false) } : Oper)) rfl (fun K hK => ?_) AllReadyH.nil
            refine step_call (HLt) (enters_of Try.func19 (by kernel_rfl) rfl) _ _ rfl rfl rfl ?_
            rintro e w9 ⟨rfl, e9⟩
            rw [e9]
            clear e9
            refine ⟨_, rfl, hK.out _ _ ⟨d3, d2⟩ (fun hHeld => ?_)⟩
            clear hK K
            try simp only [Act.put, List.setIfInBounds_toArray, List.set_cons_zero, List.set_cons_succ]
            refine wpAnyH_take (i := 16) (oi := ({ dst := some 107, op := Op.binOp BinOp.neq 3 (Operand.tmp 102) (Operand.tmp 106) 3, type := 4, pos := _, after := #[{ on := 11, ground := Ground.data }, { on := 15, ground := Ground.data }, { on := 9, ground := Ground.guard }], guard := some (9, false) } : Oper)) (v := ?_) rfl (by kernel_rfl) (by kernel_rfl) (by kernel_rfl) (fun _ _ _ h => h) (Or.inl ⟨by rfl, ?_⟩) hHeld ?_
            rotate_left
            · (intro w hS; go_simp; try with_reducible rfl)
            try simp only [Act.put, List.setIfInBounds_toArray, List.set_cons_zero, List.set_cons_succ]
            try rw [hLL]
            refine wpAnyH_take (i := 17) (oi := ({ dst := some 108, op := Op.pick (Operand.tmp 100) (Operand.const (Value.bool true)) (Operand.tmp 107), type := 4, pos := _, after := #[{ on := 9, ground := Ground.data }, { on := 16, ground := Ground.data }], guard := none } : Oper)) (v := ?_) rfl (by kernel_rfl) (by kernel_rfl) (by kernel_rfl) (fun _ _ _ h => h) (Or.inl ⟨by rfl, ?_⟩) hHeld ?_
            rotate_left
            · (intro w hS; go_simp; try with_reducible rfl)
            try simp only [Act.put, List.setIfInBounds_toArray, List.set_cons_zero, List.set_cons_succ]
            refine wpAnyH_done (by kernel_rfl) ?_ _
            skip
            go_wp2
            go_roundw
            case rel => exact ⟨k + 1, S', F5, G6, by omega, by go_num, ID, hl8⟩
            case measure => simp [intOf]; omega
        · have hf : (decide (0 ≤ x.t) && decide (x.t ≤ 1152921504606846976)) = false := by
            rw [Bool.and_eq_false_iff, decide_eq_false_iff_not, decide_eq_false_iff_not]; omega
          rw [hf]
          have hb1 := I1.b
          clear I1
          go_wp2
          go_ret
          exact ⟨rfl, hb1⟩
      · obtain rfl : k = len := by omega
        go_wp2
        go_ret
        exact ⟨rfl, I.b⟩
end Go.Proofs.Ytfmicnjijcmjaaa
