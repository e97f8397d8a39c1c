/- Proved here: the walk of ConnsFree. Conditions: as each theorem states them. -/
import Derived.Test.YtgimmaancnlbcaaPu
import Derived.Test.YtgimmaancnlbcaaOps
namespace Go.Proofs.Ytgimmaancnlbcaa
set_option linter.unusedSimpArgs false
set_option linter.unusedVariables false
open Go.RowKit Go.Shelf

theorem free_wrap {v m : Int} (h0 : 0 ≤ m) (h1 : m ≤ v) (h2 : v ≤ 65535) : IntKind.i64.wrap (v - m) = v - m := by rw [IntKind.wrap_i64]; omega

set_option maxHeartbeats 4000000 in
set_option maxRecDepth 20000 in
theorem free_walk (a : Option Addr) (len cap : Nat) (M : List En) (p q f : Int) (w : World) (hL : IsE w.heap.size w a len M) :
    Calls Try.prog 6 #[.slice a len cap, .int .i64 p, .int .i64 q, .int .i64 f] w fun e w' => e = .returned (.bool true) ∧ Below w.heap.size w w' := by
  by_cases hl1 : 200 < len
  · have q1 : decide (200 < (len : Int)) = true := by simp; omega
    clear hL
    go_enter Try.func6, Try.ntmps6
    go_wp2_with fail
    refine (awake_calls _).mono ?_
    rintro e w1 ⟨rfl, b1⟩
    go_wp2_with fail
    refine (awake_calls _).mono ?_
    rintro e w2 ⟨rfl, b2⟩
    go_wp2
    go_ret
    exact ⟨rfl, b1.trans (b2.mono b1.size)⟩
  · have q1 : decide (200 < (len : Int)) = false := by simp; omega
    obtain ⟨m0, hm0⟩ : ∃ m0, (if f < 0 then (0 : Int) else f) = m0 := ⟨_, rfl⟩
    have HM : Hid (max f 0 = m0) := by show _ = _; subst hm0; split <;> omega
    have hMl : Hid (len = M.length) := hL.1
    have R64 : roomN 64 = 64 := by decide
    go_enter Try.func6, Try.ntmps6
    go_wp2_with fail
    refine (awake_calls _).mono ?_
    rintro x w1 ⟨rfl, b1⟩
    go_wp2_with fail
    refine (new_calls 64 _).mono ?_
    rintro x w2 ⟨rfl, T2, b2⟩
    rw [R64] at T2
    have B2 := b1.trans (b2.mono b1.size)
    have hr1 := b1.size
    have hl200 : len ≤ 200 := by omega
    clear b1 b2 q1 hl1 R64
    generalize w1.heap.size = r at *
    go_wp2
    go_loopw [29] (fun iv wr => ∃ (i : Nat), i ≤ len ∧ iv = .int .i64 i ∧ TB wr r (putsL 64 [] (M.take i)) 64 ∧ Below w.heap.size w wr) (fun iv _ => len - (intOf iv).toNat)
    case atStart => exact ⟨0, Nat.zero_le _, rfl, T2, B2⟩
    case round =>
      obtain ⟨i, hi, rfl, T3, B3⟩ := hrel
      clear T2 B2
      by_cases hlt : i < len
      · obtain ⟨g, off, x, rfl, hg, hx, hc⟩ := hL.at hlt
        obtain ⟨c0, c1, c2, c3⟩ := hc _ B3
        have HP : Hid (putL (putsL 64 [] (M.take i)) 64 (x.1, x.2) = putsL 64 [] (M.take (i + 1))) := (putsL_take hx).symm
        clear hx
        go_wp2
        refine wp_region_held_drew (S := (fun w' => w'.cell? ⟨g, off + i * 4, none⟩ = some (.int .i64 x.1.1) ∧ w'.cell? ⟨g, off + i * 4 + 1, none⟩ = some (.int .i64 x.1.2.1) ∧ w'.cell? ⟨g, off + i * 4 + 1 + 1, none⟩ = some (.int .i64 x.1.2.2) ∧ w'.cell? ⟨g, off + i * 4 + 1 + 1 + 1, none⟩ = some (.int .i64 x.2))) (by kernel_rfl) ⟨c0, c1, c2, c3⟩ (fun hHeld => ?_)
        refine wpAnyH_take (i := 0) (oi := ({ dst := some 32, op := Op.move (Operand.tmp 9), type := 26, pos := _, after := #[], guard := none } : Oper)) (v := ?_) rfl (by kernel_rfl) (by kernel_rfl) (by kernel_rfl) (fun _ _ _ h => h) (Or.inl ⟨by rfl, ?_⟩) hHeld ?_
        rotate_left
        · (intro w hS; go_simp; try with_reducible rfl)
        try simp only [Act.put, List.setIfInBounds_toArray, List.set_cons_zero, List.set_cons_succ]
        refine wpAnyH_take (i := 1) (oi := ({ dst := some 33, op := Op.move (Operand.tmp 0), type := 22, pos := _, after := #[], guard := none } : Oper)) (v := ?_) rfl (by kernel_rfl) (by kernel_rfl) (by kernel_rfl) (fun _ _ _ h => h) (Or.inl ⟨by rfl, ?_⟩) hHeld ?_
        rotate_left
        · (intro w hS; go_simp; try with_reducible rfl)
        try simp only [Act.put, List.setIfInBounds_toArray, List.set_cons_zero, List.set_cons_succ]
        refine wpAnyH_take (i := 2) (oi := ({ dst := some 34, op := Op.move (Operand.tmp 10), type := 3, pos := _, after := #[], guard := none } : Oper)) (v := ?_) rfl (by kernel_rfl) (by kernel_rfl) (by kernel_rfl) (fun _ _ _ h => h) (Or.inl ⟨by rfl, ?_⟩) hHeld ?_
        rotate_left
        · (intro w hS; go_simp; try with_reducible rfl)
        try simp only [Act.put, List.setIfInBounds_toArray, List.set_cons_zero, List.set_cons_succ]
        refine wpAnyH_take (i := 3) (oi := ({ dst := some 35, op := Op.indexAddr 22 (Operand.tmp 33) (Operand.tmp 34), type := 0, pos := _, after := #[{ on := 1, ground := Ground.data }, { on := 2, ground := Ground.data }], guard := none } : Oper)) (v := ?_) rfl (by kernel_rfl) (by kernel_rfl) (by kernel_rfl) (fun _ _ _ h => h) (Or.inl ⟨by rfl, ?_⟩) hHeld ?_
        rotate_left
        · (intro w hS; go_simp; try with_reducible rfl)
        try simp only [Act.put, List.setIfInBounds_toArray, List.set_cons_zero, List.set_cons_succ]
        refine wpAnyH_take (i := 4) (oi := ({ dst := some 36, op := Op.fieldAddr 31 (Operand.tmp 35) 0, type := 0, pos := _, after := #[{ on := 3, ground := Ground.data }], guard := none } : Oper)) (v := ?_) rfl (by kernel_rfl) (by kernel_rfl) (by kernel_rfl) (fun _ _ _ h => h) (Or.inl ⟨by rfl, ?_⟩) hHeld ?_
        rotate_left
        · (intro w hS; go_simp; try with_reducible rfl)
        try simp only [Act.put, List.setIfInBounds_toArray, List.set_cons_zero, List.set_cons_succ]
        refine wpAnyH_take (i := 5) (oi := ({ dst := some 37, op := Op.load 24 (Operand.tmp 36), type := 24, pos := _, after := #[{ on := 4, ground := Ground.data }], guard := none } : Oper)) (v := ?_) rfl (by kernel_rfl) (by kernel_rfl) (by kernel_rfl) (fun _ _ _ h => h) (Or.inl ⟨by rfl, ?_⟩) hHeld ?_
        rotate_left
        · (intro w hS; go_simp; try with_reducible rfl)
        try simp only [Act.put, List.setIfInBounds_toArray, List.set_cons_zero, List.set_cons_succ]
        refine wpAnyH_take (i := 6) (oi := ({ dst := some 38, op := Op.move (Operand.tmp 0), type := 22, pos := _, after := #[], guard := none } : Oper)) (v := ?_) rfl (by kernel_rfl) (by kernel_rfl) (by kernel_rfl) (fun _ _ _ h => h) (Or.inl ⟨by rfl, ?_⟩) hHeld ?_
        rotate_left
        · (intro w hS; go_simp; try with_reducible rfl)
        try simp only [Act.put, List.setIfInBounds_toArray, List.set_cons_zero, List.set_cons_succ]
        refine wpAnyH_take (i := 7) (oi := ({ dst := some 39, op := Op.move (Operand.tmp 10), type := 3, pos := _, after := #[], guard := none } : Oper)) (v := ?_) rfl (by kernel_rfl) (by kernel_rfl) (by kernel_rfl) (fun _ _ _ h => h) (Or.inl ⟨by rfl, ?_⟩) hHeld ?_
        rotate_left
        · (intro w hS; go_simp; try with_reducible rfl)
        try simp only [Act.put, List.setIfInBounds_toArray, List.set_cons_zero, List.set_cons_succ]
        refine wpAnyH_take (i := 8) (oi := ({ dst := some 40, op := Op.indexAddr 22 (Operand.tmp 38) (Operand.tmp 39), type := 0, pos := _, after := #[{ on := 6, ground := Ground.data }, { on := 7, ground := Ground.data }], guard := none } : Oper)) (v := ?_) rfl (by kernel_rfl) (by kernel_rfl) (by kernel_rfl) (fun _ _ _ h => h) (Or.inl ⟨by rfl, ?_⟩) hHeld ?_
        rotate_left
        · (intro w hS; go_simp; try with_reducible rfl)
        try simp only [Act.put, List.setIfInBounds_toArray, List.set_cons_zero, List.set_cons_succ]
        refine wpAnyH_take (i := 9) (oi := ({ dst := some 41, op := Op.fieldAddr 31 (Operand.tmp 40) 1, type := 0, pos := _, after := #[{ on := 8, ground := Ground.data }], guard := none } : Oper)) (v := ?_) rfl (by kernel_rfl) (by kernel_rfl) (by kernel_rfl) (fun _ _ _ h => h) (Or.inl ⟨by rfl, ?_⟩) hHeld ?_
        rotate_left
        · (intro w hS; go_simp; try with_reducible rfl)
        try simp only [Act.put, List.setIfInBounds_toArray, List.set_cons_zero, List.set_cons_succ]
        refine wpAnyH_take (i := 10) (oi := ({ dst := some 42, op := Op.load 3 (Operand.tmp 41), type := 3, pos := _, after := #[{ on := 9, ground := Ground.data }], guard := none } : Oper)) (v := ?_) rfl (by kernel_rfl) (by kernel_rfl) (by kernel_rfl) (fun _ _ _ h => h) (Or.inl ⟨by rfl, ?_⟩) hHeld ?_
        rotate_left
        · (intro w hS; go_simp; try with_reducible rfl)
        try simp only [Act.put, List.setIfInBounds_toArray, List.set_cons_zero, List.set_cons_succ]
        refine wpAnyH_ready (rs := [11]) (by kernel_rfl) (by simp) ?_
        refine AllReadyH.cons (o := ({ dst := some 43, op := Op.call { callee := Callee.value (Operand.func 12), args := #[Operand.tmp 32, Operand.tmp 37, Operand.tmp 42], argTypes := #[26, 24, 3] }, type := 32, pos := _, after := #[{ on := 0, ground := Ground.data }, { on := 5, ground := Ground.data }, { on := 10, ground := Ground.data }], guard := none } : Oper)) rfl (fun K hK => ?_) AllReadyH.nil
        refine step_call (put_calls T3.drew x.1 x.2) (enters_of Try.func12 (by kernel_rfl) rfl) _ _ rfl rfl rfl ?_
        rintro e w4 ⟨rfl, T4, q4⟩
        rw [HP.out] at T4
        have B4 := But.own B3.drew hr1 q4 (Nat.le_refl _)
        refine ⟨_, rfl, hK.out _ _ (hc _ B4) (fun hHeld => ?_)⟩
        clear hK K
        try simp only [Act.put, List.setIfInBounds_toArray, List.set_cons_zero, List.set_cons_succ]
        refine wpAnyH_done (by kernel_rfl) ?_ _
        skip
        clear T3 B3 q4 c0 c1 c2 c3
        go_wp2
        go_roundw
        case rel => exact ⟨i + 1, by omega, by go_num, T4, B4⟩
        case measure => simp [intOf]; omega
      · obtain rfl : i = len := by omega
        generalize putsL 64 [] (M.take i) = T at *
        clear hL
        go_wp2_with fail
        refine (free_calls T3 p q f).mono ?_
        rintro e w4 ⟨rfl, b4⟩
        have T4 := T3.below b4 T3.lt
        have B4 := B3.trans (b4.mono B3.size)
        have hok := T3.ok
        clear T3 B3 b4
        cases hb : freeB T p q f with
        | false =>
          obtain ⟨h1, h2⟩ := free_no hok hb
          rw [h1]
          clear hb h1
          by_cases hr : rightK (p, q, 0) = true
          · have hf : decide (65471 < f) = true := by rcases h2 with h | h; rw [hr] at h; cases h; exact decide_eq_true h
            clear h2
            go_wp2_with fail
            refine (right_calls (p, q, 0) _).mono ?_
            rintro e w5 ⟨rfl, b5⟩
            rw [hr]
            have B5 := B4.trans (b5.mono B4.size)
            clear hr
            go_wp2
            go_ret
            exact ⟨rfl, B5⟩
          · have hr' : rightK (p, q, 0) = false := by simpa using hr
            clear h2 hr
            go_wp2_with fail
            refine (right_calls (p, q, 0) _).mono ?_
            rintro e w5 ⟨rfl, b5⟩
            rw [hr']
            have B5 := B4.trans (b5.mono B4.size)
            clear hr'
            go_wp2
            go_ret
            exact ⟨rfl, B5⟩
        | true =>
          obtain ⟨h1, h2, h3, h4, h5, h6, h7⟩ := free_yes hok hb
          rw [HM.out] at h3 h4 h6
          have H2 : Hid (getB T (p, q, freeN T p q f) = false) := h2
          have H6 : Hid (∀ i, m0 ≤ i → i < freeN T p q f → getB T (p, q, i) = true) := h6
          have H7 : Hid (putE T 64 (p, q, freeN T p q f) = 0 ∨ (putE T 64 (p, q, freeN T p q f) = 9 ∧ T.length = 64)) := h7
          have hm00 : 0 ≤ m0 := by rw [← HM.out]; omega
          have hfm : f ≤ m0 := by rw [← HM.out]; omega
          generalize freeN T p q f = v at *
          have d1 : decide (v < f) = false := decide_eq_false (by omega)
          have hwr := free_wrap hm00 h3 h5
          have d2 : decide (64 < v - m0) = false := decide_eq_false (by omega)
          clear hb h1 h2 h6 h7 hok HM
          go_wp2_with fail
          refine (get_calls T4 (p, q, v)).mono ?_
          rintro e w5 ⟨rfl, b5⟩
          rw [H2.out]
          have T5 := T4.below b5 T4.lt
          have B5 := B4.trans (b5.mono B4.size)
          clear T4 B4 b5
          go_wp2
          go_loopw [15] (fun iv wr => ∃ (j : Int), m0 ≤ j ∧ j ≤ v ∧ iv = .int .i64 j ∧ TB wr r T 64 ∧ Below w.heap.size w wr) (fun iv _ => (v - intOf iv).toNat)
          case atStart => exact ⟨m0, Int.le_refl _, h3, rfl, T5, B5⟩
          case round =>
            obtain ⟨j, j0, j1, rfl, T6, B6⟩ := hrel
            clear T5 B5
            by_cases hjv : j < v
            · have hg := H6.out j j0 hjv
              have hw1 : IntKind.i64.wrap (j + 1) = j + 1 := by rw [IntKind.wrap_i64]; omega
              go_wp2_with fail
              refine (get_calls T6 (p, q, j)).mono ?_
              rintro e w7 ⟨rfl, b7⟩
              rw [hg]
              have T7 := T6.below b7 T6.lt
              have B7 := B6.trans (b7.mono B6.size)
              clear T6 B6 b7 hg
              go_wp2
              go_roundw
              case rel => exact ⟨j + 1, by omega, by omega, by go_num, T7, B7⟩
              case measure => simp [intOf]; omega
            · obtain rfl : j = v := by omega
              have HPL : Hid (putL T 64 ((p, q, j), 1) = if putE T 64 (p, q, j) = 0 then ins T ((p, q, j), 1) else T) := rfl
              go_wp2_with fail
              refine (put_calls T6 (p, q, j) 1).mono ?_
              rintro e w7 ⟨rfl, T7, q7⟩
              have B7 := But.own B6 hr1 q7 (Nat.le_refl _)
              clear T6 B6 q7
              rcases H7.out with h7 | ⟨h7, h8⟩
              · rw [h7]
                clear h7
                go_wp2
                go_ret
                exact ⟨rfl, B7⟩
              · rw [h7]
                rw [HPL.out, h7, if_neg (by decide)] at T7
                have H8 : Hid ((T.length : Int) = 64) := by show _ = _; omega
                clear h7 h8
                go_wp2_with fail
                refine (len_calls T7).mono ?_
                rintro e w8 ⟨rfl, e8⟩
                rw [e8, H8.out]
                clear e8
                go_wp2
                go_ret
                exact ⟨rfl, B7⟩
end Go.Proofs.Ytgimmaancnlbcaa
