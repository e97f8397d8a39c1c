/- Proved here: the walk of PoliceShift. Conditions: as each theorem states them. -/
import Derived.Test.YtlaomjhibaoglaaDroppedW
namespace Go.Proofs.Ytlaomjhibaoglaa
set_option linter.unusedSimpArgs false
set_option linter.unusedVariables false
open Go.RowKit Go.Shelf

/-- Two buckets of which nothing was taken, or one of which is later by as much. -/
def Sh (y T S : Int) : Prop := (T = 0 ∧ S = 0) ∨ S = T + y
theorem Sh.fit {y T S : Int} (h : Sh y T S) (e : Int) {t : Int} (t0 : 0 ≤ t) (y0 : 0 ≤ y) (t1 : t + y ≤ 1152921504606846976) : fitN e S (t + y) = fitN e T t := by
  unfold fitN
  have := hM_bound e
  rw [hM_id (by omega) t1, hM_id t0 (by omega)]
  congr 1
  apply propext
  rcases h with ⟨rfl, rfl⟩ | rfl <;> omega
theorem Sh.next {y T S : Int} (h : Sh y T S) (s : Int) {t : Int} (t0 : 0 ≤ t) (y0 : 0 ≤ y) (t1 : t + y ≤ 1152921504606846976) : Sh y (nextN s T t) (nextN s S (t + y)) := by
  right
  unfold nextN
  rw [hM_id (by omega) t1, hM_id t0 (by omega)]
  rcases h with ⟨rfl, rfl⟩ | rfl <;> omega
theorem sh_v0 {y T1 S1 T2 S2 : Int} (h1 : Sh y T1 S1) (h2 : Sh y T2 S2) (K : PK) (c : Int) {t : Int} (t0 : 0 ≤ t) (y0 : 0 ≤ y) (t1 : t + y ≤ 1152921504606846976) : v0N K S1 S2 (t + y) c = v0N K T1 T2 t c := by
  unfold v0N; rw [h1.fit K.e t0 y0 t1, h2.fit K.B t0 y0 t1]
theorem sh_step {y T1 S1 T2 S2 : Int} (h1 : Sh y T1 S1) (h2 : Sh y T2 S2) (K : PK) (al : Bool) (c : Int) {t : Int} (t0 : 0 ≤ t) (y0 : 0 ≤ y) (t1 : t + y ≤ 1152921504606846976) :
    vN K al S1 S2 (t + y) c = vN K al T1 T2 t c ∧ Sh y (n1N K T1 T2 t c) (n1N K S1 S2 (t + y) c) ∧ Sh y (n2N K T1 T2 t c) (n2N K S1 S2 (t + y) c) := by
  unfold vN n1N n2N
  rw [sh_v0 h1 h2 K c t0 y0 t1]
  refine ⟨rfl, ?_, ?_⟩
  · cases (v0N K T1 T2 t c == 3)
    · exact h1.next K.p t0 y0 t1
    · exact h1
  · cases ((v0N K T1 T2 t c == 1) && ask2 K c)
    · exact h2
    · exact h2.next K.w t0 y0 t1

set_option maxHeartbeats 4000000 in
theorem shift_walk (k p e w b l : Int) (a : Option Addr) (len cap : Nat) (L : List (Int × Bool)) (y : Int) (y0 : 0 ≤ y) (y1 : y < 4294967296) (W : World) (hL : IsG W.heap.size W a len L) :
    Calls Try.prog 8 #[cV k p e w b l, .slice a len cap, .int .u32 y] W fun x W' => x = .returned (.bool true) ∧ Below W.heap.size W W' := by
  by_cases hl1 : 300 < len
  · have q1 : decide (300 < (len : Int)) = true := by simp; omega
    clear hL
    go_enter Try.func8, Try.ntmps8
    go_wp2_with fail
    refine (awake_calls _).mono ?_
    rintro x w1 ⟨rfl, b1⟩
    go_wp2_with fail
    refine (awake_calls _).mono ?_
    rintro x w2 ⟨rfl, b2⟩
    have b1' := below_box2 b1
    go_wp2
    go_ret
    exact ⟨rfl, b1'.trans (b2.mono b1'.size)⟩
  have q1 : decide (300 < (len : Int)) = false := by simp; omega
  have hl : len ≤ 300 := by omega
  clear hl1
  have C0 := cc_new W k p e w b l
  cases ho : okB k p e w b l with
  | false =>
    have H : Hid (okB k p e w b l = false) := ho
    clear ho hL
    go_enter Try.func8, Try.ntmps8
    go_wp2_with fail
    refine (awake_calls _).mono ?_
    rintro x w1 ⟨rfl, b1⟩
    have C1 := C0.below b1 C0.lt
    obtain ⟨c0, c1, c2, c3, c4, c5⟩ := C1.facts
    have B1 := below_box2 b1
    have r1 := C1.lt
    clear b1 C0
    go_wp2_with fail
    refine (pnew_no k p e w b l H.out _).mono ?_
    rintro x w2 ⟨E, rfl, hE, b2⟩
    have B2 := B1.trans (b2.mono B1.size)
    have C2 := C1.below b2 C1.lt
    clear c0 c1 c2 c3 c4 c5 C1 b2
    obtain ⟨c0, c1, c2, c3, c4, c5⟩ := C2.facts
    go_wp2_with fail
    refine (pnew_no k p e w b l H.out _).mono ?_
    rintro x w3 ⟨E2, rfl, hE2, b3⟩
    have B3 := B2.trans (b3.mono B2.size)
    rcases hE with rfl | rfl <;>
    · go_wp2
      go_ret
      exact ⟨rfl, B3⟩
  | true =>
    have H : Hid (okB k p e w b l = true) := ho
    clear ho
    obtain ⟨al, hal⟩ : ∃ al, (k == 7) = al := ⟨_, rfl⟩
    have hkl : Hid ((k == 7) = al) := hal
    clear hal
    go_enter Try.func8, Try.ntmps8
    go_wp2_with fail
    refine (awake_calls _).mono ?_
    rintro x w1 ⟨rfl, b1⟩
    have C1 := C0.below b1 C0.lt
    obtain ⟨c0, c1, c2, c3, c4, c5⟩ := C1.facts
    have B1 := below_box2 b1
    have G1 := hL.below B1 (Nat.le_refl _)
    clear C0 b1 hL
    go_wp2_with fail
    refine (pnew_calls k p e w b l H.out _).mono ?_
    rintro x w2 ⟨A, rfl, P2, lo, b2⟩
    rw [hkl.out] at P2
    have hall := lo.all
    have C2 := C1.below b2 C1.lt
    have s2 := b2.size
    clear c0 c1 c2 c3 c4 c5 lo q1 C1
    obtain ⟨c0, c1, c2, c3, c4, c5⟩ := C2.facts
    go_wp2_with fail
    refine (pnew_calls k p e w b l H.out _).mono ?_
    rintro x w3 ⟨B, rfl, P3, lo, b3⟩
    rw [hkl.out] at P3
    have hhi := P2.hi
    have hgl := P2.pc.pr.glt
    have P2' := P2.below b3 (Nat.le_refl _)
    have hbl : ∀ k ∈ [B.r, B.b1, B.b2], w1.heap.size ≤ k := fun k hk => Nat.le_trans s2 (lo.all k hk)
    have B3 : Below w1.heap.size w1 w3 := b2.trans (b3.mono s2)
    clear c0 c1 c2 c3 c4 c5 C2 P2 b2 b3
    go_wp2
    go_loopw [11, 41] (fun tv iv wr => ∃ (j : Nat) (t T1 T2 S1 S2 c1 c2 c3 : Int), j ≤ len ∧ iv = .int .i64 j ∧ tv = .int .i64 t ∧ 0 ≤ t ∧ t ≤ 4294967296 * j ∧ Sh y T1 S1 ∧ Sh y T2 S2 ∧ 0 ≤ c1 ∧ c1 ≤ j ∧ 0 ≤ c2 ∧ c2 ≤ j ∧ 0 ≤ c3 ∧ c3 ≤ j ∧ PV wr (kOf k p e w b) A al T1 T2 j c1 c2 c3 ∧ PV wr (kOf k p e w b) B al S1 S2 j c1 c2 c3 ∧ Below w1.heap.size w1 wr) (fun _ iv _ => len - (intOf iv).toNat)
    case atStart => exact ⟨0, 0, 0, 0, 0, 0, 0, 0, 0, Nat.zero_le _, rfl, rfl, by decide, by decide, .inl ⟨rfl, rfl⟩, .inl ⟨rfl, rfl⟩, by decide, by decide, by decide, by decide, by decide, by decide, P2', P3, B3⟩
    case round =>
      obtain ⟨j, t, T1, T2, S1, S2, n1, n2, n3, hj, rfl, rfl, t0, t1, sh1, sh2, n10, n11, n20, n21, n30, n31, hP, hQ, hB⟩ := hrel
      by_cases hlt : j < len
      · obtain ⟨b', off, q, low, rfl, hb', hx, q0, q2, g1, g2⟩ := (G1.below hB B1.size).at hlt
        have t2 : t ≤ 1288490188800 := by omega
        have hsb := hB.size
        have HT : Hid (t ≤ 4294967296 * (j : Int)) := t1
        have HA := fun w' hp => pv_take _ (kOf_tz k p e w b) A al T1 T2 j n1 n2 n3 (t + q) (clN low) w' hp (by omega) (by omega) (by omega) (by omega)
        have HO := fun w' hp => pv_take _ (kOf_tz k p e w b) B al S1 S2 j n1 n2 n3 (t + q + y) (clN low) w' hp (by omega) (by omega) (by omega) (by omega)
        obtain ⟨hv, sh1', sh2'⟩ := sh_step sh1 sh2 (kOf k p e w b) al (clN low) (t := t + q) (by omega) y0 (by omega)
        rw [hv] at HO
        have gx : ∀ w', Below w1.heap.size w1 w' → w'.cell? ⟨b', off + j * 2, none⟩ = some (.int .u32 q) ∧ w'.cell? ⟨b', off + j * 2 + 1, none⟩ = some (.bool low) := fun w' hb => by
          obtain ⟨b2, off2, q', low', e1, _, hx2, _, _, g1', g2'⟩ := (G1.below hb B1.size).at hlt
          cases e1
          rw [hx] at hx2
          cases hx2
          exact ⟨g1', g2'⟩
        have HG : Hid (∀ w', Below w1.heap.size w1 w' → w'.cell? ⟨b', off + j * 2, none⟩ = some (.int .u32 q) ∧ w'.cell? ⟨b', off + j * 2 + 1, none⟩ = some (.bool low)) := gx
        obtain ⟨v, hv2⟩ : ∃ v, vN (kOf k p e w b) al T1 T2 (t + q) (clN low) = v := ⟨_, rfl⟩
        rw [hv2] at HA HO
        have d1 := cnt_bound (v := v) (i := 1) n10 n11
        have d2 := cnt_bound (v := v) (i := 2) n20 n21
        have d3 := cnt_bound (v := v) (i := 3) n30 n31
        have HD : Hid ((0 ≤ cnt v 1 n1 ∧ cnt v 1 n1 ≤ (j : Int) + 1) ∧ (0 ≤ cnt v 2 n2 ∧ cnt v 2 n2 ≤ (j : Int) + 1) ∧ (0 ≤ cnt v 3 n3 ∧ cnt v 3 n3 ≤ (j : Int) + 1)) := ⟨d1, d2, d3⟩
        have HSH : Hid (Sh y _ _ ∧ Sh y _ _) := ⟨sh1', sh2'⟩
        have HAH : Hid (∀ w', _ → _) := HA
        have HOH : Hid (∀ w', _ → _) := HO
        clear hx G1 t1 gx hv hv2 d1 d2 d3 sh1 sh2 sh1' sh2' HA HO
        go_wp2
        refine wp_region_held_drew (S := (fun w' => Below w1.heap.size w1 w')) (by kernel_rfl) hB.drew (fun hHeld => ?_)
        refine wpAnyH_take (i := 0) (oi := ({ dst := some 52, op := Op.move (Operand.tmp 7), type := 26, pos := _, after := #[], guard := none } : Oper)) (v := ?_) rfl (by kernel_rfl) (by kernel_rfl) (by kernel_rfl) (fun _ _ _ h => h) (Or.inl ⟨by rfl, ?_⟩) hHeld ?_
        rotate_left
        · (intro w hS; go_simp; try with_reducible rfl)
        try simp only [Act.put, List.setIfInBounds_toArray, List.set_cons_zero, List.set_cons_succ]
        refine wpAnyH_take (i := 1) (oi := ({ dst := some 53, op := Op.move (Operand.tmp 11), type := 3, pos := _, after := #[], guard := none } : Oper)) (v := ?_) rfl (by kernel_rfl) (by kernel_rfl) (by kernel_rfl) (fun _ _ _ h => h) (Or.inl ⟨by rfl, ?_⟩) hHeld ?_
        rotate_left
        · (intro w hS; go_simp; try with_reducible rfl)
        try simp only [Act.put, List.setIfInBounds_toArray, List.set_cons_zero, List.set_cons_succ]
        refine wpAnyH_take (i := 2) (oi := ({ dst := some 54, op := Op.move (Operand.tmp 1), type := 24, pos := _, after := #[], guard := none } : Oper)) (v := ?_) rfl (by kernel_rfl) (by kernel_rfl) (by kernel_rfl) (fun _ _ _ h => h) (Or.inl ⟨by rfl, ?_⟩) hHeld ?_
        rotate_left
        · (intro w hS; go_simp; try with_reducible rfl)
        try simp only [Act.put, List.setIfInBounds_toArray, List.set_cons_zero, List.set_cons_succ]
        refine wpAnyH_take (i := 3) (oi := ({ dst := some 55, op := Op.move (Operand.tmp 12), type := 3, pos := _, after := #[], guard := none } : Oper)) (v := ?_) rfl (by kernel_rfl) (by kernel_rfl) (by kernel_rfl) (fun _ _ _ h => h) (Or.inl ⟨by rfl, ?_⟩) hHeld ?_
        rotate_left
        · (intro w hS; go_simp; try with_reducible rfl)
        try simp only [Act.put, List.setIfInBounds_toArray, List.set_cons_zero, List.set_cons_succ]
        refine wpAnyH_take (i := 4) (oi := ({ dst := some 56, op := Op.indexAddr 24 (Operand.tmp 54) (Operand.tmp 55), type := 0, pos := _, after := #[{ on := 2, ground := Ground.data }, { on := 3, ground := Ground.data }], guard := none } : Oper)) (v := ?_) rfl (by kernel_rfl) (by kernel_rfl) (by kernel_rfl) (fun _ _ _ h => h) (Or.inl ⟨by rfl, ?_⟩) hHeld ?_
        rotate_left
        · (intro w hS; go_simp; try with_reducible rfl)
        try simp only [Act.put, List.setIfInBounds_toArray, List.set_cons_zero, List.set_cons_succ]
        refine wpAnyH_take (i := 5) (oi := ({ dst := some 57, op := Op.load 33 (Operand.tmp 56), type := 33, pos := _, after := #[{ on := 4, ground := Ground.data }], guard := none } : Oper)) (v := ?_) rfl (by kernel_rfl) (by kernel_rfl) (by kernel_rfl) (fun _ _ _ h => h) (Or.inl ⟨by rfl, ?_⟩) hHeld ?_
        rotate_left
        · (intro w hS; obtain ⟨h1, h2⟩ := HG.out w hS; go_simp; try with_reducible rfl)
        try simp only [Act.put, List.setIfInBounds_toArray, List.set_cons_zero, List.set_cons_succ]
        refine wpAnyH_take (i := 8) (oi := ({ dst := some 60, op := Op.move (Operand.tmp 9), type := 26, pos := _, after := #[], guard := none } : Oper)) (v := ?_) rfl (by kernel_rfl) (by kernel_rfl) (by kernel_rfl) (fun _ _ _ h => h) (Or.inl ⟨by rfl, ?_⟩) hHeld ?_
        rotate_left
        · (intro w hS; go_simp; try with_reducible rfl)
        try simp only [Act.put, List.setIfInBounds_toArray, List.set_cons_zero, List.set_cons_succ]
        refine wpAnyH_take (i := 9) (oi := ({ dst := some 61, op := Op.move (Operand.tmp 11), type := 3, pos := _, after := #[], guard := none } : Oper)) (v := ?_) rfl (by kernel_rfl) (by kernel_rfl) (by kernel_rfl) (fun _ _ _ h => h) (Or.inl ⟨by rfl, ?_⟩) hHeld ?_
        rotate_left
        · (intro w hS; go_simp; try with_reducible rfl)
        try simp only [Act.put, List.setIfInBounds_toArray, List.set_cons_zero, List.set_cons_succ]
        refine wpAnyH_take (i := 10) (oi := ({ dst := some 62, op := Op.move (Operand.tmp 2), type := 31, pos := _, after := #[], guard := none } : Oper)) (v := ?_) rfl (by kernel_rfl) (by kernel_rfl) (by kernel_rfl) (fun _ _ _ h => h) (Or.inl ⟨by rfl, ?_⟩) hHeld ?_
        rotate_left
        · (intro w hS; go_simp; try with_reducible rfl)
        try simp only [Act.put, List.setIfInBounds_toArray, List.set_cons_zero, List.set_cons_succ]
        refine wpAnyH_take (i := 11) (oi := ({ dst := some 63, op := Op.convert 31 3 (Operand.tmp 62), type := 3, pos := _, after := #[{ on := 10, ground := Ground.data }], guard := none } : Oper)) (v := ?_) rfl (by kernel_rfl) (by kernel_rfl) (by kernel_rfl) (fun _ _ _ h => h) (Or.inl ⟨by rfl, ?_⟩) hHeld ?_
        rotate_left
        · (intro w hS; go_simp; try with_reducible rfl)
        try simp only [Act.put, List.setIfInBounds_toArray, List.set_cons_zero, List.set_cons_succ]
        rw [wrap_id (x := y) (by omega) (by omega)]
        refine wpAnyH_take (i := 12) (oi := ({ dst := some 64, op := Op.binOp BinOp.add 3 (Operand.tmp 61) (Operand.tmp 63) 3, type := 3, pos := _, after := #[{ on := 9, ground := Ground.data }, { on := 11, ground := Ground.data }], guard := none } : Oper)) (v := ?_) rfl (by kernel_rfl) (by kernel_rfl) (by kernel_rfl) (fun _ _ _ h => h) (Or.inl ⟨by rfl, ?_⟩) hHeld ?_
        rotate_left
        · (intro w hS; go_simp; try with_reducible rfl)
        try simp only [Act.put, List.setIfInBounds_toArray, List.set_cons_zero, List.set_cons_succ]
        rw [wrap_id (x := t + q + y) (by omega) (by omega)]
        refine wpAnyH_take (i := 13) (oi := ({ dst := some 65, op := Op.move (Operand.tmp 1), type := 24, pos := _, after := #[], guard := none } : Oper)) (v := ?_) rfl (by kernel_rfl) (by kernel_rfl) (by kernel_rfl) (fun _ _ _ h => h) (Or.inl ⟨by rfl, ?_⟩) hHeld ?_
        rotate_left
        · (intro w hS; go_simp; try with_reducible rfl)
        try simp only [Act.put, List.setIfInBounds_toArray, List.set_cons_zero, List.set_cons_succ]
        refine wpAnyH_take (i := 14) (oi := ({ dst := some 66, op := Op.move (Operand.tmp 12), type := 3, pos := _, after := #[], guard := none } : Oper)) (v := ?_) rfl (by kernel_rfl) (by kernel_rfl) (by kernel_rfl) (fun _ _ _ h => h) (Or.inl ⟨by rfl, ?_⟩) hHeld ?_
        rotate_left
        · (intro w hS; go_simp; try with_reducible rfl)
        try simp only [Act.put, List.setIfInBounds_toArray, List.set_cons_zero, List.set_cons_succ]
        refine wpAnyH_take (i := 15) (oi := ({ dst := some 67, op := Op.indexAddr 24 (Operand.tmp 65) (Operand.tmp 66), type := 0, pos := _, after := #[{ on := 13, ground := Ground.data }, { on := 14, ground := Ground.data }], guard := none } : Oper)) (v := ?_) rfl (by kernel_rfl) (by kernel_rfl) (by kernel_rfl) (fun _ _ _ h => h) (Or.inl ⟨by rfl, ?_⟩) hHeld ?_
        rotate_left
        · (intro w hS; go_simp; try with_reducible rfl)
        try simp only [Act.put, List.setIfInBounds_toArray, List.set_cons_zero, List.set_cons_succ]
        refine wpAnyH_take (i := 16) (oi := ({ dst := some 68, op := Op.load 33 (Operand.tmp 67), type := 33, pos := _, after := #[{ on := 15, ground := Ground.data }], guard := none } : Oper)) (v := ?_) rfl (by kernel_rfl) (by kernel_rfl) (by kernel_rfl) (fun _ _ _ h => h) (Or.inl ⟨by rfl, ?_⟩) hHeld ?_
        rotate_left
        · (intro w hS; obtain ⟨h1, h2⟩ := HG.out w hS; go_simp; try with_reducible rfl)
        try simp only [Act.put, List.setIfInBounds_toArray, List.set_cons_zero, List.set_cons_succ]
        refine wpAnyH_ready (rs := [6]) (by kernel_rfl) (by simp) ?_
        refine AllReadyH.cons (o := ({ dst := some 58, op := Op.call { callee := Callee.value (Operand.func 12), args := #[Operand.tmp 57], argTypes := #[33] }, type := 3, pos := _, after := #[{ on := 5, ground := Ground.data }], guard := none } : Oper)) rfl (fun K hK => ?_) AllReadyH.nil
        refine step_call (clp_calls q low _) (enters_of Try.func12 (by kernel_rfl) rfl) _ _ rfl rfl rfl ?_
        rintro e2 w4 ⟨rfl, b4⟩
        have B4 := hB.drew.trans (b4.mono (by simpa using hsb))
        refine ⟨_, rfl, hK.out _ _ B4 (fun hHeld => ?_)⟩
        clear hK K
        try simp only [Act.put, List.setIfInBounds_toArray, List.set_cons_zero, List.set_cons_succ]
        refine wpAnyH_ready (rs := [7]) (by kernel_rfl) (by simp) ?_
        refine AllReadyH.cons (o := ({ dst := some 59, op := Op.call { callee := Callee.value (Operand.func 11), args := #[Operand.tmp 52, Operand.tmp 53, Operand.tmp 58], argTypes := #[26, 3, 3] }, type := 3, pos := _, after := #[{ on := 0, ground := Ground.data }, { on := 1, ground := Ground.data }, { on := 6, ground := Ground.data }, { on := 6, ground := Ground.chain }], guard := none } : Oper)) rfl (fun K hK => ?_) AllReadyH.nil
        refine step_call (HAH.out _ (hP.drew.below b4 (Nat.le_refl _))) (enters_of Try.func11 (by kernel_rfl) rfl) _ _ rfl rfl rfl ?_
        rintro e2 w5 ⟨rfl, P5, b5⟩
        have B5 := B4.trans (b5.below B4.size hall)
        have Q5 := (hQ.drew.below b4 (Nat.le_refl _)).buts b5 (Nat.le_refl _) lo hhi
        refine ⟨_, rfl, hK.out _ _ B5 (fun hHeld => ?_)⟩
        clear hK K
        try simp only [Act.put, List.setIfInBounds_toArray, List.set_cons_zero, List.set_cons_succ]
        refine wpAnyH_ready (rs := [17]) (by kernel_rfl) (by simp) ?_
        refine AllReadyH.cons (o := ({ dst := some 69, op := Op.call { callee := Callee.value (Operand.func 12), args := #[Operand.tmp 68], argTypes := #[33] }, type := 3, pos := _, after := #[{ on := 16, ground := Ground.data }, { on := 7, ground := Ground.chain }], guard := none } : Oper)) rfl (fun K hK => ?_) AllReadyH.nil
        refine step_call (clp_calls q low _) (enters_of Try.func12 (by kernel_rfl) rfl) _ _ rfl rfl rfl ?_
        rintro e2 w6 ⟨rfl, b6⟩
        have B6 := B5.trans (b6.mono B5.size)
        refine ⟨_, rfl, hK.out _ _ B6 (fun hHeld => ?_)⟩
        clear hK K
        try simp only [Act.put, List.setIfInBounds_toArray, List.set_cons_zero, List.set_cons_succ]
        refine wpAnyH_ready (rs := [18]) (by kernel_rfl) (by simp) ?_
        refine AllReadyH.cons (o := ({ dst := some 70, op := Op.call { callee := Callee.value (Operand.func 11), args := #[Operand.tmp 60, Operand.tmp 64, Operand.tmp 69], argTypes := #[26, 3, 3] }, type := 3, pos := _, after := #[{ on := 8, ground := Ground.data }, { on := 12, ground := Ground.data }, { on := 17, ground := Ground.data }, { on := 17, ground := Ground.chain }], guard := none } : Oper)) rfl (fun K hK => ?_) AllReadyH.nil
        refine step_call (HOH.out _ (Q5.below b6 (Nat.le_refl _))) (enters_of Try.func11 (by kernel_rfl) rfl) _ _ rfl rfl rfl ?_
        rintro e2 w7 ⟨rfl, P6, b7⟩
        have BZ := B6.trans (b7.below B6.size hbl)
        have PA := (P5.below b6 (Nat.le_refl _)).buts' b7 (Nat.le_refl _) hgl hhi lo.all
        refine ⟨_, rfl, hK.out _ _ BZ (fun hHeld => ?_)⟩
        clear hK K
        try simp only [Act.put, List.setIfInBounds_toArray, List.set_cons_zero, List.set_cons_succ]
        refine wpAnyH_take (i := 19) (oi := ({ dst := some 71, op := Op.binOp BinOp.neq 3 (Operand.tmp 59) (Operand.tmp 70) 3, type := 4, pos := _, after := #[{ on := 7, ground := Ground.data }, { on := 18, ground := Ground.data }], guard := none } : Oper)) (v := ?_) rfl (by kernel_rfl) (by kernel_rfl) (by kernel_rfl) (fun _ _ _ h => h) (Or.inl ⟨by rfl, ?_⟩) hHeld ?_
        rotate_left
        · (intro w hS; go_simp; try with_reducible rfl)
        try simp only [Act.put, List.setIfInBounds_toArray, List.set_cons_zero, List.set_cons_succ]
        refine wpAnyH_done (by kernel_rfl) ?_ _
        go_wp2
        go_roundw
        case rel => exact ⟨j + 1, t + q, _, _, _, _, _, _, _, by omega, by go_num, rfl, by omega, by have := HT.out; omega, HSH.out.1, HSH.out.2, HD.out.1.1, HD.out.1.2, HD.out.2.1.1, HD.out.2.1.2, HD.out.2.2.1, HD.out.2.2.2, PA, P6, BZ⟩
        case measure => simp [intOf]; omega
      · obtain rfl : j = len := by omega
        have hq := eql_self (j : Int) n1 n2 n3
        go_wp2_with fail
        refine (counts_calls hP).mono ?_
        rintro x w4 ⟨rfl, b4⟩
        go_wp2_with fail
        refine (counts_calls (hQ.below b4 (Nat.le_refl _))).mono ?_
        rintro x w5 ⟨rfl, b5⟩
        have B5 : Below w1.heap.size w1 w5 := (hB.trans (b4.mono hB.size)).trans (b5.mono (by have := hB.size; have := b4.size; omega))
        go_wp2
        go_ret
        exact ⟨rfl, B1.trans (B5.mono B1.size)⟩
end Go.Proofs.Ytlaomjhibaoglaa
