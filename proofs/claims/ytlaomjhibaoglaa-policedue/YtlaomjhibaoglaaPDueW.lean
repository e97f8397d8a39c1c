/- Proved here: the walk of PoliceDue. Conditions: as each theorem states them. -/
import Derived.Test.YtlaomjhibaoglaaSpacedW
import Derived.Test.YtlaomjhibaoglaaPDue
namespace Go.Proofs.Ytlaomjhibaoglaa
set_option linter.unusedSimpArgs false
set_option linter.unusedVariables false
open Go.RowKit Go.Shelf

theorem due_le (K : PK) (T1 T2 : Int) : dueV K T1 T2 1 ≤ dueV K T1 T2 0 := by
  obtain ⟨two, z, tg, p, e, w, B⟩ := K
  unfold dueV ask2
  cases two <;> cases z <;> simp <;> omega
theorem due_fits {K : PK} {T1 T2 c d : Int} (h : dueV K T1 T2 c = d) (h1 : d ≤ 1152921504606846976) : v0N K T1 T2 d c = 1 := by
  have h0 : 0 ≤ d := by rw [← h]; unfold dueV; cases ask2 K c <;> simp <;> omega
  have f1 : fitN K.e T1 d = true := by
    unfold fitN; rw [hM_id h0 h1]
    unfold dueV at h
    cases ha : ask2 K c <;> rw [ha] at h <;> simp at h ⊢ <;> omega
  unfold v0N
  rw [f1]
  cases ha : ask2 K c
  · rfl
  · have f2 : fitN K.B T2 d = true := by
      unfold fitN; rw [hM_id h0 h1]
      unfold dueV at h
      rw [ha] at h; simp at h ⊢; omega
    rw [f2]; rfl

set_option maxHeartbeats 4000000 in
theorem pdue_walk (k p e w b l : Int) (a : Option Addr) (len cap : Nat) (L : List (Int × Bool)) (low : Bool) (W : World) (hL : IsG W.heap.size W a len L) :
    Calls Try.prog 6 #[cV k p e w b l, .slice a len cap, .bool low] W fun x W' => x = .returned (.bool true) ∧ Below W.heap.size W W' := by
  by_cases hl1 : 300 < len
  · have q1 : decide (300 < (len : Int)) = true := by simp; omega
    clear hL
    go_enter Try.func6, Try.ntmps6
    go_wp2_with fail
    refine (awake_calls _).mono ?_
    rintro x w1 ⟨rfl, b1⟩
    go_wp2_with fail
    refine (awake_calls _).mono ?_
    rintro x w2 ⟨rfl, b2⟩
    have b1' := below_box2 b1
    go_wp2
    go_ret
    exact ⟨rfl, b1'.trans (b2.mono b1'.size)⟩
  have q1 : decide (300 < (len : Int)) = false := by simp; omega
  have hl : len ≤ 300 := by omega
  clear hl1
  have C0 := cc_new W k p e w b l
  cases ho : okB k p e w b l with
  | false =>
    have H : Hid (okB k p e w b l = false) := ho
    clear ho hL
    go_enter Try.func6, Try.ntmps6
    go_wp2_with fail
    refine (awake_calls _).mono ?_
    rintro x w1 ⟨rfl, b1⟩
    have C1 := C0.below b1 C0.lt
    obtain ⟨c0, c1, c2, c3, c4, c5⟩ := C1.facts
    have B1 := below_box2 b1
    go_wp2_with fail
    refine (pnew_no k p e w b l H.out _).mono ?_
    rintro x w2 ⟨E, rfl, hE, b2⟩
    have B2 := B1.trans (b2.mono B1.size)
    rcases hE with rfl | rfl <;>
    · go_wp2
      go_ret
      exact ⟨rfl, B2⟩
  | true =>
    have H : Hid (okB k p e w b l = true) := ho
    clear ho
    obtain ⟨al, hal⟩ : ∃ al, (k == 7) = al := ⟨_, rfl⟩
    have hkl : (k == 7) = al := hal
    go_enter Try.func6, Try.ntmps6
    go_wp2_with fail
    refine (awake_calls _).mono ?_
    rintro x w1 ⟨rfl, b1⟩
    have C1 := C0.below b1 C0.lt
    obtain ⟨c0, c1, c2, c3, c4, c5⟩ := C1.facts
    have B1 := below_box2 b1
    have G1 := hL.below B1 (Nat.le_refl _)
    clear C0 b1 hL
    go_wp2_with fail
    refine (pnew_calls k p e w b l H.out _).mono ?_
    rintro x w2 ⟨A, rfl, P2, lo, b2⟩
    rw [hkl] at P2
    have hall := lo.all
    have r1 := C1.lt
    clear c0 c1 c2 c3 c4 c5 lo q1
    go_wp2
    go_loopw [9, 33] (fun tv iv wr => ∃ (j : Nat) (t T1 T2 c1 c2 c3 : Int), j ≤ len ∧ iv = .int .i64 j ∧ tv = .int .i64 t ∧ 0 ≤ t ∧ t ≤ 4294967296 * j ∧ 0 ≤ c1 ∧ c1 ≤ j ∧ 0 ≤ c2 ∧ c2 ≤ j ∧ 0 ≤ c3 ∧ c3 ≤ j ∧ PV wr (kOf k p e w b) A al T1 T2 j c1 c2 c3 ∧ Below w1.heap.size w1 wr) (fun _ iv _ => len - (intOf iv).toNat)
    case atStart => exact ⟨0, 0, 0, 0, 0, 0, 0, Nat.zero_le _, rfl, rfl, by decide, by decide, by decide, by decide, by decide, by decide, by decide, by decide, P2, b2⟩
    case round =>
      obtain ⟨j, t, T1, T2, n1, n2, n3, hj, rfl, rfl, t0, t1, n10, n11, n20, n21, n30, n31, hP, hB⟩ := hrel
      by_cases hlt : j < len
      · obtain ⟨b', off, q, lo', rfl, hb', hx, q0, q2, g1, g2⟩ := (G1.below hB B1.size).at hlt
        have t2 : t ≤ 1288490188800 := by omega
        have HC := fun w' hp => pv_take _ (kOf_tz k p e w b) A al T1 T2 j n1 n2 n3 (t + q) (clN lo') w' hp (by omega) (by omega) (by omega) (by omega)
        obtain ⟨v, hv⟩ : ∃ v, vN (kOf k p e w b) al T1 T2 (t + q) (clN lo') = v := ⟨_, rfl⟩
        rw [hv] at HC
        have d1 := cnt_bound (v := v) (i := 1) n10 n11
        have d2 := cnt_bound (v := v) (i := 2) n20 n21
        have d3 := cnt_bound (v := v) (i := 3) n30 n31
        have HD : Hid ((0 ≤ cnt v 1 n1 ∧ cnt v 1 n1 ≤ (j : Int) + 1) ∧ (0 ≤ cnt v 2 n2 ∧ cnt v 2 n2 ≤ (j : Int) + 1) ∧ (0 ≤ cnt v 3 n3 ∧ cnt v 3 n3 ≤ (j : Int) + 1)) := ⟨d1, d2, d3⟩
        have HCH : Hid (∀ w', _ → _) := HC
        have HB : Hid (Below w1.heap.size w1 wr) := hB
        have hsb := hB.size
        have HT : Hid (t ≤ 4294967296 * (j : Int)) := t1
        clear hx hv hB t1 G1 C1 H HC d1 d2 d3
        go_wp2_with fail
        refine (clp_calls q lo' _).mono ?_
        rintro x w3 ⟨rfl, b3⟩
        go_wp2_with fail
        refine (HCH.out _ (hP.below b3 (Nat.le_refl _))).mono ?_
        rintro x w4 ⟨rfl, hp', b4⟩
        go_wp2
        go_roundw
        case rel => exact ⟨j + 1, t + q, _, _, _, _, _, by omega, by go_num, rfl, by omega, by have := HT.out; omega, HD.out.1.1, HD.out.1.2, HD.out.2.1.1, HD.out.2.1.2, HD.out.2.2.1, HD.out.2.2.2, hp', (HB.out.trans (b3.mono hsb)).trans (b4.below (by have := b3.size; omega) hall)⟩
        case measure => simp [intOf]; omega
      · obtain rfl : j = len := by omega
        obtain ⟨d, hd⟩ : ∃ d, dueV (kOf k p e w b) T1 T2 (clN low) = d := ⟨_, rfl⟩
        have hle := due_le (kOf k p e w b) T1 T2
        obtain ⟨e1, he1⟩ : ∃ e1, dueV (kOf k p e w b) T1 T2 1 = e1 := ⟨_, rfl⟩
        obtain ⟨e0, he0⟩ : ∃ e0, dueV (kOf k p e w b) T1 T2 0 = e0 := ⟨_, rfl⟩
        have HD1 := fun w' (hp : PV w' (kOf k p e w b) A al T1 T2 j n1 n2 n3) => pdue_calls (clN low) hp
        have HD2 := fun w' (hp : PV w' (kOf k p e w b) A al T1 T2 j n1 n2 n3) => pdue_calls 1 hp
        have HD3 := fun w' (hp : PV w' (kOf k p e w b) A al T1 T2 j n1 n2 n3) => pdue_calls 0 hp
        rw [hd] at HD1
        rw [he1] at HD2 hle
        rw [he0] at HD3 hle
        have H1 : Hid (∀ w', _ → _) := HD1
        have H2 : Hid (∀ w', _ → _) := HD2
        have H3 : Hid (∀ w', _ → _) := HD3
        clear HD1 HD2 HD3 he1 he0
        have s0 := hB.size
        by_cases hbig : 1152921504606846976 < d
        · have hq : decide (1152921504606846976 < d) = true := by simpa using hbig
          clear hbig hd
          go_wp2_with fail
          refine (clp_calls 0 low _).mono ?_
          rintro x w3 ⟨rfl, b3⟩
          go_wp2_with fail
          refine (H1.out _ (hP.below b3 (Nat.le_refl _))).mono ?_
          rintro x w4 ⟨rfl, b4⟩
          have B4 := (hB.trans (b3.mono s0)).trans (b4.mono (by have := b3.size; omega))
          go_wp2
          go_ret
          exact ⟨rfl, B1.trans (B4.mono B1.size)⟩
        · have hq : decide (1152921504606846976 < d) = false := by simpa using hbig
          have hfit := due_fits (K := kOf k p e w b) hd (by omega)
          have HC := fun w' hp => pv_take _ (kOf_tz k p e w b) A al T1 T2 j n1 n2 n3 d (clN low) w' hp (by omega) (by omega) (by omega) (by omega)
          have hv : vN (kOf k p e w b) al T1 T2 d (clN low) = bif al && !low then 2 else 1 := by unfold vN; rw [hfit]; cases low <;> rfl
          rw [hv] at HC
          have HCH : Hid (∀ w', _ → _) := HC
          have hle' : decide (e1 ≤ e0) = true := by simpa using hle
          have hck : Hid (CC w1 W.heap.size k p e w b l) := C1
          have HB : Hid (Below w1.heap.size w1 wr) := hB
          clear hbig hd hv hfit HC C1 hle
          cases al with
          | false =>
            go_wp2_with fail
            refine (clp_calls 0 _ _).mono ?_
            rintro x w3 ⟨rfl, b3⟩
            go_wp2_with fail
            refine (H1.out _ (hP.below b3 (Nat.le_refl _))).mono ?_
            rintro x w4 ⟨rfl, b4⟩
            have B4 := (HB.out.trans (b3.mono s0)).trans (b4.mono (by have := b3.size; omega))
            have P4 := (hP.below b3 (Nat.le_refl _)).below b4 (Nat.le_refl _)
            obtain ⟨c0, c1, c2, c3, c4, c5⟩ := (hck.out.below B4 r1).facts
            go_wp2_with fail
            refine (H2.out _ P4).mono ?_
            rintro x w5 ⟨rfl, b5⟩
            have P5 := P4.below b5 (Nat.le_refl _)
            have B5 := B4.trans (b5.mono B4.size)
            go_wp2_with fail
            refine (H3.out _ P5).mono ?_
            rintro x w6 ⟨rfl, b6⟩
            have P6 := P5.below b6 (Nat.le_refl _)
            have B6 := B5.trans (b6.mono B5.size)
            go_wp2_with fail
            refine (HCH.out _ P6).mono ?_
            rintro x w7 ⟨rfl, P7, b7⟩
            have B7 := B6.trans (b7.below B6.size hall)
            go_wp2
            go_ret
            exact ⟨rfl, B1.trans (B7.mono B1.size)⟩
          | true =>
            cases low with
            | false =>
              go_wp2_with fail
              refine (clp_calls 0 _ _).mono ?_
              rintro x w3 ⟨rfl, b3⟩
              go_wp2_with fail
              refine (H1.out _ (hP.below b3 (Nat.le_refl _))).mono ?_
              rintro x w4 ⟨rfl, b4⟩
              have B4 := (HB.out.trans (b3.mono s0)).trans (b4.mono (by have := b3.size; omega))
              have P4 := (hP.below b3 (Nat.le_refl _)).below b4 (Nat.le_refl _)
              obtain ⟨c0, c1, c2, c3, c4, c5⟩ := (hck.out.below B4 r1).facts
              go_wp2_with fail
              refine (H2.out _ P4).mono ?_
              rintro x w5 ⟨rfl, b5⟩
              have P5 := P4.below b5 (Nat.le_refl _)
              have B5 := B4.trans (b5.mono B4.size)
              go_wp2_with fail
              refine (H3.out _ P5).mono ?_
              rintro x w6 ⟨rfl, b6⟩
              have P6 := P5.below b6 (Nat.le_refl _)
              have B6 := B5.trans (b6.mono B5.size)
              go_wp2_with fail
              refine (HCH.out _ P6).mono ?_
              rintro x w7 ⟨rfl, P7, b7⟩
              have B7 := B6.trans (b7.below B6.size hall)
              go_wp2
              go_ret
              exact ⟨rfl, B1.trans (B7.mono B1.size)⟩
            | true =>
              go_wp2_with fail
              refine (clp_calls 0 _ _).mono ?_
              rintro x w3 ⟨rfl, b3⟩
              go_wp2_with fail
              refine (H1.out _ (hP.below b3 (Nat.le_refl _))).mono ?_
              rintro x w4 ⟨rfl, b4⟩
              have B4 := (HB.out.trans (b3.mono s0)).trans (b4.mono (by have := b3.size; omega))
              have P4 := (hP.below b3 (Nat.le_refl _)).below b4 (Nat.le_refl _)
              obtain ⟨c0, c1, c2, c3, c4, c5⟩ := (hck.out.below B4 r1).facts
              go_wp2_with fail
              refine (H2.out _ P4).mono ?_
              rintro x w5 ⟨rfl, b5⟩
              have P5 := P4.below b5 (Nat.le_refl _)
              have B5 := B4.trans (b5.mono B4.size)
              go_wp2_with fail
              refine (H3.out _ P5).mono ?_
              rintro x w6 ⟨rfl, b6⟩
              have P6 := P5.below b6 (Nat.le_refl _)
              have B6 := B5.trans (b6.mono B5.size)
              go_wp2_with fail
              refine (HCH.out _ P6).mono ?_
              rintro x w7 ⟨rfl, P7, b7⟩
              have B7 := B6.trans (b7.below B6.size hall)
              go_wp2
              go_ret
              exact ⟨rfl, B1.trans (B7.mono B1.size)⟩
end Go.Proofs.Ytlaomjhibaoglaa
