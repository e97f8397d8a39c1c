/- Proved here: the walk of PoliceSpaced. Conditions: as each theorem states them. -/
import Derived.Test.YtlaomjhibaoglaaGaps
namespace Go.Proofs.Ytlaomjhibaoglaa
set_option linter.unusedSimpArgs false
set_option linter.unusedVariables false
open Go.RowKit Go.Shelf

theorem fit_le {e T t : Int} (h0 : 0 ≤ t) (h1 : t ≤ 1152921504606846976) (h : T ≤ t) : fitN e T t = true := by
  unfold fitN; have := hM_bound e; rw [hM_id h0 h1]; simp; omega
theorem v0_fit {K : PK} {T1 T2 t c : Int} (h1 : fitN K.e T1 t = true) (h2 : K.two = true → fitN K.B T2 t = true) : v0N K T1 T2 t c = 1 := by
  unfold v0N ask2
  rw [h1]
  cases h : K.two
  · simp
  · rw [h2 h]; simp
theorem next_le {s T t : Int} (h0 : 0 ≤ t) (h1 : t ≤ 1152921504606846976) (s0 : 1 ≤ s) (s1 : s ≤ 1152921504606846976) (h : T ≤ t) : nextN s T t = t + s := by
  unfold nextN; rw [hM_id h0 h1, hS_id s0 s1]; omega

/-- What is known of a contract's numbers. -/
structure Fine (k p e w b : Int) : Prop where
  p0 : 1 ≤ p
  p1 : p ≤ 1099511627776
  e0 : 0 ≤ e
  e1 : e ≤ 1099511627776
  w0 : 0 ≤ w
  w1 : w ≤ 1099511627776
  b0 : 0 ≤ b
  b1 : b ≤ 1099511627776
  wp : vbrB k = true → p ≤ w
  wz : vbrB k = false → w = 0
theorem fine_of {k p e w b l : Int} (h : okB k p e w b l = true) : Fine k p e w b := by
  obtain ⟨p0, p1, e0, e1, w0, w1, b0, b1⟩ := can_bounds h
  refine ⟨p0, p1, e0, e1, w0, w1, b0, b1, fun hv => ?_, fun hv => ?_⟩
  · rw [okB_iff] at h
    have := h.2
    unfold canB at this
    rw [hv] at this
    simp [inB] at this
    omega
  · rw [okB_iff] at h
    have := h.2
    unfold canB at this
    rw [hv] at this
    simp at this
    omega

/-- What spaced cells leave. -/
theorem spaced_step {k p e w b T1 T2 t q c : Int} (F : Fine k p e w b) (t0 : 0 ≤ t) (t1 : t ≤ 1000000000000000) (q0 : 0 ≤ q) (q1 : q < 4294967296) (h1 : T1 ≤ t + p) (h2 : T2 ≤ t + w) {u : Int} (hu : u = t + (max p w + q)) :
    v0N (kOf k p e w b) T1 T2 u c = 1 ∧ n1N (kOf k p e w b) T1 T2 u c ≤ u + p ∧ n2N (kOf k p e w b) T1 T2 u c ≤ u + w := by
  have a1 := F.p0; have a2 := F.p1; have a3 := F.w0; have a4 := F.w1
  have u0 : 0 ≤ u := by omega
  have u1 : u ≤ 1152921504606846976 := by omega
  have hv : v0N (kOf k p e w b) T1 T2 u c = 1 := v0_fit (fit_le u0 u1 (by omega)) (fun _ => fit_le u0 u1 (by omega))
  refine ⟨hv, ?_, ?_⟩
  · unfold n1N; rw [hv]
    show nextN p T1 u ≤ u + p
    rw [next_le u0 u1 a1 (by omega) (by omega)]; omega
  · unfold n2N; rw [hv]
    cases ha : ask2 (kOf k p e w b) c
    · show T2 ≤ u + w; omega
    · show nextN w T2 u ≤ u + w
      have hk : vbrB k = true := by unfold ask2 at ha; simp [kOf] at ha; exact ha.1
      have := F.wp hk
      rw [next_le u0 u1 (by omega) (by omega) (by omega)]; omega

theorem cnt_bound {v i c n : Int} (h0 : 0 ≤ c) (h1 : c ≤ n) : 0 ≤ cnt v i c ∧ cnt v i c ≤ n + 1 := by
  unfold cnt; cases (v == i) <;> simp <;> omega

set_option maxHeartbeats 4000000 in
theorem spaced_walk (k p e w b l : Int) (a : Option Addr) (len cap : Nat) (L : List (Int × Bool)) (W : World) (hL : IsG W.heap.size W a len L) :
    Calls Try.prog 4 #[cV k p e w b l, .slice a len cap] W fun x W' => x = .returned (.bool true) ∧ Below W.heap.size W W' := by
  by_cases hl1 : 300 < len
  · have q1 : decide (300 < (len : Int)) = true := by simp; omega
    clear hL
    go_enter Try.func4, Try.ntmps4
    go_wp2_with fail
    refine (awake_calls _).mono ?_
    rintro x w1 ⟨rfl, b1⟩
    go_wp2_with fail
    refine (awake_calls _).mono ?_
    rintro x w2 ⟨rfl, b2⟩
    have b1' := below_box2 b1
    go_wp2
    go_ret
    exact ⟨rfl, b1'.trans (b2.mono b1'.size)⟩
  have q1 : decide (300 < (len : Int)) = false := by simp; omega
  have hl : len ≤ 300 := by omega
  clear hl1
  have C0 := cc_new W k p e w b l
  cases ho : okB k p e w b l with
  | false =>
    have H : Hid (okB k p e w b l = false) := ho
    clear ho hL
    go_enter Try.func4, Try.ntmps4
    go_wp2_with fail
    refine (awake_calls _).mono ?_
    rintro x w1 ⟨rfl, b1⟩
    have C1 := C0.below b1 C0.lt
    obtain ⟨c0, c1, c2, c3, c4, c5⟩ := C1.facts
    have B1 := below_box2 b1
    go_wp2_with fail
    refine (pnew_no k p e w b l H.out _).mono ?_
    rintro x w2 ⟨E, rfl, hE, b2⟩
    have B2 := B1.trans (b2.mono B1.size)
    rcases hE with rfl | rfl <;>
    · go_wp2
      go_ret
      exact ⟨rfl, B2⟩
  | true =>
    have H : Hid (okB k p e w b l = true) := ho
    have HF : Hid (Fine k p e w b) := fine_of ho
    clear ho
    obtain ⟨al, hal⟩ : ∃ al, (k == 7) = al := ⟨_, rfl⟩
    have hkl : (k == 7) = al := hal
    go_enter Try.func4, Try.ntmps4
    go_wp2_with fail
    refine (awake_calls _).mono ?_
    rintro x w1 ⟨rfl, b1⟩
    have C1 := C0.below b1 C0.lt
    obtain ⟨c0, c1, c2, c3, c4, c5⟩ := C1.facts
    have B1 := below_box2 b1
    have G1 := hL.below B1 (Nat.le_refl _)
    clear C0 b1 hL
    go_wp2_with fail
    refine (pnew_calls k p e w b l H.out _).mono ?_
    rintro x w2 ⟨A, rfl, P2, lo, b2⟩
    rw [hkl] at P2
    have hall := lo.all
    have r1 := C1.lt
    clear c0 c1 c2 c3 c4 c5 lo q1
    go_wp2
    go_loopw [7, 29] (fun tv iv wr => ∃ (j : Nat) (t T1 T2 c1 c2 : Int), j ≤ len ∧ iv = .int .i64 j ∧ tv = .int .i64 t ∧ 0 ≤ t ∧ t ≤ 1200000000000 * j ∧ T1 ≤ t + p ∧ T2 ≤ t + w ∧ 0 ≤ c1 ∧ c1 ≤ j ∧ 0 ≤ c2 ∧ c2 ≤ j ∧ PV wr (kOf k p e w b) A al T1 T2 j c1 c2 0 ∧ Below w1.heap.size w1 wr) (fun _ iv _ => len - (intOf iv).toNat)
    case atStart => exact ⟨0, 0, 0, 0, 0, 0, Nat.zero_le _, rfl, rfl, by decide, by decide, by have := HF.out.p0; omega, by have := HF.out.w0; omega, by decide, by decide, by decide, by decide, P2, b2⟩
    case round =>
      obtain ⟨j, t, T1, T2, n1, n2, hj, rfl, rfl, t0, t1, h1, h2, n10, n11, n20, n21, hP, hB⟩ := hrel
      by_cases hlt : j < len
      · obtain ⟨b', off, q, low, rfl, hb', hx, q0, q2, g1, g2⟩ := (G1.below hB B1.size).at hlt
        obtain ⟨c0, c1, c2, c3, c4, c5⟩ := (C1.below hB r1).facts
        obtain ⟨m, hm⟩ : ∃ m, max p w = m := ⟨_, rfl⟩
        have HM : (if p < w then w else p) = m := by rw [← hm]; split <;> omega
        obtain ⟨a1, a2, a3, a4, m0, m1⟩ : 1 ≤ p ∧ p ≤ 1099511627776 ∧ 0 ≤ w ∧ w ≤ 1099511627776 ∧ 1 ≤ m ∧ m ≤ 1099511627776 := by have := HF.out.p0; have := HF.out.p1; have := HF.out.w0; have := HF.out.w1; omega
        have t2 : t ≤ 360000000000000 := by omega
        obtain ⟨v0, v1, v2⟩ := spaced_step (c := clN low) HF.out t0 (by omega) q0 q2 h1 h2 (show t + (m + q) = _ by rw [hm])
        obtain ⟨v, hv⟩ : ∃ v, vN (kOf k p e w b) al T1 T2 (t + (m + q)) (clN low) = v := ⟨_, rfl⟩
        have hv2 : v = bif al && !low then 2 else 1 := by rw [← hv]; unfold vN; rw [v0]; cases low <;> rfl
        have HC : Hid (∀ w', PV w' (kOf k p e w b) A al T1 T2 j n1 n2 0 → Calls Try.prog 11 #[.pointer (some ⟨A.r, 0, none⟩), .int .i64 (t + (m + q)), .int .i64 (clN low)] w' fun x W' => x = .returned (.int .i64 v) ∧
            (∃ T1' T2' n1' n2' : Int, T1' ≤ t + (m + q) + p ∧ T2' ≤ t + (m + q) + w ∧ 0 ≤ n1' ∧ n1' ≤ j + 1 ∧ 0 ≤ n2' ∧ n2' ≤ j + 1 ∧ PV W' (kOf k p e w b) A al T1' T2' (j + 1) n1' n2' 0) ∧ Buts [A.r, A.b1, A.b2] w'.heap.size w' W') := by
          intro w' hp
          have := pv_take _ (kOf_tz k p e w b) A al T1 T2 j n1 n2 0 (t + (m + q)) (clN low) w' hp (by omega) (by omega) (by omega) (by decide)
          rw [hv] at this
          refine this.mono ?_
          rintro x W' ⟨rfl, h1', h2'⟩
          have e3 : cnt v 3 0 = 0 := by rw [hv2]; cases al <;> cases low <;> rfl
          rw [e3] at h1'
          have d1 := cnt_bound (v := v) (i := 1) n10 n11
          have d2 := cnt_bound (v := v) (i := 2) n20 n21
          exact ⟨rfl, ⟨_, _, _, _, v1, v2, d1.1, d1.2, d2.1, d2.2, h1'⟩, h2'⟩
        have P2' : Hid (PV wr (kOf k p e w b) A al T1 T2 j n1 n2 0) := hP
        have HB : Hid (Below w1.heap.size w1 wr) := hB
        have hsb := hB.size
        have HT : Hid (t ≤ 1200000000000 * (j : Int)) := t1
        clear hm hv hx v0 v1 v2 hP hB h1 h2 t1 G1 C1 HF H
        cases al with
        | false =>
          have hv3 : v = 1 := by rw [hv2]; rfl
          subst hv3
          clear hv2
          go_wp2
          go_region
          go_wp2_with fail
          refine (clp_calls q low _).mono ?_
          rintro x w3 ⟨rfl, b3⟩
          go_wp2_with fail
          refine (HC.out _ (P2'.out.drew.below b3 (Nat.le_refl _))).mono ?_
          rintro x w4 ⟨rfl, ⟨T1', T2', n1', n2', e1, e2, e3, e4, e5, e6, hp'⟩, b4⟩
          go_wp2
          go_roundw
          case rel => exact ⟨j + 1, t + (m + q), T1', T2', n1', n2', by omega, by go_num, rfl, by omega, by have := HT.out; omega, e1, e2, e3, e4, e5, e6, hp', (HB.out.drew.trans (b3.mono (by simpa using hsb))).trans (b4.below (by have := b3.size; simp at this; omega) hall)⟩
          case measure => simp [intOf]; omega
        | true =>
          have hk7 : k = 7 := by simpa using hkl
          subst hk7
          cases low with
          | false =>
            have hv3 : v = 2 := by rw [hv2]; rfl
            subst hv3
            clear hv2
            go_wp2
            go_region
            go_wp2_with fail
            refine (clp_calls q _ _).mono ?_
            rintro x w3 ⟨rfl, b3⟩
            go_wp2_with fail
            refine (HC.out _ (P2'.out.drew.below b3 (Nat.le_refl _))).mono ?_
            rintro x w4 ⟨rfl, ⟨T1', T2', n1', n2', e1, e2, e3, e4, e5, e6, hp'⟩, b4⟩
            go_wp2
            go_roundw
            case rel => exact ⟨j + 1, t + (m + q), T1', T2', n1', n2', by omega, by go_num, rfl, by omega, by have := HT.out; omega, e1, e2, e3, e4, e5, e6, hp', (HB.out.drew.trans (b3.mono (by simpa using hsb))).trans (b4.below (by have := b3.size; simp at this; omega) hall)⟩
            case measure => simp [intOf]; omega
          | true =>
            have hv3 : v = 1 := by rw [hv2]; rfl
            subst hv3
            clear hv2
            go_wp2
            go_region
            go_wp2_with fail
            refine (clp_calls q _ _).mono ?_
            rintro x w3 ⟨rfl, b3⟩
            go_wp2_with fail
            refine (HC.out _ (P2'.out.drew.below b3 (Nat.le_refl _))).mono ?_
            rintro x w4 ⟨rfl, ⟨T1', T2', n1', n2', e1, e2, e3, e4, e5, e6, hp'⟩, b4⟩
            go_wp2
            go_roundw
            case rel => exact ⟨j + 1, t + (m + q), T1', T2', n1', n2', by omega, by go_num, rfl, by omega, by have := HT.out; omega, e1, e2, e3, e4, e5, e6, hp', (HB.out.drew.trans (b3.mono (by simpa using hsb))).trans (b4.below (by have := b3.size; simp at this; omega) hall)⟩
            case measure => simp [intOf]; omega
      · obtain rfl : j = len := by omega
        go_wp2
        go_ret
        exact ⟨rfl, B1.trans (hB.mono B1.size)⟩
end Go.Proofs.Ytlaomjhibaoglaa
