/- Proved here: the walk of PoliceDropped. Conditions: as each theorem states them. -/
import Derived.Test.YtlaomjhibaoglaaSpacedW
namespace Go.Proofs.Ytlaomjhibaoglaa
set_option linter.unusedSimpArgs false
set_option linter.unusedVariables false
open Go.RowKit Go.Shelf

theorem vN_cases (K : PK) (al : Bool) (T1 T2 t c : Int) : vN K al T1 T2 t c = 1 ∨ vN K al T1 T2 t c = 2 ∨ (vN K al T1 T2 t c = 3 ∧ n1N K T1 T2 t c = T1 ∧ n2N K T1 T2 t c = T2) := by
  unfold vN n1N n2N
  rcases v0N_cases K T1 T2 t c with h | h | h <;> rw [h]
  · cases (al && c == 0) <;> simp
  · simp
  · simp

theorem dropped_end {c1 c2 c3 : Int} {n : Nat} (h : (n : Int) = c1 + c2 + c3) : ((n : Int) == c1 + c2 + c3) = true := by simpa using h

set_option maxHeartbeats 4000000 in
theorem dropped_walk (k p e w b l : Int) (a : Option Addr) (len cap : Nat) (L : List (Int × Bool)) (W : World) (hL : IsG W.heap.size W a len L) :
    Calls Try.prog 5 #[cV k p e w b l, .slice a len cap] W fun x W' => x = .returned (.bool true) ∧ Below W.heap.size W W' := by
  by_cases hl1 : 300 < len
  · have q1 : decide (300 < (len : Int)) = true := by simp; omega
    clear hL
    go_enter Try.func5, Try.ntmps5
    go_wp2_with fail
    refine (awake_calls _).mono ?_
    rintro x w1 ⟨rfl, b1⟩
    go_wp2_with fail
    refine (awake_calls _).mono ?_
    rintro x w2 ⟨rfl, b2⟩
    have b1' := below_box2 b1
    go_wp2
    go_ret
    exact ⟨rfl, b1'.trans (b2.mono b1'.size)⟩
  have q1 : decide (300 < (len : Int)) = false := by simp; omega
  have hl : len ≤ 300 := by omega
  clear hl1
  have C0 := cc_new W k p e w b l
  cases ho : okB k p e w b l with
  | false =>
    have H : Hid (okB k p e w b l = false) := ho
    clear ho hL
    go_enter Try.func5, Try.ntmps5
    go_wp2_with fail
    refine (awake_calls _).mono ?_
    rintro x w1 ⟨rfl, b1⟩
    have C1 := C0.below b1 C0.lt
    obtain ⟨c0, c1, c2, c3, c4, c5⟩ := C1.facts
    have B1 := below_box2 b1
    have r1 := C1.lt
    clear b1 C0
    go_wp2_with fail
    refine (pnew_no k p e w b l H.out _).mono ?_
    rintro x w2 ⟨E, rfl, hE, b2⟩
    have B2 := B1.trans (b2.mono B1.size)
    have C2 := C1.below b2 C1.lt
    clear c0 c1 c2 c3 c4 c5 C1 b2
    obtain ⟨c0, c1, c2, c3, c4, c5⟩ := C2.facts
    go_wp2_with fail
    refine (pnew_no k p e w b l H.out _).mono ?_
    rintro x w3 ⟨E2, rfl, hE2, b3⟩
    have B3 := B2.trans (b3.mono B2.size)
    rcases hE with rfl | rfl <;>
    · go_wp2
      go_ret
      exact ⟨rfl, B3⟩
  | true =>
    have H : Hid (okB k p e w b l = true) := ho
    clear ho
    obtain ⟨al, hal⟩ : ∃ al, (k == 7) = al := ⟨_, rfl⟩
    have hkl : Hid ((k == 7) = al) := hal
    clear hal
    go_enter Try.func5, Try.ntmps5
    go_wp2_with fail
    refine (awake_calls _).mono ?_
    rintro x w1 ⟨rfl, b1⟩
    have C1 := C0.below b1 C0.lt
    obtain ⟨c0, c1, c2, c3, c4, c5⟩ := C1.facts
    have B1 := below_box2 b1
    have G1 := hL.below B1 (Nat.le_refl _)
    clear C0 b1 hL
    go_wp2_with fail
    refine (pnew_calls k p e w b l H.out _).mono ?_
    rintro x w2 ⟨A, rfl, P2, lo, b2⟩
    rw [hkl.out] at P2
    have hall := lo.all
    have C2 := C1.below b2 C1.lt
    have s2 := b2.size
    clear c0 c1 c2 c3 c4 c5 lo q1 C1
    obtain ⟨c0, c1, c2, c3, c4, c5⟩ := C2.facts
    go_wp2_with fail
    refine (pnew_calls k p e w b l H.out _).mono ?_
    rintro x w3 ⟨B, rfl, P3, lo, b3⟩
    rw [hkl.out] at P3
    have hhi := P2.hi
    have hgl := P2.pc.pr.glt
    have P2' := P2.below b3 (Nat.le_refl _)
    have hbl : ∀ k ∈ [B.r, B.b1, B.b2], w1.heap.size ≤ k := fun k hk => Nat.le_trans s2 (lo.all k hk)
    have B3 : Below w1.heap.size w1 w3 := b2.trans (b3.mono s2)
    clear c0 c1 c2 c3 c4 c5 C2 P2 b2 b3
    go_wp2
    go_loopw [9, 42] (fun tv iv wr => ∃ (j : Nat) (t T1 T2 c1 c2 c3 : Int), j ≤ len ∧ iv = .int .i64 j ∧ tv = .int .i64 t ∧ 0 ≤ t ∧ t ≤ 4294967296 * j ∧ 0 ≤ c1 ∧ 0 ≤ c2 ∧ 0 ≤ c3 ∧ (j : Int) = c1 + c2 + c3 ∧ PV wr (kOf k p e w b) A al T1 T2 j c1 c2 c3 ∧ PV wr (kOf k p e w b) B al T1 T2 (c1 + c2) c1 c2 0 ∧ Below w1.heap.size w1 wr) (fun _ iv _ => len - (intOf iv).toNat)
    case atStart => exact ⟨0, 0, 0, 0, 0, 0, 0, Nat.zero_le _, rfl, rfl, by decide, by decide, by decide, by decide, by decide, by decide, P2', P3, B3⟩
    case round =>
      obtain ⟨j, t, T1, T2, n1, n2, n3, hj, rfl, rfl, t0, t1, n10, n20, n30, hn, hP, hQ, hB⟩ := hrel
      by_cases hlt : j < len
      · obtain ⟨b', off, q, low, rfl, hb', hx, q0, q2, g1, g2⟩ := (G1.below hB B1.size).at hlt
        have t2 : t ≤ 1288490188800 := by omega
        have hsb := hB.size
        have HT : Hid (t ≤ 4294967296 * (j : Int)) := t1
        have HN : Hid ((j : Int) = n1 + n2 + n3) := hn
        have HA := fun w' hp => pv_take _ (kOf_tz k p e w b) A al T1 T2 j n1 n2 n3 (t + q) (clN low) w' hp (by omega) (by omega) (by omega) (by omega)
        have HO := fun w' hp => pv_take _ (kOf_tz k p e w b) B al T1 T2 (n1 + n2) n1 n2 0 (t + q) (clN low) w' hp (by omega) (by omega) (by omega) (by omega)
        have gx : ∀ w', Below w1.heap.size w1 w' → w'.cell? ⟨b', off + j * 2, none⟩ = some (.int .u32 q) ∧ w'.cell? ⟨b', off + j * 2 + 1, none⟩ = some (.bool low) := fun w' hb => by
          obtain ⟨b2, off2, q', low', e1, _, hx2, _, _, g1', g2'⟩ := (G1.below hb B1.size).at hlt
          cases e1
          rw [hx] at hx2
          cases hx2
          exact ⟨g1', g2'⟩
        have HG : Hid (∀ w', Below w1.heap.size w1 w' → w'.cell? ⟨b', off + j * 2, none⟩ = some (.int .u32 q) ∧ w'.cell? ⟨b', off + j * 2 + 1, none⟩ = some (.bool low)) := gx
        clear hx G1 t1 hn gx
        rcases vN_cases (kOf k p e w b) al T1 T2 (t + q) (clN low) with hv | hv | ⟨hv, e1, e2⟩
        · rw [hv] at HA HO
          rw [show cnt 1 1 n1 = n1 + 1 by rfl, show cnt 1 2 n2 = n2 by rfl, show cnt 1 3 n3 = n3 by rfl] at HA
          rw [show cnt 1 1 n1 = n1 + 1 by rfl, show cnt 1 2 n2 = n2 by rfl, show cnt 1 3 0 = 0 by rfl] at HO
          clear hv
          have HAH : Hid (∀ w', _ → _) := HA
          have HOH : Hid (∀ w', _ → _) := HO
          clear HO HA
          go_wp2_with fail
          refine (clp_calls q low _).mono ?_
          rintro x w4 ⟨rfl, b4⟩
          go_wp2_with fail
          refine (HAH.out _ (hP.below b4 (Nat.le_refl _))).mono ?_
          rintro x w5 ⟨rfl, P5, b5⟩
          have B4 := hB.trans (b4.mono hsb)
          have B5 := B4.trans (b5.below B4.size hall)
          have Q5 := (hQ.below b4 (Nat.le_refl _)).buts b5 (Nat.le_refl _) lo hhi
          obtain ⟨g1', g2'⟩ := HG.out w5 B5
          go_wp2_with fail
          refine (clp_calls q low _).mono ?_
          rintro x w6 ⟨rfl, b6⟩
          go_wp2_with fail
          refine (HOH.out _ (Q5.below b6 (Nat.le_refl _))).mono ?_
          rintro x w7 ⟨rfl, P6, b7⟩
          have B6 := B5.trans (b6.mono B5.size)
          have BZ := B6.trans (b7.below B6.size hbl)
          have PA := (P5.below b6 (Nat.le_refl _)).buts' b7 (Nat.le_refl _) hgl hhi lo.all
          go_wp2
          go_roundw
          case rel => exact ⟨j + 1, t + q, _, _, n1 + 1, n2, n3, by omega, by go_num, rfl, by omega, by have := HT.out; omega, by omega, by omega, by omega, by have := HN.out; omega, PA, (by rw [show n1 + 1 + n2 = n1 + n2 + 1 by omega]; exact P6), BZ⟩
          case measure => simp [intOf]; omega
        · rw [hv] at HA HO
          rw [show cnt 2 1 n1 = n1 by rfl, show cnt 2 2 n2 = n2 + 1 by rfl, show cnt 2 3 n3 = n3 by rfl] at HA
          rw [show cnt 2 1 n1 = n1 by rfl, show cnt 2 2 n2 = n2 + 1 by rfl, show cnt 2 3 0 = 0 by rfl] at HO
          clear hv
          have HAH : Hid (∀ w', _ → _) := HA
          have HOH : Hid (∀ w', _ → _) := HO
          clear HO HA
          go_wp2_with fail
          refine (clp_calls q low _).mono ?_
          rintro x w4 ⟨rfl, b4⟩
          go_wp2_with fail
          refine (HAH.out _ (hP.below b4 (Nat.le_refl _))).mono ?_
          rintro x w5 ⟨rfl, P5, b5⟩
          have B4 := hB.trans (b4.mono hsb)
          have B5 := B4.trans (b5.below B4.size hall)
          have Q5 := (hQ.below b4 (Nat.le_refl _)).buts b5 (Nat.le_refl _) lo hhi
          obtain ⟨g1', g2'⟩ := HG.out w5 B5
          go_wp2_with fail
          refine (clp_calls q low _).mono ?_
          rintro x w6 ⟨rfl, b6⟩
          go_wp2_with fail
          refine (HOH.out _ (Q5.below b6 (Nat.le_refl _))).mono ?_
          rintro x w7 ⟨rfl, P6, b7⟩
          have B6 := B5.trans (b6.mono B5.size)
          have BZ := B6.trans (b7.below B6.size hbl)
          have PA := (P5.below b6 (Nat.le_refl _)).buts' b7 (Nat.le_refl _) hgl hhi lo.all
          go_wp2
          go_roundw
          case rel => exact ⟨j + 1, t + q, _, _, n1, n2 + 1, n3, by omega, by go_num, rfl, by omega, by have := HT.out; omega, by omega, by omega, by omega, by have := HN.out; omega, PA, (by rw [show n1 + (n2 + 1) = n1 + n2 + 1 by omega]; exact P6), BZ⟩
          case measure => simp [intOf]; omega
        · rw [hv, e1, e2] at HA
          rw [show cnt 3 1 n1 = n1 by rfl, show cnt 3 2 n2 = n2 by rfl, show cnt 3 3 n3 = n3 + 1 by rfl] at HA
          have HAH : Hid (∀ w', _ → _) := HA
          clear hv e1 e2 HO HA
          go_wp2_with fail
          refine (clp_calls q low _).mono ?_
          rintro x w4 ⟨rfl, b4⟩
          go_wp2_with fail
          refine (HAH.out _ (hP.below b4 (Nat.le_refl _))).mono ?_
          rintro x w5 ⟨rfl, P5, b5⟩
          have B4 := hB.trans (b4.mono hsb)
          have B5 := B4.trans (b5.below B4.size hall)
          have Q5 := (hQ.below b4 (Nat.le_refl _)).buts b5 (Nat.le_refl _) lo hhi
          go_wp2
          go_roundw
          case rel => exact ⟨j + 1, t + q, T1, T2, n1, n2, n3 + 1, by omega, by go_num, rfl, by omega, by have := HT.out; omega, by omega, by omega, by omega, by have := HN.out; omega, P5, Q5, B5⟩
          case measure => simp [intOf]; omega
      · obtain rfl : j = len := by omega
        have hend := dropped_end hn
        have m1 : n1 ≤ 300 := by omega
        have m2 : n2 ≤ 300 := by omega
        have m3 : n3 ≤ 300 := by omega
        clear hn t1
        go_wp2_with fail
        refine (counts_calls hP).mono ?_
        rintro x w4 ⟨rfl, b4⟩
        go_wp2_with fail
        refine (counts_calls (hQ.below b4 (Nat.le_refl _))).mono ?_
        rintro x w5 ⟨rfl, b5⟩
        have B5 : Below w1.heap.size w1 w5 := (hB.trans (b4.mono hB.size)).trans (b5.mono (by have := hB.size; have := b4.size; omega))
        have hs5 := B5.size
        go_wp2
        go_ret
        exact ⟨rfl, B1.trans (((B5.alloc hs5 _).alloc (by simp; omega) _).mono B1.size)⟩
end Go.Proofs.Ytlaomjhibaoglaa
