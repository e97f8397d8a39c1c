/- Proved here: the walk of PoliceKinds. Conditions: as each theorem states them. -/
import Derived.Test.YtlaomjhibaoglaaDroppedW
namespace Go.Proofs.Ytlaomjhibaoglaa
set_option linter.unusedSimpArgs false
set_option linter.unusedVariables false
open Go.RowKit Go.Shelf

set_option maxHeartbeats 400000 in
theorem pdue_nil (c : Int) (w : World) : Calls Try.prog 15 #[.pointer none, .int .i64 c] w fun e w' => e = .returned (.int .i64 0) ∧ w' = w := by
  go_enter Try.func15, Try.ntmps15
  go_wp2
  go_ret
  exact ⟨rfl, rfl⟩

theorem kinds_ok {k P w b : Int} (hk : k = 3 ∨ k = 4) (h0 : 1 ≤ P) (h1 : P ≤ 50) (h2 : 0 ≤ w) (h3 : w < 65536) (h4 : 0 ≤ b) (h5 : b < 65536) : okB k P 0 (P + w) b 0 = true := by
  rw [okB_iff]
  have hv : vbrB k = true := by rcases hk with rfl | rfl <;> decide
  unfold canB
  rw [hv]
  simp [inB]
  omega

/-- What the two kinds do with a cell that isn't too early at the peak. -/
theorem kinds_step {P wh bu T1 S1 T2 t : Int} (p0 : 1 ≤ P) (p1 : P ≤ 50) (t0 : 0 ≤ t) (t1 : t ≤ 1152921504606846976) (h1 : T1 ≤ t) (h2 : S1 ≤ t) :
    ((vN (kOf 3 P 0 (P + wh) bu) false T1 T2 t 0 = 1 ∧ vN (kOf 4 P 0 (P + wh) bu) false S1 T2 t 0 = 1) ∨ (vN (kOf 3 P 0 (P + wh) bu) false T1 T2 t 0 = 3 ∧ vN (kOf 4 P 0 (P + wh) bu) false S1 T2 t 0 = 2)) ∧
    n2N (kOf 4 P 0 (P + wh) bu) S1 T2 t 0 = n2N (kOf 3 P 0 (P + wh) bu) T1 T2 t 0 ∧ n1N (kOf 3 P 0 (P + wh) bu) T1 T2 t 0 ≤ t + P ∧ n1N (kOf 4 P 0 (P + wh) bu) S1 T2 t 0 ≤ t + P := by
  have a1 : fitN 0 T1 t = true := fit_le t0 t1 h1
  have a2 : fitN 0 S1 t = true := fit_le t0 t1 h2
  have k3 : ask2 (kOf 3 P 0 (P + wh) bu) 0 = true := rfl
  have k4 : ask2 (kOf 4 P 0 (P + wh) bu) 0 = true := rfl
  cases hf : fitN (bu + 0) T2 t
  · have e3 : v0N (kOf 3 P 0 (P + wh) bu) T1 T2 t 0 = 3 := by unfold v0N; rw [k3]; simp only [kOf, a1, hf]; rfl
    have e4 : v0N (kOf 4 P 0 (P + wh) bu) S1 T2 t 0 = 2 := by unfold v0N; rw [k4]; simp only [kOf, a2, hf]; rfl
    unfold vN n1N n2N
    rw [e3, e4, k3, k4]
    refine ⟨.inr ⟨rfl, rfl⟩, rfl, ?_, ?_⟩
    · show T1 ≤ t + P; omega
    · show nextN P S1 t ≤ t + P
      rw [next_le t0 t1 p0 (by omega) h2]; omega
  · have e3 : v0N (kOf 3 P 0 (P + wh) bu) T1 T2 t 0 = 1 := by unfold v0N; rw [k3]; simp only [kOf, a1, hf]; rfl
    have e4 : v0N (kOf 4 P 0 (P + wh) bu) S1 T2 t 0 = 1 := by unfold v0N; rw [k4]; simp only [kOf, a2, hf]; rfl
    unfold vN n1N n2N
    rw [e3, e4, k3, k4]
    refine ⟨.inl ⟨rfl, rfl⟩, rfl, ?_, ?_⟩
    · show nextN P T1 t ≤ t + P
      rw [next_le t0 t1 p0 (by omega) h1]; omega
    · show nextN P S1 t ≤ t + P
      rw [next_le t0 t1 p0 (by omega) h2]; omega

theorem IsR.at {k : IntKind} {n : Nat} {W : World} {a : Option Addr} {len : Nat} {zs : List Int} (h : IsR k n W a len zs) {i : Nat} (hi : i < len) :
    ∃ b off x, a = some ⟨b, off, none⟩ ∧ b < n ∧ zs[i]? = some x ∧ W.cell? ⟨b, off + i, none⟩ = some (.int k x) := by
  have hl : i < zs.length := by have := h.1; omega
  obtain ⟨b, off, ea, hb, hc⟩ := h.cell (List.getElem?_eq_getElem hl)
  exact ⟨b, off, zs[i], ea, hb, List.getElem?_eq_getElem hl, hc i _ (List.getElem?_eq_getElem hl)⟩

set_option maxHeartbeats 4000000 in
theorem kinds_walk (pk wh bu : Int) (a0 : 0 ≤ pk) (a1 : pk < 65536) (b0 : 0 ≤ wh) (b1 : wh < 65536) (d0 : 0 ≤ bu) (d1 : bu < 65536) (a : Option Addr) (len cap : Nat) (zs : List Int) (W : World) (hL : IsR .u16 W.heap.size W a len zs) (hb : ∀ z ∈ zs, 0 ≤ z ∧ z < 65536) :
    Calls Try.prog 7 #[.int .u16 pk, .int .u16 wh, .int .u16 bu, .slice a len cap] W fun x W' => x = .returned (.bool true) ∧ Below W.heap.size W W' := by
  by_cases hl1 : 300 < len
  · have q1 : decide (300 < (len : Int)) = true := by simp; omega
    clear hL
    go_enter Try.func7, Try.ntmps7
    go_wp2_with fail
    refine (awake_calls _).mono ?_
    rintro x w1 ⟨rfl, b1⟩
    go_wp2_with fail
    refine (awake_calls _).mono ?_
    rintro x w2 ⟨rfl, b2⟩
    go_wp2
    go_ret
    exact ⟨rfl, b1.trans (b2.mono b1.size)⟩
  have q1 : decide (300 < (len : Int)) = false := by simp; omega
  have hl : len ≤ 300 := by omega
  have HB : Hid (∀ z ∈ zs, 0 ≤ z ∧ z < 65536) := hb
  clear hl1 hb
  go_enter Try.func7, Try.ntmps7
  go_wp2_with fail
  refine (awake_calls _).mono ?_
  rintro x w1 ⟨rfl, B1⟩
  have G1 := hL.below B1 (Nat.le_refl _)
  clear hL q1
  go_wp2_with fail
  obtain ⟨P, hP, p0, p1⟩ : ∃ P, 1 + pk % 50 = P ∧ 1 ≤ P ∧ P ≤ 50 := ⟨_, rfl, by omega, by omega⟩
  rw [hP]
  have D0 := cc_new (w1.alloc (.cells #[.int .i64 3, .int .i64 P, .int .i64 0, .int .i64 (P + wh), .int .i64 bu, .int .i64 0] 23)) 4 P 0 (P + wh) bu 0
  have C0 := (cc_new w1 3 P 0 (P + wh) bu 0).below (below_box _ (.cells #[.int .i64 4, .int .i64 P, .int .i64 0, .int .i64 (P + wh), .int .i64 bu, .int .i64 0] 23)) (by simp)
  have B2 : Below w1.heap.size w1 _ := (below_box w1 (.cells #[.int .i64 3, .int .i64 P, .int .i64 0, .int .i64 (P + wh), .int .i64 bu, .int .i64 0] 23)).alloc (by simp) (.cells #[.int .i64 4, .int .i64 P, .int .i64 0, .int .i64 (P + wh), .int .i64 bu, .int .i64 0] 23)
  rw [size_box] at D0
  refine (pnew_calls 3 P 0 (P + wh) bu 0 (kinds_ok (.inl rfl) p0 p1 b0 b1 d0 d1) _).mono ?_
  obtain ⟨V, hV⟩ : ∃ V, (w1.alloc (.cells #[.int .i64 3, .int .i64 P, .int .i64 0, .int .i64 (P + wh), .int .i64 bu, .int .i64 0] 23)).alloc (.cells #[.int .i64 4, .int .i64 P, .int .i64 0, .int .i64 (P + wh), .int .i64 bu, .int .i64 0] 23) = V := ⟨_, rfl⟩
  rw [hV] at D0 C0 B2 ⊢
  clear hV
  rintro x w2 ⟨A, rfl, P2, lo2, b2⟩
  rw [show ((3 : Int) == 7) = false by decide] at P2
  have D1 := D0.below b2 D0.lt
  have C1 := C0.below b2 C0.lt
  obtain ⟨e0, e1, e2, e3, e4, e5⟩ := D1.facts
  have hall := lo2.all
  have s2 := b2.size
  clear lo2
  go_wp2_with fail
  refine (pnew_calls 4 P 0 (P + wh) bu 0 (kinds_ok (.inr rfl) p0 p1 b0 b1 d0 d1) _).mono ?_
  rintro x w3 ⟨B, rfl, P3, lo, b3⟩
  rw [show ((4 : Int) == 7) = false by decide] at P3
  have hhi := P2.hi
  have hgl := P2.pc.pr.glt
  have P2' := P2.below b3 (Nat.le_refl _)
  have hbl : ∀ k ∈ [B.r, B.b1, B.b2], V.heap.size ≤ k := fun k hk => Nat.le_trans s2 (lo.all k hk)
  have B3 : Below V.heap.size V w3 := b2.trans (b3.mono s2)
  have G2 := G1.below B2 B1.size
  have r1 := C0.lt
  have r2 := B2.size
  clear e0 e1 e2 e3 e4 e5 D1 C1 D0 P2 b2 b3 G1 hP
  go_wp2
  go_loopw [15, 61] (fun tv iv wr => ∃ (j : Nat) (t T1 S1 T2 c1 c2 c3 f1 f2 f3 : Int), j ≤ len ∧ iv = .int .i64 j ∧ tv = .int .i64 t ∧ 0 ≤ t ∧ t ≤ 70000 * j ∧ T1 ≤ t + P ∧ S1 ≤ t + P ∧ 0 ≤ c1 ∧ c1 ≤ j ∧ 0 ≤ c2 ∧ c2 ≤ j ∧ 0 ≤ c3 ∧ c3 ≤ j ∧ 0 ≤ f1 ∧ f1 ≤ j ∧ 0 ≤ f2 ∧ f2 ≤ j ∧ 0 ≤ f3 ∧ f3 ≤ j ∧ PV wr (kOf 3 P 0 (P + wh) bu) A false T1 T2 j c1 c2 c3 ∧ PV wr (kOf 4 P 0 (P + wh) bu) B false S1 T2 j f1 f2 f3 ∧ Below V.heap.size V wr) (fun _ iv _ => len - (intOf iv).toNat)
  case atStart => exact ⟨0, 0, 0, 0, 0, 0, 0, 0, 0, 0, 0, Nat.zero_le _, rfl, rfl, by decide, by decide, by omega, by omega, by decide, by decide, by decide, by decide, by decide, by decide, by decide, by decide, by decide, by decide, by decide, by decide, P2', P3, B3⟩
  case round =>
    obtain ⟨j, t, T1, S1, T2, n1, n2, n3, f1, f2, f3, hj, rfl, rfl, t0, t1, h1, h2, n10, n11, n20, n21, n30, n31, f10, f11, f20, f21, f30, f31, hP, hQ, hB⟩ := hrel
    by_cases hlt : j < len
    · obtain ⟨b', off, q, rfl, hb', hx, g1⟩ := (G2.below hB (by have := B1.size; omega)).at hlt
      have ⟨q0, q2⟩ := HB.out q (List.mem_of_getElem? hx)
      obtain ⟨c0, c1, c2, c3, c4, c5⟩ := (C0.below hB r1).facts
      have t2 : t ≤ 21000000 := by omega
      have hsb := hB.size
      have HT : Hid (t ≤ 70000 * (j : Int)) := t1
      have HA := fun w' hp => pv_take _ (kOf_tz 3 P 0 (P + wh) bu) A false T1 T2 j n1 n2 n3 (t + (P + q)) 0 w' hp (by omega) (by omega) (by omega) (by omega)
      have HO := fun w' hp => pv_take _ (kOf_tz 4 P 0 (P + wh) bu) B false S1 T2 j f1 f2 f3 (t + (P + q)) 0 w' hp (by omega) (by omega) (by omega) (by omega)
      obtain ⟨v, hv⟩ : ∃ v, vN (kOf 3 P 0 (P + wh) bu) false T1 T2 (t + (P + q)) 0 = v := ⟨_, rfl⟩
      obtain ⟨u, hu⟩ : ∃ u, vN (kOf 4 P 0 (P + wh) bu) false S1 T2 (t + (P + q)) 0 = u := ⟨_, rfl⟩
      obtain ⟨hcase, ht2, ht1, hs1⟩ := kinds_step (P := P) (wh := wh) (bu := bu) (T1 := T1) (S1 := S1) (T2 := T2) (t := t + (P + q)) p0 p1 (by omega) (by omega) (by omega) (by omega)
      rw [hv] at HA hcase
      rw [hu] at HO hcase
      rw [ht2] at HO
      have HD := fun (w : Int) => And.intro (cnt_bound (v := v) (i := 1) n10 n11) (And.intro (cnt_bound (v := v) (i := 2) n20 n21) (And.intro (cnt_bound (v := v) (i := 3) n30 n31) (And.intro (cnt_bound (v := u) (i := 1) f10 f11) (And.intro (cnt_bound (v := u) (i := 2) f20 f21) (cnt_bound (v := u) (i := 3) f30 f31)))))
      have HDH : Hid (∀ w : Int, _) := HD
      have HSH : Hid (n1N (kOf 3 P 0 (P + wh) bu) T1 T2 (t + (P + q)) 0 ≤ t + (P + q) + P ∧ n1N (kOf 4 P 0 (P + wh) bu) S1 T2 (t + (P + q)) 0 ≤ t + (P + q) + P) := ⟨ht1, hs1⟩
      have HAH : Hid (∀ w', _ → _) := HA
      have HOH : Hid (∀ w', _ → _) := HO
      clear hx t1 hv hu ht1 hs1 ht2 HA HO HD C0 G2 h1 h2
      rcases hcase with ⟨rfl, rfl⟩ | ⟨rfl, rfl⟩ <;>
      · go_wp2
        go_region
        go_wp2_with fail
        refine (HAH.out _ hP.drew).mono ?_
        rintro x w4 ⟨rfl, P4, b4⟩
        go_wp2_with fail
        refine (HOH.out _ (hQ.drew.buts b4 (Nat.le_refl _) lo hhi)).mono ?_
        rintro x w5 ⟨rfl, P5, b5⟩
        have B4 := hB.drew.trans (b4.below (by simpa using hsb) hall)
        have B5 := B4.trans (b5.below B4.size hbl)
        have P4' := P4.buts' b5 (Nat.le_refl _) hgl hhi lo.all
        go_wp2
        go_roundw
        case rel =>
          obtain ⟨y1, y2, y3, y4, y5, y6⟩ := HDH.out 0
          exact ⟨j + 1, t + (P + q), _, _, _, _, _, _, _, _, _, by omega, by go_num, rfl, by omega, by have := HT.out; omega, HSH.out.1, HSH.out.2, y1.1, y1.2, y2.1, y2.2, y3.1, y3.2, y4.1, y4.2, y5.1, y5.2, y6.1, y6.2, P4', P5, B5⟩
        case measure => simp [intOf]; omega
    · obtain rfl : j = len := by omega
      have hq := eql_self 0 0 0 0
      go_wp2_with fail
      refine (ptake_nil 0 0 _).mono ?_
      rintro x w4 ⟨rfl, rfl⟩
      go_wp2_with fail
      refine (counts_nil _).mono ?_
      rintro x w5 ⟨rfl, b5⟩
      go_wp2_with fail
      refine (pdue_nil 0 _).mono ?_
      rintro x w6 ⟨rfl, rfl⟩
      go_wp2
      go_ret
      exact ⟨rfl, B1.trans ((B2.trans ((hB.trans (b5.mono hB.size)).mono r2)).mono B1.size)⟩
end Go.Proofs.Ytlaomjhibaoglaa
