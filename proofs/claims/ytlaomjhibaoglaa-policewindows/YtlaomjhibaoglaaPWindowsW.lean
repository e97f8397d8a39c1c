/- Proved here: the walk of PoliceWindows. Conditions: as each theorem states them. -/
import Derived.Test.YtlaomjhibaoglaaDroppedW
import Derived.Test.YtlaomjhibaoglaaWin
namespace Go.Proofs.Ytlaomjhibaoglaa
set_option linter.unusedSimpArgs false
set_option linter.unusedVariables false
open Go.RowKit Go.Shelf

theorem vN_cases3 (K : PK) (al : Bool) (T1 T2 t c : Int) : vN K al T1 T2 t c = 1 ∨ vN K al T1 T2 t c = 2 ∨ vN K al T1 T2 t c = 3 := by
  rcases vN_cases K al T1 T2 t c with h | h | h
  · exact .inl h
  · exact .inr (.inl h)
  · exact .inr (.inr h.1)

theorem Apart.symm {a a' : Option Addr} (h : Apart a a') : Apart a' a := fun x y hx hy e => h y x hy hx e.symm

theorem PV.below' {m : Nat} {W W' : World} {K : PK} {A : PA} {al : Bool} {T1 T2 c0 c1 c2 c3 : Int} (h : PV W K A al T1 T2 c0 c1 c2 c3) (hh : ∀ k ∈ [A.r, A.b1, A.b2], k < m) (hg : A.g < m) (hb : Below m W W') : PV W' K A al T1 T2 c0 c1 c2 c3 := by
  have hr := hh A.r (by simp)
  have h1 := hh A.b1 (by simp)
  have h2 := hh A.b2 (by simp)
  have hc : ∀ (b k : Nat), b < m → W'.cell? ⟨b, k, none⟩ = W.cell? ⟨b, k, none⟩ := fun b k hb' => hb.cell (p := ⟨b, k, none⟩) hb'
  have hp := h.pc.pr
  refine ⟨⟨h.pc.own.below hb hr, ⟨(hc _ _ hr).trans hp.sl, Nat.lt_of_lt_of_le hp.rlt hb.size, Nat.lt_of_lt_of_le hp.glt hb.size, fun j x hx => ?_, hp.len, hp.gr, hp.ne, hp.nd, fun x hx => ⟨(hp.bk x hx).1.below hb ?_, (hp.bk x hx).2⟩⟩⟩, Nat.lt_of_lt_of_le h.b2 hb.size⟩
  · obtain ⟨a1, a2, a3⟩ := hp.lim j x hx
    exact ⟨(hc _ _ hg).trans a1, (hc _ _ hg).trans a2, (hc _ _ hg).trans a3⟩
  · rcases LL_b K A T1 T2 x hx with e | e <;> rw [e] <;> assumption

/-- A number appended to one of two slices. -/
theorem app_step (w : World) {base : Nat} (hb : base ≤ w.heap.size) {a a' : Option Addr} {n c n' c' : Nat} {xs ys : List Int} (o : OwnR 3 .i64 base w a n c xs) (o' : OwnR 3 .i64 base w a' n' c' ys) (hap : Apart a a') (hn : n ≤ 1000) (x : Int) :
    ∃ g c2 w', (Builtin.append_ #[30, 30] 30 #[.slice a n c, .slice (some ⟨w.heap.size, 0, none⟩) 1 1]).run Try.prog (w.alloc (.cells #[.int .i64 x] 3)) = .ok (.slice (some ⟨g, 0, none⟩) (n + 1) c2) w' ∧
      OwnR 3 .i64 base w' (some ⟨g, 0, none⟩) (n + 1) c2 (xs ++ [x]) ∧ OwnR 3 .i64 base w' a' n' c' ys ∧ Apart (some ⟨g, 0, none⟩) a' ∧ Below base w w' := by
  have bx := below_box w (.cells #[.int .i64 x] 3)
  have oA := o.below bx (Nat.le_refl _)
  have oB := o'.below bx (Nat.le_refl _)
  obtain ⟨g, c2, w', hrun, ho, hg, hw⟩ := run_app1 _ base (by simp; omega) a n c xs oA hn x w.heap.size (bk_new w _ _)
  refine ⟨g, c2, w', hrun, ho, oB.apart oA hap.symm hg, ?_, (bx.mono hb).trans ((Below.refl base _).grown hg (by simp; omega) (fun k e => ?_))⟩
  · intro y z hy hz e
    cases hy
    rcases hw with ⟨u, hu, e2⟩ | hw
    · exact hap u z hu hz (e2.trans e)
    · subst hz
      have := o'.lt
      simp at hw e
      omega
  · cases a with
    | none => simp [Value.ownBlock] at e
    | some y =>
      simp [Value.ownBlock] at e
      have := o.lt
      omega

/-- What is so of the times that weren't dropped, and of those of loss priority 0 that passed. -/
structure WI (k p e w b T1 T2 : Int) (LA LZ : List Int) : Prop where
  w1 : Win p e T1 LA
  w2 : k = 2 → Win w (b + e) T2 LA
  w3 : k = 3 ∨ k = 4 → Win w (b + e) T2 LZ

theorem fit_iff {e T t : Int} (e0 : 0 ≤ e) (e1 : e ≤ 1152921504606846976) (t0 : 0 ≤ t) (t1 : t ≤ 1152921504606846976) (h : fitN e T t = true) : T - e ≤ t := by
  unfold fitN at h; rw [hM_id e0 e1, hM_id t0 t1] at h; simpa using h
theorem next_eq {s T t : Int} (s0 : 1 ≤ s) (s1 : s ≤ 1152921504606846976) (t0 : 0 ≤ t) (t1 : t ≤ 1152921504606846976) : nextN s T t = max T t + s := by
  unfold nextN; rw [hS_id s0 s1, hM_id t0 t1]

theorem WI.step {k p e w b T1 T2 : Int} {LA LZ : List Int} (h : WI k p e w b T1 T2 LA LZ) (F : Fine k p e w b) {low : Bool} {t v : Int} (t0 : 0 ≤ t) (t1 : t ≤ 1288490188800) (hv : v = vN (kOf k p e w b) (k == 7) T1 T2 t (clN low)) :
    (v = 3 → WI k p e w b (n1N (kOf k p e w b) T1 T2 t (clN low)) (n2N (kOf k p e w b) T1 T2 t (clN low)) LA LZ) ∧
    (v = 2 → WI k p e w b (n1N (kOf k p e w b) T1 T2 t (clN low)) (n2N (kOf k p e w b) T1 T2 t (clN low)) (LA ++ [t]) LZ) ∧
    (v = 1 → low = true → WI k p e w b (n1N (kOf k p e w b) T1 T2 t (clN low)) (n2N (kOf k p e w b) T1 T2 t (clN low)) (LA ++ [t]) LZ) ∧
    (v = 1 → low = false → WI k p e w b (n1N (kOf k p e w b) T1 T2 t (clN low)) (n2N (kOf k p e w b) T1 T2 t (clN low)) (LA ++ [t]) (LZ ++ [t])) := by
  have f1 := F.p0; have f2 := F.p1; have f3 := F.e0; have f4 := F.e1; have f5 := F.w1; have f6 := F.b0; have f7 := F.b1
  have drop : v = 3 → n1N (kOf k p e w b) T1 T2 t (clN low) = T1 ∧ n2N (kOf k p e w b) T1 T2 t (clN low) = T2 := by
    intro h3
    rcases vN_cases (kOf k p e w b) (k == 7) T1 T2 t (clN low) with h1 | h1 | ⟨_, h1, h2⟩
    · omega
    · omega
    · exact ⟨h1, h2⟩
  -- what isn't dropped fits at the peak
  have keep : v ≠ 3 → v0N (kOf k p e w b) T1 T2 t (clN low) ≠ 3 := by
    intro h3 h0
    apply h3
    rw [hv]; unfold vN; rw [h0]; rfl
  have peak : v ≠ 3 → Win p e (n1N (kOf k p e w b) T1 T2 t (clN low)) (LA ++ [t]) := by
    intro h3
    have h0 := keep h3
    have hf : fitN e T1 t = true := by
      cases hf : fitN e T1 t
      · exfalso; apply h0; unfold v0N; simp only [kOf, hf]; rfl
      · rfl
    have e1 : n1N (kOf k p e w b) T1 T2 t (clN low) = max T1 t + p := by
      unfold n1N
      rw [show (v0N (kOf k p e w b) T1 T2 t (clN low) == 3) = false from beq_eq_false_iff_ne.2 h0]
      show nextN p T1 t = _
      exact next_eq f1 (by omega) t0 (by omega)
    rw [e1]
    exact h.w1.take f3 (fit_iff f3 (by omega) t0 (by omega) hf)
  -- the second rule, where it takes
  have second : (vbrB k = true) → ∀ L, Win w (b + e) T2 L → v0N (kOf k p e w b) T1 T2 t (clN low) = 1 → ask2 (kOf k p e w b) (clN low) = true → Win w (b + e) (n2N (kOf k p e w b) T1 T2 t (clN low)) (L ++ [t]) := by
    intro hk L hL h0 ha
    have hpw := F.wp hk
    have hf : fitN (b + e) T2 t = true := by
      cases hf : fitN (b + e) T2 t
      · exfalso
        unfold v0N at h0
        rw [ha] at h0
        simp only [kOf, hf] at h0
        cases hz : fitN e T1 t <;> cases ht : tagB k <;> simp [hz, ht] at h0
      · rfl
    have e2 : n2N (kOf k p e w b) T1 T2 t (clN low) = max T2 t + w := by
      unfold n2N
      rw [h0, ha]
      show nextN w T2 t = _
      exact next_eq (by omega) (by omega) t0 (by omega)
    rw [e2]
    exact hL.take (by omega) (fit_iff (by omega) (by omega) t0 (by omega) hf)
  have same : ¬ (v0N (kOf k p e w b) T1 T2 t (clN low) = 1 ∧ ask2 (kOf k p e w b) (clN low) = true) → n2N (kOf k p e w b) T1 T2 t (clN low) = T2 := by
    intro hn
    unfold n2N
    cases ha : ask2 (kOf k p e w b) (clN low)
    · simp
    · have : v0N (kOf k p e w b) T1 T2 t (clN low) ≠ 1 := fun e => hn ⟨e, ha⟩
      rw [beq_eq_false_iff_ne.2 this]; rfl
  have kind2 : k = 2 → v ≠ 3 → v0N (kOf k p e w b) T1 T2 t (clN low) = 1 ∧ ask2 (kOf k p e w b) (clN low) = true := by
    rintro rfl h3
    refine ⟨?_, rfl⟩
    have h0 := keep h3
    rcases v0N_cases (kOf 2 p e w b) T1 T2 t (clN low) with h1 | h1 | h1
    · exact h1
    · exfalso
      unfold v0N at h1
      rw [show (kOf 2 p e w b).tg = false from rfl] at h1
      cases hz : fitN (kOf 2 p e w b).e T1 t <;> rw [hz] at h1 <;> cases hq : (ask2 (kOf 2 p e w b) (clN low) && !fitN (kOf 2 p e w b).B T2 t) <;> rw [hq] at h1 <;> simp at h1
    · exact absurd h1 h0
  have noal : k = 3 ∨ k = 4 → v = v0N (kOf k p e w b) T1 T2 t (clN low) := by
    intro hk
    rw [hv]; unfold vN
    have : (k == 7) = false := beq_eq_false_iff_ne.2 (by omega)
    rw [this]; simp
  have ask34 : k = 3 ∨ k = 4 → ask2 (kOf k p e w b) (clN low) = !low := by
    rintro (rfl | rfl) <;> cases low <;> rfl
  refine ⟨fun h3 => ?_, fun h2 => ?_, fun h1 hlow => ?_, fun h1 hlow => ?_⟩
  · obtain ⟨e1, e2⟩ := drop h3
    rw [e1, e2]; exact h
  · refine ⟨peak (by omega), fun hk => ?_, fun hk => ?_⟩
    · obtain ⟨a, c⟩ := kind2 hk (by omega)
      exact second (by subst hk; rfl) LA (h.w2 hk) a c
    · rw [same (fun hh => by have := noal hk; omega)]
      exact h.w3 hk
  · refine ⟨peak (by omega), fun hk => ?_, fun hk => ?_⟩
    · obtain ⟨a, c⟩ := kind2 hk (by omega)
      exact second (by subst hk; rfl) LA (h.w2 hk) a c
    · rw [same (fun hh => by have := ask34 hk; rw [hlow] at this; rw [hlow] at hh; rw [this] at hh; simp at hh)]
      exact h.w3 hk
  · refine ⟨peak (by omega), fun hk => ?_, fun hk => ?_⟩
    · obtain ⟨a, c⟩ := kind2 hk (by omega)
      exact second (by subst hk; rfl) LA (h.w2 hk) a c
    · exact second (by rcases hk with rfl | rfl <;> rfl) LZ (h.w3 hk) (by have := noal hk; omega) (by rw [ask34 hk, hlow]; rfl)

set_option maxHeartbeats 4000000 in
theorem pwin_walk (k p e w b l : Int) (a : Option Addr) (len cap : Nat) (L : List (Int × Bool)) (W : World) (hL : IsG W.heap.size W a len L) :
    Calls Try.prog 3 #[cV k p e w b l, .slice a len cap] W fun x W' => x = .returned (.bool true) ∧ Below W.heap.size W W' := by
  by_cases hl1 : 300 < len
  · have q1 : decide (300 < (len : Int)) = true := by simp; omega
    clear hL
    go_enter Try.func3, Try.ntmps3
    go_wp2_with fail
    refine (awake_calls _).mono ?_
    rintro x w1 ⟨rfl, b1⟩
    go_wp2_with fail
    refine (awake_calls _).mono ?_
    rintro x w2 ⟨rfl, b2⟩
    have b1' := below_box2 b1
    go_wp2
    go_ret
    exact ⟨rfl, b1'.trans (b2.mono b1'.size)⟩
  have q1 : decide (300 < (len : Int)) = false := by simp; omega
  have hl : len ≤ 300 := by omega
  clear hl1
  have C0 := cc_new W k p e w b l
  cases ho : okB k p e w b l with
  | false =>
    have H : Hid (okB k p e w b l = false) := ho
    clear ho hL
    go_enter Try.func3, Try.ntmps3
    go_wp2_with fail
    refine (awake_calls _).mono ?_
    rintro x w1 ⟨rfl, b1⟩
    have C1 := C0.below b1 C0.lt
    obtain ⟨c0, c1, c2, c3, c4, c5⟩ := C1.facts
    have B1 := below_box2 b1
    go_wp2_with fail
    refine (pnew_no k p e w b l H.out _).mono ?_
    rintro x w2 ⟨E, rfl, hE, b2⟩
    have B2 := B1.trans (b2.mono B1.size)
    rcases hE with rfl | rfl <;>
    · go_wp2
      go_ret
      exact ⟨rfl, B2⟩
  | true =>
    have H : Hid (okB k p e w b l = true) := ho
    have HF : Hid (Fine k p e w b) := fine_of ho
    clear ho
    obtain ⟨al, hal⟩ : ∃ al, (k == 7) = al := ⟨_, rfl⟩
    have hkl : Hid ((k == 7) = al) := hal
    clear hal
    go_enter Try.func3, Try.ntmps3
    go_wp2_with fail
    refine (awake_calls _).mono ?_
    rintro x w1 ⟨rfl, b1⟩
    have C1 := C0.below b1 C0.lt
    obtain ⟨c0, c1, c2, c3, c4, c5⟩ := C1.facts
    have B1 := below_box2 b1
    have G1 := hL.below B1 (Nat.le_refl _)
    clear C0 b1 hL
    go_wp2_with fail
    refine (pnew_calls k p e w b l H.out _).mono ?_
    rintro x w2 ⟨A, rfl, P2, lo, b2⟩
    rw [hkl.out] at P2
    have hall := lo.all
    have hhi := P2.hi
    have hgl := P2.pc.pr.glt
    have r1 := C1.lt
    have s2 := b2.size
    clear c0 c1 c2 c3 c4 c5 lo q1
    go_wp2
    go_loopw [7, 8, 9, 31] (fun tv av zv iv wr => ∃ (j : Nat) (t T1 T2 c1 c2 c3 : Int) (aa : Option Addr) (na ca : Nat) (az : Option Addr) (nz cz : Nat) (LA LZ : List Int), j ≤ len ∧ iv = .int .i64 j ∧ tv = .int .i64 t ∧ av = .slice aa na ca ∧ zv = .slice az nz cz ∧ 0 ≤ t ∧ t ≤ 4294967296 * j ∧ 0 ≤ c1 ∧ c1 ≤ j ∧ 0 ≤ c2 ∧ c2 ≤ j ∧ 0 ≤ c3 ∧ c3 ≤ j ∧ na ≤ j ∧ nz ≤ j ∧
        WI k p e w b T1 T2 LA LZ ∧ (∀ x ∈ LA, 0 ≤ x ∧ x ≤ 1288490188800) ∧ (∀ x ∈ LZ, 0 ≤ x ∧ x ≤ 1288490188800) ∧ OwnR 3 .i64 w2.heap.size wr aa na ca LA ∧ OwnR 3 .i64 w2.heap.size wr az nz cz LZ ∧ Apart aa az ∧ PV wr (kOf k p e w b) A al T1 T2 j c1 c2 c3 ∧ w2.heap.size ≤ wr.heap.size ∧ Below w1.heap.size w1 wr) (fun _ _ _ iv _ => len - (intOf iv).toNat)
    case atStart => exact ⟨0, 0, 0, 0, 0, 0, 0, none, 0, 0, none, 0, 0, [], [], Nat.zero_le _, rfl, rfl, rfl, rfl, by decide, by decide, by decide, by decide, by decide, by decide, by decide, by decide, by decide, by decide, ⟨win_nil _ _ _, fun _ => win_nil _ _ _, fun _ => win_nil _ _ _⟩, by simp, by simp, ownR_nil 3 .i64 _ w2, ownR_nil 3 .i64 _ w2, (fun x y h => by cases h), P2, Nat.le_refl _, b2⟩
    case round =>
      obtain ⟨j, t, T1, T2, n1, n2, n3, aa, na, ca, az, nz, cz, LA, LZ, hj, rfl, rfl, rfl, rfl, t0, t1, n10, n11, n20, n21, n30, n31, hna, hnz, hWI, hLA, hLZ, oA, oZ, hap, hP, hsz, hB⟩ := hrel
      by_cases hlt : j < len
      · obtain ⟨b', off, q, low, rfl, hb', hx, q0, q2, g1, g2⟩ := (G1.below hB B1.size).at hlt
        have t2 : t ≤ 1288490188800 := by omega
        have t3 : t + q ≤ 1288490188800 := by omega
        have HC := fun w' hp => pv_take _ (kOf_tz k p e w b) A al T1 T2 j n1 n2 n3 (t + q) (clN low) w' hp (by omega) (by omega) (by omega) (by omega)
        have hstep := hWI.step HF.out (low := low) (t := t + q) (by omega) t3 (v := vN (kOf k p e w b) al T1 T2 (t + q) (clN low)) (by rw [hkl.out])
        have hcs := vN_cases3 (kOf k p e w b) al T1 T2 (t + q) (clN low)
        obtain ⟨v, hv⟩ : ∃ v, vN (kOf k p e w b) al T1 T2 (t + q) (clN low) = v := ⟨_, rfl⟩
        rw [hv] at HC hstep hcs
        have d1 := cnt_bound (v := v) (i := 1) n10 n11
        have d2 := cnt_bound (v := v) (i := 2) n20 n21
        have d3 := cnt_bound (v := v) (i := 3) n30 n31
        have HD : Hid ((0 ≤ cnt v 1 n1 ∧ cnt v 1 n1 ≤ (j : Int) + 1) ∧ (0 ≤ cnt v 2 n2 ∧ cnt v 2 n2 ≤ (j : Int) + 1) ∧ (0 ≤ cnt v 3 n3 ∧ cnt v 3 n3 ≤ (j : Int) + 1)) := ⟨d1, d2, d3⟩
        have HCH : Hid (∀ w', _ → _) := HC
        have HST : Hid (_ ∧ _) := hstep
        have HB : Hid (Below w1.heap.size w1 wr) := hB
        have hsb := hB.size
        have HT : Hid (t + q ≤ 4294967296 * ((j : Int) + 1)) := by show _ ≤ _; omega
        have HLA : Hid (∀ x ∈ LA, 0 ≤ x ∧ x ≤ 1288490188800) := hLA
        have HLZ : Hid (∀ x ∈ LZ, 0 ≤ x ∧ x ≤ 1288490188800) := hLZ
        have HLA' : Hid (∀ x ∈ LA ++ [t + q], 0 ≤ x ∧ x ≤ 1288490188800) := by intro y hy; rcases List.mem_append.1 hy with h | h; exact hLA y h; (rw [List.mem_singleton.1 h]; exact ⟨by omega, t3⟩)
        have HLZ' : Hid (∀ x ∈ LZ ++ [t + q], 0 ≤ x ∧ x ≤ 1288490188800) := by intro y hy; rcases List.mem_append.1 hy with h | h; exact hLZ y h; (rw [List.mem_singleton.1 h]; exact ⟨by omega, t3⟩)
        have gx : ∀ w', Below w1.heap.size w1 w' → w'.cell? ⟨b', off + j * 2, none⟩ = some (.int .u32 q) ∧ w'.cell? ⟨b', off + j * 2 + 1, none⟩ = some (.bool low) := fun w' hb => by
          obtain ⟨b2, off2, q', low', e1, _, hx2, _, _, g1', g2'⟩ := (G1.below hb B1.size).at hlt
          cases e1
          rw [hx] at hx2
          cases hx2
          exact ⟨g1', g2'⟩
        have HG : Hid (∀ w', Below w1.heap.size w1 w' → w'.cell? ⟨b', off + j * 2, none⟩ = some (.int .u32 q) ∧ w'.cell? ⟨b', off + j * 2 + 1, none⟩ = some (.bool low)) := gx
        clear hx hv hB t1 G1 C1 H HC d1 d2 d3 hstep HF hLA hLZ hWI gx
        rcases hcs with rfl | rfl | rfl
        · cases low with
          | false =>
            go_wp2_with fail
            refine (clp_calls q _ _).mono ?_
            rintro x w3 ⟨rfl, b3⟩
            go_wp2_with fail
            refine (HCH.out _ (hP.below b3 (Nat.le_refl _))).mono ?_
            rintro x w5 ⟨rfl, P5, b4⟩
            have B3 := HB.out.trans (b3.mono hsb)
            have B5 := B3.trans (b4.below B3.size hall)
            have oA5 := (oA.below b3 (Nat.le_refl _)).buts b4 (Nat.le_refl _) hhi
            have oZ5 := (oZ.below b3 (Nat.le_refl _)).buts b4 (Nat.le_refl _) hhi
            have s5 : w2.heap.size ≤ w5.heap.size := Nat.le_trans (Nat.le_trans hsz b3.size) b4.size
            obtain ⟨g1', g2'⟩ := HG.out w5 B5
            clear oA oZ hP b3 b4 B3 g1 g2
            obtain ⟨gA, cA, w6, hapA, oA6, oZ6, hap6, b6⟩ := app_step w5 s5 oA5 oZ5 hap (by omega) (t + q)
            have s6 := b6.size
            have B6 := B5.trans (b6.mono s2)
            obtain ⟨g1, g2⟩ := HG.out w6 B6
            have P6 := P5.below' hhi hgl b6
            have s6' : w2.heap.size ≤ w6.heap.size := Nat.le_trans s5 s6
            obtain ⟨gZ, cZ, w7, hapZ, oZ7, oA7, hap7, b7⟩ := app_step w6 s6' oZ6 oA6 hap6.symm (by omega) (t + q)
            have B7 := B6.trans (b7.mono s2)
            have P7 := P6.below' hhi hgl b7
            clear oA5 oZ5
            go_wp2_with (at_builtin; first | refine wpList_app hapA _ _ rfl rfl rfl rfl rfl ?_ | refine wpList_app hapZ _ _ rfl rfl rfl rfl rfl ?_)
            go_roundw
            case rel => exact ⟨j + 1, t + q, _, _, _, _, _, _, na + 1, cA, _, nz + 1, cZ, _, _, by omega, by go_num, rfl, rfl, rfl, by omega, by have := HT.out; omega, HD.out.1.1, HD.out.1.2, HD.out.2.1.1, HD.out.2.1.2, HD.out.2.2.1, HD.out.2.2.2, by omega, by omega, HST.out.2.2.2 (by first | rfl | trivial) (by first | rfl | trivial), HLA'.out, HLZ'.out, oA7, oZ7, hap7.symm, P7, Nat.le_trans s6' b7.size, B7⟩
            case measure => simp [intOf]; omega
          | true =>
            go_wp2_with fail
            refine (clp_calls q _ _).mono ?_
            rintro x w3 ⟨rfl, b3⟩
            go_wp2_with fail
            refine (HCH.out _ (hP.below b3 (Nat.le_refl _))).mono ?_
            rintro x w5 ⟨rfl, P5, b4⟩
            have B3 := HB.out.trans (b3.mono hsb)
            have B5 := B3.trans (b4.below B3.size hall)
            have oA5 := (oA.below b3 (Nat.le_refl _)).buts b4 (Nat.le_refl _) hhi
            have oZ5 := (oZ.below b3 (Nat.le_refl _)).buts b4 (Nat.le_refl _) hhi
            have s5 : w2.heap.size ≤ w5.heap.size := Nat.le_trans (Nat.le_trans hsz b3.size) b4.size
            obtain ⟨g1', g2'⟩ := HG.out w5 B5
            clear oA oZ hP b3 b4 B3 g1 g2
            obtain ⟨gA, cA, w6, hapA, oA6, oZ6, hap6, b6⟩ := app_step w5 s5 oA5 oZ5 hap (by omega) (t + q)
            have s6 := b6.size
            have B6 := B5.trans (b6.mono s2)
            obtain ⟨g1, g2⟩ := HG.out w6 B6
            have P6 := P5.below' hhi hgl b6
            clear oA5 oZ5
            go_wp2_with (at_builtin; refine wpList_app hapA _ _ rfl rfl rfl rfl rfl ?_)
            go_roundw
            case rel => exact ⟨j + 1, t + q, _, _, _, _, _, _, na + 1, cA, _, nz, cz, _, _, by omega, by go_num, rfl, rfl, rfl, by omega, by have := HT.out; omega, HD.out.1.1, HD.out.1.2, HD.out.2.1.1, HD.out.2.1.2, HD.out.2.2.1, HD.out.2.2.2, by omega, by omega, HST.out.2.2.1 (by first | rfl | trivial) (by first | rfl | trivial), HLA'.out, HLZ.out, oA6, oZ6, hap6, P6, Nat.le_trans s5 s6, B6⟩
            case measure => simp [intOf]; omega
        · go_wp2_with fail
          refine (clp_calls q _ _).mono ?_
          rintro x w3 ⟨rfl, b3⟩
          go_wp2_with fail
          refine (HCH.out _ (hP.below b3 (Nat.le_refl _))).mono ?_
          rintro x w5 ⟨rfl, P5, b4⟩
          have B3 := HB.out.trans (b3.mono hsb)
          have B5 := B3.trans (b4.below B3.size hall)
          have oA5 := (oA.below b3 (Nat.le_refl _)).buts b4 (Nat.le_refl _) hhi
          have oZ5 := (oZ.below b3 (Nat.le_refl _)).buts b4 (Nat.le_refl _) hhi
          have s5 : w2.heap.size ≤ w5.heap.size := Nat.le_trans (Nat.le_trans hsz b3.size) b4.size
          obtain ⟨g1', g2'⟩ := HG.out w5 B5
          clear oA oZ hP b3 b4 B3 g1 g2
          obtain ⟨gA, cA, w6, hapA, oA6, oZ6, hap6, b6⟩ := app_step w5 s5 oA5 oZ5 hap (by omega) (t + q)
          have s6 := b6.size
          have B6 := B5.trans (b6.mono s2)
          have P6 := P5.below' hhi hgl b6
          clear oA5 oZ5
          go_wp2_with (at_builtin; refine wpList_app hapA _ _ rfl rfl rfl rfl rfl ?_)
          go_roundw
          case rel => exact ⟨j + 1, t + q, _, _, _, _, _, _, na + 1, cA, _, nz, cz, _, _, by omega, by go_num, rfl, rfl, rfl, by omega, by have := HT.out; omega, HD.out.1.1, HD.out.1.2, HD.out.2.1.1, HD.out.2.1.2, HD.out.2.2.1, HD.out.2.2.2, by omega, by omega, HST.out.2.1 (by first | rfl | trivial), HLA'.out, HLZ.out, oA6, oZ6, hap6, P6, Nat.le_trans s5 s6, B6⟩
          case measure => simp [intOf]; omega
        · go_wp2_with fail
          refine (clp_calls q _ _).mono ?_
          rintro x w3 ⟨rfl, b3⟩
          go_wp2_with fail
          refine (HCH.out _ (hP.below b3 (Nat.le_refl _))).mono ?_
          rintro x w5 ⟨rfl, P5, b4⟩
          have B3 := HB.out.trans (b3.mono hsb)
          have B5 := B3.trans (b4.below B3.size hall)
          have oA5 := (oA.below b3 (Nat.le_refl _)).buts b4 (Nat.le_refl _) hhi
          have oZ5 := (oZ.below b3 (Nat.le_refl _)).buts b4 (Nat.le_refl _) hhi
          have s5 : w2.heap.size ≤ w5.heap.size := Nat.le_trans (Nat.le_trans hsz b3.size) b4.size
          obtain ⟨g1', g2'⟩ := HG.out w5 B5
          clear oA oZ hP b3 b4 B3 g1 g2
          go_wp2
          go_roundw
          case rel => exact ⟨j + 1, t + q, _, _, _, _, _, aa, na, ca, az, nz, cz, LA, LZ, by omega, by go_num, rfl, rfl, rfl, by omega, by have := HT.out; omega, HD.out.1.1, HD.out.1.2, HD.out.2.1.1, HD.out.2.1.2, HD.out.2.2.1, HD.out.2.2.2, by omega, by omega, HST.out.1 (by first | rfl | trivial), HLA.out, HLZ.out, oA5, oZ5, hap, P5, s5, B5⟩
          case measure => simp [intOf]; omega
      · obtain rfl : j = len := by omega
        obtain ⟨c0, c1, c2, c3, c4, c5⟩ := (C1.below hB r1).facts
        have F := HF.out
        have lA : LA.length ≤ 300 := by have := oA.1; omega
        have lZ : LZ.length ≤ 300 := by have := oZ.1; omega
        have hw1 := fun w' (o : OwnR 3 .i64 w2.heap.size w' aa na ca LA) => win_calls F.p0 F.p1 F.e0 (Int.le_trans F.e1 (by decide)) hWI.w1 hLA lA o
        have HW1 : Hid (∀ w', _ → _) := hw1
        have HWI : Hid (WI k p e w b T1 T2 LA LZ) := hWI
        have HLA : Hid (∀ x ∈ LA, 0 ≤ x ∧ x ≤ 1288490188800) := hLA
        have HLZ : Hid (∀ x ∈ LZ, 0 ≤ x ∧ x ≤ 1288490188800) := hLZ
        have hCC := C1.below hB r1
        have hbe : 0 ≤ b ∧ b ≤ 1099511627776 := ⟨F.b0, F.b1⟩
        have hee : 0 ≤ e ∧ e ≤ 1099511627776 := ⟨F.e0, F.e1⟩
        obtain ⟨hb0, hb1⟩ := hbe
        obtain ⟨he0, he1⟩ := hee
        clear F hw1 hWI hLA hLZ t1 C1
        go_wp2_with fail
        refine (HW1.out _ oA).mono ?_
        rintro x w5 ⟨rfl, b5⟩
        have B5 := hB.trans (b5.mono hB.size)
        have oA5 := oA.below b5 (Nat.le_refl _)
        have oZ5 := oZ.below b5 (Nat.le_refl _)
        have hCC5 := hCC.below b5 hCC.lt
        clear c0 c1 c2 c3 c4 c5
        obtain ⟨c0, c1, c2, c3, c4, c5⟩ := hCC5.facts
        have hk : k = 2 ∨ k = 3 ∨ k = 4 ∨ ((k == 2) = false ∧ (k == 3) = false ∧ (k == 4) = false) := by simp; omega
        rcases hk with rfl | rfl | rfl | ⟨hk2, hk3, hk4⟩
        · have hwp : 1 ≤ w := Int.le_trans HF.out.p0 (HF.out.wp rfl)
          have hw1 : w ≤ 1099511627776 := HF.out.w1
          go_wp2_with fail
          refine (win_calls hwp hw1 (by omega) (by omega) (HWI.out.w2 rfl) HLA.out lA oA5).mono ?_
          rintro x w6 ⟨rfl, b6⟩
          go_wp2
          go_ret
          exact ⟨rfl, B1.trans ((B5.trans (b6.mono B5.size)).mono B1.size)⟩
        · have hwp : 1 ≤ w := Int.le_trans HF.out.p0 (HF.out.wp rfl)
          have hw1 : w ≤ 1099511627776 := HF.out.w1
          go_wp2_with fail
          refine (win_calls hwp hw1 (by omega) (by omega) (HWI.out.w3 (.inl rfl)) HLZ.out lZ oZ5).mono ?_
          rintro x w6 ⟨rfl, b6⟩
          go_wp2
          go_ret
          exact ⟨rfl, B1.trans ((B5.trans (b6.mono B5.size)).mono B1.size)⟩
        · have hwp : 1 ≤ w := Int.le_trans HF.out.p0 (HF.out.wp rfl)
          have hw1 : w ≤ 1099511627776 := HF.out.w1
          go_wp2_with fail
          refine (win_calls hwp hw1 (by omega) (by omega) (HWI.out.w3 (.inr rfl)) HLZ.out lZ oZ5).mono ?_
          rintro x w6 ⟨rfl, b6⟩
          go_wp2
          go_ret
          exact ⟨rfl, B1.trans ((B5.trans (b6.mono B5.size)).mono B1.size)⟩
        · go_wp2
          go_ret
          exact ⟨rfl, B1.trans (B5.mono B1.size)⟩
end Go.Proofs.Ytlaomjhibaoglaa
