/- Proved here: the walk of ShaperSame. Conditions: as each theorem states them. -/
import Derived.Test.YtcenipihbmifpaaAwk
namespace Go.Proofs.Ytcenipihbmifpaa
set_option linter.unusedSimpArgs false
set_option linter.unusedVariables false
open Go.RowKit Go.Shelf

/-- What is so of each of the three: its step is n, whatever of its changes comes up to MaxTime changes nothing of that; when no change was set there is none. -/
structure Like (n e T : Int) (z : Bool) (S : Sh) : Prop where
  s : S.s = n
  e : S.e = e
  T : S.T = T
  L : (∀ y ∈ S.L, y.1 = n) ∨ ∀ y ∈ S.L, 1152921504606846976 ≤ y.2
  z : z = true → S.L = []
theorem stN_like {n : Int} {L : List (Int × Int)} {t : Int} (ht : t < 1152921504606846976) (h : (∀ y ∈ L, y.1 = n) ∨ ∀ y ∈ L, 1152921504606846976 ≤ y.2) : stN n L t = n := by
  rcases h with h | h
  · exact stN_all (p := fun x => x = n) rfl h
  · unfold stN
    have : ∀ (L : List (Int × Int)) (q : Int × Int), (∀ y ∈ L, 1152921504606846976 ≤ y.2) → L.foldl (pickC t) q = q := by
      intro L
      induction L with
      | nil => intro q _; rfl
      | cons c L ih =>
        intro q hL
        rw [List.foldl_cons, show pickC t q c = q from if_pos (by have := hL c (by simp); omega)]
        exact ih q (fun y hy => hL y (by simp [hy]))
    rw [this L _ h]
theorem Like.come {n e T : Int} {z : Bool} {S : Sh} (h : Like n e T z S) {t : Int} (ht : t < 1152921504606846976) : Like n e T z (S.come t) :=
  ⟨by show stN S.s S.L t = n; rw [h.s]; exact stN_like ht h.L, h.e, h.T, h.L.imp (fun k y hy => k y (List.mem_filter.1 hy).1) (fun k y hy => k y (List.mem_filter.1 hy).1), fun hz => by show lfN S.L t = []; rw [h.z hz]; rfl⟩
theorem Like.fit {n e T : Int} {z : Bool} {S : Sh} (h : Like n e T z S) (t : Int) : S.fit t = decide (T - e ≤ t) := by unfold Sh.fit; rw [h.T, h.e]
/-- What the time becomes. -/
def nxt (n e T t : Int) : Int := if T - e ≤ t then max T t + n else T
theorem Like.take {n e T : Int} {z : Bool} {S : Sh} (h : Like n e T z S) {t : Int} (ht : t < 1152921504606846976) : Like n e (nxt n e T t) z (S.take t) := by
  have hc := h.come ht
  unfold Sh.take nxt
  rw [hc.fit]
  by_cases hf : T - e ≤ t
  · rw [if_pos (decide_eq_true hf), if_pos hf]
    exact ⟨hc.s, hc.e, by show max S.T t + (S.come t).s = _; rw [h.T, hc.s], hc.L, hc.z⟩
  · rw [if_neg (show ¬ decide (T - e ≤ t) = true by simpa using hf), if_neg hf]
    exact hc
theorem Like.set {n e T : Int} {S : Sh} (h : Like n e T true S) {t st : Int} (ht : t < 1152921504606846976) (t0 : 0 ≤ t) (hs : st = n ∨ (1152921504606846976 ≤ S.slow ∧ 1152921504606846976 ≤ S.quick)) : S.setE t = 0 ∧ Like n e T false (S.set t st) := by
  have hc := h.come ht
  have hL : (S.come t).L = [] := hc.z rfl
  have ⟨r1, r2⟩ := set_room (S := S) (t := t) (st := st) (by rw [hL]; decide)
  refine ⟨r2, ?_⟩
  rw [r1]
  refine ⟨hc.s, hc.e, hc.T, ?_, fun h => by cases h⟩
  show (∀ y ∈ (S.come t).L ++ [_], _) ∨ ∀ y ∈ (S.come t).L ++ [_], _
  rw [hL]
  rcases hs with rfl | ⟨h1, h2⟩
  · exact .inl (fun y hy => by rw [List.mem_singleton.1 hy]; rfl)
  · refine .inr (fun y hy => ?_)
    rw [List.mem_singleton.1 hy]
    show _ ≤ t + if _ then S.quick else S.slow
    split <;> omega
theorem Like.weak {n e T : Int} {z : Bool} {S : Sh} (h : Like n e T z S) {z' : Bool} (hz : z' = true → z = true) : Like n e T z' S := ⟨h.s, h.e, h.T, h.L, fun k => h.z (hz k)⟩
theorem like_new {n e wl q : Int} (n0 : 1 ≤ n) (n1 : n ≤ 65535) (e0 : 0 ≤ e) (e1 : e ≤ 65535) : Like n e 0 true (Sh.mk0 n e wl q) := ⟨hS_id n0 (by omega), hM_id e0 (by omega), rfl, .inl (fun y hy => by cases hy), fun _ => rfl⟩

theorem take_lags (S : Sh) (t : Int) : (S.take t).slow = S.slow ∧ (S.take t).quick = S.quick := by unfold Sh.take; split <;> exact ⟨rfl, rfl⟩
theorem set_lags (S : Sh) (t st : Int) : (S.set t st).slow = S.slow ∧ (S.set t st).quick = S.quick := by unfold Sh.set; split <;> exact ⟨rfl, rfl⟩

/-- Three shapers side by side, of blocks from n0 on. -/
structure Tri (n0 : Nat) (w : World) (ra rb rc : Nat) (n e Ta Tb Tc : Int) (zb zc : Bool) : Prop where
  ex : ∃ (Fa Fb Fc : Nat → Prop) (A B C : Sh), SV w Fa ra A ∧ SV w Fb rb B ∧ SV w Fc rc C ∧ Like n e Ta true A ∧ Like n e Tb zb B ∧ Like n e Tc zc C ∧ 1152921504606846976 ≤ C.slow ∧ 1152921504606846976 ≤ C.quick ∧
    (∀ k, Fa k → ¬ Fb k) ∧ (∀ k, Fa k → ¬ Fc k) ∧ (∀ k, Fb k → ¬ Fc k) ∧ (∀ k, Fa k → n0 ≤ k) ∧ (∀ k, Fb k → n0 ≤ k) ∧ (∀ k, Fc k → n0 ≤ k)
theorem SV.size {w : World} {F : Nat → Prop} {r : Nat} {S : Sh} (h : SV w F r S) {n : Nat} (hF : ∀ k, F k → n ≤ k) : n ≤ w.heap.size := by have := h.lt r h.hr; have := hF r h.hr; omega
theorem not_symm {F G : Nat → Prop} (h : ∀ k, F k → ¬ G k) : ∀ k, G k → ¬ F k := fun k hG hF => h k hF hG
theorem Tri.takeA {n0 : Nat} {w : World} {ra rb rc : Nat} {n e Ta Tb Tc : Int} {zb zc : Bool} (h : Tri n0 w ra rb rc n e Ta Tb Tc zb zc) (t : Int) (t0 : 0 ≤ t) (t1 : t < 1152921504606846976) : Calls Try.prog 14 #[.pointer (some ⟨ra, 0, none⟩), .int .i64 t] w fun y w' => y = .returned (.bool (decide (Ta - e ≤ t))) ∧ Tri n0 w' ra rb rc n e (nxt n e Ta t) Tb Tc zb zc ∧ Below n0 w w' := by
  obtain ⟨⟨Fa, Fb, Fc, A, B, C, a1, b1, c1, a2, b2, c2, c3, c4, s1, s2, s3, l1, l2, l3⟩⟩ := h
  refine (stake_calls a1 t).mono ?_
  rintro y w' ⟨rfl, h4, g4⟩
  rw [hM_id t0 (by omega)] at h4 ⊢
  exact ⟨by rw [a2.fit], ⟨Fa, Fb, Fc, _, B, C, h4, b1.frame g4 s1, c1.frame g4 s2, a2.take t1, b2, c2, c3, c4, s1, s2, s3, l1, l2, l3⟩, g4.below l1 (a1.size l1)⟩
theorem Tri.takeB {n0 : Nat} {w : World} {ra rb rc : Nat} {n e Ta Tb Tc : Int} {zb zc : Bool} (h : Tri n0 w ra rb rc n e Ta Tb Tc zb zc) (t : Int) (t0 : 0 ≤ t) (t1 : t < 1152921504606846976) : Calls Try.prog 14 #[.pointer (some ⟨rb, 0, none⟩), .int .i64 t] w fun y w' => y = .returned (.bool (decide (Tb - e ≤ t))) ∧ Tri n0 w' ra rb rc n e Ta (nxt n e Tb t) Tc zb zc ∧ Below n0 w w' := by
  obtain ⟨⟨Fa, Fb, Fc, A, B, C, a1, b1, c1, a2, b2, c2, c3, c4, s1, s2, s3, l1, l2, l3⟩⟩ := h
  refine (stake_calls b1 t).mono ?_
  rintro y w' ⟨rfl, h4, g4⟩
  rw [hM_id t0 (by omega)] at h4 ⊢
  exact ⟨by rw [b2.fit], ⟨Fa, Fb, Fc, A, _, C, a1.frame g4 (not_symm s1), h4, c1.frame g4 s3, a2, b2.take t1, c2, c3, c4, s1, s2, s3, l1, l2, l3⟩, g4.below l2 (b1.size l2)⟩
theorem Tri.takeC {n0 : Nat} {w : World} {ra rb rc : Nat} {n e Ta Tb Tc : Int} {zb zc : Bool} (h : Tri n0 w ra rb rc n e Ta Tb Tc zb zc) (t : Int) (t0 : 0 ≤ t) (t1 : t < 1152921504606846976) : Calls Try.prog 14 #[.pointer (some ⟨rc, 0, none⟩), .int .i64 t] w fun y w' => y = .returned (.bool (decide (Tc - e ≤ t))) ∧ Tri n0 w' ra rb rc n e Ta Tb (nxt n e Tc t) zb zc ∧ Below n0 w w' := by
  obtain ⟨⟨Fa, Fb, Fc, A, B, C, a1, b1, c1, a2, b2, c2, c3, c4, s1, s2, s3, l1, l2, l3⟩⟩ := h
  refine (stake_calls c1 t).mono ?_
  rintro y w' ⟨rfl, h4, g4⟩
  rw [hM_id t0 (by omega)] at h4 ⊢
  exact ⟨by rw [c2.fit], ⟨Fa, Fb, Fc, A, B, _, a1.frame g4 (not_symm s2), b1.frame g4 (not_symm s3), h4, a2, b2, c2.take t1, by rw [(take_lags C t).1]; exact c3, by rw [(take_lags C t).2]; exact c4, s1, s2, s3, l1, l2, l3⟩, g4.below l3 (c1.size l3)⟩
theorem Tri.setB {n0 : Nat} {w : World} {ra rb rc : Nat} {n e Ta Tb Tc : Int} {zc : Bool} (h : Tri n0 w ra rb rc n e Ta Tb Tc true zc) (t : Int) (t0 : 0 ≤ t) (t1 : t < 1152921504606846976) (n1 : 1 ≤ n) (n2 : n ≤ 65535) : Calls Try.prog 12 #[.pointer (some ⟨rb, 0, none⟩), .int .i64 t, .int .i64 n] w fun y w' => y = .returned (.int .i64 0) ∧ Tri n0 w' ra rb rc n e Ta Tb Tc false zc ∧ Below n0 w w' := by
  obtain ⟨⟨Fa, Fb, Fc, A, B, C, a1, b1, c1, a2, b2, c2, c3, c4, s1, s2, s3, l1, l2, l3⟩⟩ := h
  refine (sset_calls b1 t n).mono ?_
  rintro y w' ⟨rfl, Fb', h4, g4⟩
  rw [hM_id t0 (by omega), hS_id n1 (by omega)] at h4
  rw [hM_id t0 (by omega)]
  have ⟨e1, k1⟩ := b2.set (st := n) t1 t0 (.inl rfl)
  exact ⟨by rw [e1], ⟨Fa, Fb', Fc, A, _, C, a1.frame g4 (not_symm s1), h4, c1.frame g4 s3, a2, k1, c2, c3, c4, not_symm (g4.sep (not_symm s1) a1.lt), s2, g4.sep s3 c1.lt, l1, g4.from l2 (b1.size l2), l3⟩, g4.below l2 (b1.size l2)⟩
theorem Tri.setC {n0 : Nat} {w : World} {ra rb rc : Nat} {n e Ta Tb Tc : Int} {zb : Bool} (h : Tri n0 w ra rb rc n e Ta Tb Tc zb true) (t o : Int) (t0 : 0 ≤ t) (t1 : t < 1152921504606846976) : Calls Try.prog 12 #[.pointer (some ⟨rc, 0, none⟩), .int .i64 t, .int .i64 o] w fun y w' => y = .returned (.int .i64 0) ∧ Tri n0 w' ra rb rc n e Ta Tb Tc zb false ∧ Below n0 w w' := by
  obtain ⟨⟨Fa, Fb, Fc, A, B, C, a1, b1, c1, a2, b2, c2, c3, c4, s1, s2, s3, l1, l2, l3⟩⟩ := h
  refine (sset_calls c1 t o).mono ?_
  rintro y w' ⟨rfl, Fc', h4, g4⟩
  rw [hM_id t0 (by omega)] at h4 ⊢
  have ⟨e1, k1⟩ := c2.set (st := hS o) t1 t0 (.inr ⟨c3, c4⟩)
  exact ⟨by rw [e1], ⟨Fa, Fb, Fc', A, B, _, a1.frame g4 (not_symm s2), b1.frame g4 (not_symm s3), h4, a2, b2, k1, by rw [(set_lags C t (hS o)).1]; exact c3, by rw [(set_lags C t (hS o)).2]; exact c4, s1, not_symm (g4.sep (not_symm s2) a1.lt), not_symm (g4.sep (not_symm s3) b1.lt), l1, l2, g4.from l3 (c1.size l3)⟩, g4.below l3 (c1.size l3)⟩
theorem Tri.stepC {n0 : Nat} {w : World} {ra rb rc : Nat} {n e Ta Tb Tc : Int} {zb zc : Bool} (h : Tri n0 w ra rb rc n e Ta Tb Tc zb zc) (t : Int) (t0 : 0 ≤ t) (t1 : t < 1152921504606846976) : Calls Try.prog 18 #[.pointer (some ⟨rc, 0, none⟩), .int .i64 t] w fun y w' => y = .returned (.int .i64 n) ∧ Below n0 w w' := by
  obtain ⟨⟨Fa, Fb, Fc, A, B, C, a1, b1, c1, a2, b2, c2, c3, c4, s1, s2, s3, l1, l2, l3⟩⟩ := h
  refine (sstep_calls c1 t).mono ?_
  rintro y w' ⟨rfl, b4⟩
  exact ⟨sret_int (by rw [hM_id t0 (by omega), c2.s]; exact stN_like t1 c2.L), b4.mono (c1.size l3)⟩
theorem Tri.weak {n0 : Nat} {w : World} {ra rb rc : Nat} {n e Ta Tb Tc : Int} {zb zc zb' zc' : Bool} (h : Tri n0 w ra rb rc n e Ta Tb Tc zb zc) (hb : zb' = true → zb = true) (hc : zc' = true → zc = true) : Tri n0 w ra rb rc n e Ta Tb Tc zb' zc' := by
  obtain ⟨⟨Fa, Fb, Fc, A, B, C, a1, b1, c1, a2, b2, c2, c3, c4, q⟩⟩ := h
  exact ⟨⟨Fa, Fb, Fc, A, B, C, a1, b1, c1, a2, b2.weak hb, c2.weak hc, c3, c4, q⟩⟩

set_option maxHeartbeats 2000000 in
theorem same_walk (st e wl o : Int) (at_ : Nat) (s0 : 0 ≤ st) (s1 : st ≤ 65535) (e0 : 0 ≤ e) (e1 : e ≤ 65535) (w0 : 0 ≤ wl) (w1' : wl ≤ 65535) (o0 : 0 ≤ o) (o1 : o ≤ 65535) (ha : at_ ≤ 255) (a : Option Addr) (len cap : Nat) (zs : List Int) (w : World) (hL : IsR .u16 w.heap.size w a len zs) (hzb : ∀ z ∈ zs, 0 ≤ z ∧ z ≤ 65535) :
    Calls Try.prog 8 #[.int .u16 st, .int .u16 e, .int .u16 wl, .slice a len cap, .int .u8 at_, .int .u16 o] w fun e w' => e = .returned (.bool true) ∧ Below w.heap.size w w' := by
  by_cases hl1 : 200 < len
  · have q1 : decide (200 < (len : Int)) = true := by simp; omega
    clear hL
    go_enter Try.func8, Try.ntmps8
    go_wp2_with fail
    refine (awake_calls _).mono ?_
    rintro e w1 ⟨rfl, b1⟩
    go_wp2_with fail
    refine (awake_calls _).mono ?_
    rintro e w2 ⟨rfl, b2⟩
    go_wp2
    go_ret
    exact ⟨rfl, b1.trans (b2.mono b1.size)⟩
  · have q1 : decide (200 < (len : Int)) = false := by simp; omega
    have Hl : Hid (len = zs.length) := hL.1
    have HZ : Hid (∀ z ∈ zs, 0 ≤ z ∧ z ≤ 65535) := hzb
    obtain ⟨n, hn⟩ : ∃ n, (if 1 < st then st else 1) = n := ⟨_, rfl⟩
    have n0 : 1 ≤ n := by rw [← hn]; split <;> omega
    have n1 : n ≤ 65535 := by rw [← hn]; split <;> omega
    clear hzb
    go_enter Try.func8, Try.ntmps8
    go_wp2_with fail
    refine (awake_calls _).mono ?_
    rintro x w1 ⟨rfl, b1⟩
    go_wp2_with fail
    refine (snew_calls n e wl wl _).mono ?_
    rintro x w2 ⟨rfl, h2, b2⟩
    go_wp2_with fail
    refine (snew_calls n e wl wl _).mono ?_
    rintro x w3 ⟨rfl, h3, b3⟩
    go_wp2_with fail
    refine (snew_calls n e 1152921504606846976 1152921504606846976 _).mono ?_
    rintro x w4 ⟨rfl, h4, b4⟩
    have z1 := b1.size
    have z2 := b2.size
    have z3 := b3.size
    have lt2 := h2.lt _ rfl
    have lt3 := h3.lt _ rfl
    have I4 : Tri w.heap.size w4 w1.heap.size w2.heap.size w3.heap.size n e 0 0 0 (decide (0 ≤ at_)) (decide (0 ≤ at_)) :=
      ⟨⟨_, _, _, _, _, _, (h2.below b3 (Nat.le_refl _)).below b4 (Nat.le_refl _), h3.below b4 (Nat.le_refl _), h4, like_new n0 n1 e0 e1, (like_new n0 n1 e0 e1).weak (fun _ => rfl), (like_new n0 n1 e0 e1).weak (fun _ => rfl), Int.le_refl _, Int.le_refl _, fun k e => by omega, fun k e => by omega, fun k e => by omega, fun k e => by omega, fun k e => by omega, fun k e => by omega⟩⟩
    have B4 : Below w.heap.size w w4 := ((b1.trans (b2.mono z1)).trans (b3.mono (by omega))).trans (b4.mono (by omega))
    have hl200 : len ≤ 200 := by omega
    clear b1 b2 b3 b4 h2 h3 h4 z1 z2 z3 lt2 lt3 q1 hl1 hn
    generalize w1.heap.size = ra at *
    generalize w2.heap.size = rb at *
    generalize w3.heap.size = rc at *
    go_wp2
    go_loopw [17, 53] (fun tv iv wr => ∃ (i : Nat) (t T : Int), i ≤ len ∧ iv = .int .i64 i ∧ tv = .int .i64 t ∧ 0 ≤ t ∧ t ≤ i * 65535 ∧ Tri w.heap.size wr ra rb rc n e T T T (decide (i ≤ at_)) (decide (i ≤ at_)) ∧ Below w.heap.size w wr) (fun _ iv _ => len - (intOf iv).toNat)
    case atStart => exact ⟨0, 0, 0, Nat.zero_le _, rfl, rfl, Int.le_refl _, by decide, I4, B4⟩
    case round =>
      obtain ⟨i, t, T, hi, rfl, rfl, t0, t1, I5, B5⟩ := hrel
      clear I4 B4
      by_cases hlt : i < len
      · obtain ⟨x, hx⟩ : ∃ x, zs[i]? = some x := ⟨_, List.getElem?_eq_getElem (by have := Hl.out; omega)⟩
        have ⟨x0, x1⟩ := HZ.out x (List.mem_of_getElem? hx)
        obtain ⟨g, off, rfl, hg, hcx⟩ := hL.cell hx
        have c5 := (B5.cell (p := ⟨g, off + i, none⟩) hg).trans (hcx i x hx)
        obtain ⟨u, hu⟩ : ∃ u, t + x = u := ⟨_, rfl⟩
        have u0 : 0 ≤ u := by omega
        have u1 : u ≤ ((i + 1 : Nat) : Int) * 65535 := by omega
        have u2 : u < 1152921504606846976 := by omega
        clear hx hcx t0
        have fin : ∀ (wr' : World) (T : Int) (z z' : Bool), Tri w.heap.size wr' ra rb rc n e T T T z z' → True := fun _ _ _ _ _ => trivial
        clear fin
        by_cases hia : i = at_
        · subst hia
          have I5' : Tri w.heap.size wr ra rb rc n e T T T true true := by simpa using I5
          clear I5
          go_wp2_with fail
          refine (I5'.setB u u0 u2 n0 n1).mono ?_
          rintro y w6 ⟨rfl, I6, b6⟩
          have B6 := B5.trans b6
          clear I5' B5 b6
          go_wp2_with fail
          refine (I6.setC u o u0 u2).mono ?_
          rintro y w7 ⟨rfl, I7, b7⟩
          have B7 := B6.trans b7
          clear I6 B6 b7 c5
          obtain ⟨f, hf⟩ : ∃ f, decide (T - e ≤ u) = f := ⟨_, rfl⟩
          have HF : Hid (decide (T - e ≤ u) = f) := hf
          clear hf
          go_wp2_with fail
          refine (I7.takeA u u0 u2).mono ?_
          rintro y w8 ⟨rfl, I8, b8⟩
          have B8 := B7.trans b8
          rw [HF.out]
          clear I7 B7 b8
          go_wp2_with fail
          refine (I8.takeB u u0 u2).mono ?_
          rintro y w9 ⟨rfl, I9, b9⟩
          have B9 := B8.trans b9
          rw [HF.out]
          clear I8 B8 b9
          have hff : (f != f) = false := by simp
          go_wp2_with fail
          refine (I9.takeC u u0 u2).mono ?_
          rintro y w10 ⟨rfl, I10, b10⟩
          have B10 := B9.trans b10
          rw [HF.out]
          clear I9 B9 b10
          go_wp2
          go_roundw
          case rel => exact ⟨i + 1, u, nxt n e T u, by omega, by go_num, rfl, u0, u1, I10.weak (fun h => by have := of_decide_eq_true h; omega) (fun h => by have := of_decide_eq_true h; omega), B10⟩
          case measure => simp [intOf]; omega
        · have hne : ((i : Int) == (at_ : Int)) = false := beq_eq_false_iff_ne.2 (by omega)
          have HI : Hid (¬ i = at_) := hia
          clear hia
          obtain ⟨f, hf⟩ : ∃ f, decide (T - e ≤ u) = f := ⟨_, rfl⟩
          have HF : Hid (decide (T - e ≤ u) = f) := hf
          have hff : (f != f) = false := by simp
          clear hf
          go_wp2_with fail
          refine (I5.takeA u u0 u2).mono ?_
          rintro y w8 ⟨rfl, I8, b8⟩
          have B8 := B5.trans b8
          rw [HF.out]
          clear I5 B5 b8 c5
          go_wp2_with fail
          refine (I8.takeB u u0 u2).mono ?_
          rintro y w9 ⟨rfl, I9, b9⟩
          have B9 := B8.trans b9
          rw [HF.out]
          clear I8 B8 b9
          go_wp2_with fail
          refine (I9.takeC u u0 u2).mono ?_
          rintro y w10 ⟨rfl, I10, b10⟩
          have B10 := B9.trans b10
          rw [HF.out]
          clear I9 B9 b10
          go_wp2
          go_roundw
          case rel => exact ⟨i + 1, u, nxt n e T u, by omega, by go_num, rfl, u0, u1, I10.weak (fun h => by simp at h ⊢; omega) (fun h => by simp at h ⊢; omega), B10⟩
          case measure => simp [intOf]; omega
      · obtain rfl : i = len := by omega
        have t2 : t < 1152921504606846976 := by omega
        go_wp2_with fail
        refine (I5.stepC t t0 t2).mono ?_
        rintro y w6 ⟨rfl, b6⟩
        go_wp2
        go_ret
        exact ⟨rfl, B5.trans b6⟩
end Go.Proofs.Ytcenipihbmifpaa
