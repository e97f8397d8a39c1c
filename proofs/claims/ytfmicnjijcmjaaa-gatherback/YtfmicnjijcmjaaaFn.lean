/- Proved here: what gather's finish and Take answer, and what they leave. Conditions: as each theorem states them. -/
import Derived.Test.YtfmicnjijcmjaaaAd
namespace Go.Proofs.Ytfmicnjijcmjaaa
set_option linter.unusedSimpArgs false
set_option linter.unusedVariables false
open Go.RowKit

/-- What is answered of a text, a mark and an error. -/
def Ans (u : List UInt8 × UInt8 × Nat) (base : Nat) (e : Ending) (w' : World) : Prop :=
  ∃ a' c', e = .returned (.tuple #[.slice a' u.1.length c', .int .u8 (u.2.1.toNat : Int), .int .i64 (u.2.2 : Nat)]) ∧ OwnB base w' a' u.1.length c' u.1
theorem ans_none (k base : Nat) (w : World) : Ans ([], 0, k) base (.returned (.tuple #[.slice none 0 0, .int .u8 0, .int .i64 (k : Nat)])) w := ⟨none, 0, rfl, ownB_nil _ _⟩

set_option maxHeartbeats 1000000 in
theorem fin_calls {w : World} {F : Nat → Prop} {r : Nat} {S : Ga} (h : GX w F r S) (hl : S.l ≤ 1000000) :
    Calls Try.prog 26 #[.pointer (some ⟨r, 0, none⟩)] w fun e w' => Ans (unpackN S.xs) w.heap.size e w' ∧ GX w' F r S.fin ∧ Ft F F w w' := by
  have hrl := h.lt r h.hr
  have hok : S.fin.Ok := ⟨by simp [Ga.fin], by simp [Ga.fin], h.ok.f0, h.ok.f1⟩
  have HOK : Hid (S.fin.Ok) := hok
  have HG : GX w F r S := h
  obtain ⟨⟨a, n, c, hb, hc, hy⟩, h1, h2, h3⟩ := h
  have hn : n ≤ 1008 := by rw [hc.1]; exact h3.len
  have c1 := hb.cell 1 _ rfl
  have HU := unpack_calls a n c S.xs w hc.isB.1 (Nat.le_refl _) hc.isB.2.2 (by omega)
  obtain ⟨u, hu⟩ : ∃ u, unpackN S.xs = u := ⟨_, rfl⟩
  have HE : Hid (S.fin = { S with xs := [], l := S.l + (if u.2.2 = 0 then 0 else 1) }) := by show _ = _; unfold Ga.fin; rw [hu]
  have hU' : Hid (unpackN S.xs = u) := hu
  clear hu hok
  go_enter Try.func26, Try.ntmps26
  go_wp2_with fail
  refine HU.mono ?_
  rintro e w1 ⟨a1, c1', rfl, o1, b1⟩
  rw [hU'.out] at o1 ⊢
  obtain ⟨t, m, k⟩ := u
  have hb1 := hb.below b1 hrl
  have F1 : Ft F F w w1 := Ft.of b1 (Nat.le_refl _)
  have s1 := b1.size
  have ha1 : ∀ y, a1 = some y → y.block ≠ r := fun y e => by
    have := (o1.lt y.block (by rw [e]; rfl)).1
    omega
  clear HU b1 hb c1 hc hy
  dsimp only at o1 ⊢
  by_cases hk : k = 0
  · subst hk
    have f1 := hb1.frozen 1
    have d1 := hb1.cell 1 _ rfl
    have hb2 := hb1.set 1 (.slice none 0 0)
    have HO2 : Hid (OwnB w.heap.size (w1.setCell ⟨r, 1, none⟩ (.slice none 0 0)) a1 t.length c1' t) := ownB_keep o1 (fun y e => Below.heap_setCell _ _ _ _ (ha1 y e))
    go_wp2
    go_ret3
    rw [HE.out] at HOK ⊢
    rw [hU'.out]
    refine ⟨⟨a1, c1', rfl, HO2.out⟩, ⟨⟨none, 0, 0, ?_, ownB_nil _ _, fun y e => by cases e⟩, h1, fun k hk => ?_, HOK.out⟩, F1.trans (Ft.set _ h1 _)⟩
    · simpa using hb2
    · have := h2 k hk; simp [World.setCell]; omega
  · have f3 := hb1.frozen 3
    have d3 := hb1.cell 3 _ rfl
    have hb2 := hb1.set 3 (.int .i64 ((S.l : Int) + 1))
    have f1 := hb2.frozen 1
    have d1 := hb2.cell 1 _ rfl
    have hb3 := hb2.set 1 (.slice none 0 0)
    have q1 : (((k : Nat) : Int) != 0) = true := by rw [bne_iff_ne]; omega
    have HO2 : Hid (OwnB w.heap.size ((w1.setCell ⟨r, 3, none⟩ (.int .i64 ((S.l : Int) + 1))).setCell ⟨r, 1, none⟩ (.slice none 0 0)) a1 t.length c1' t) := ownB_keep (ownB_keep o1 (fun y e => Below.heap_setCell _ _ _ _ (ha1 y e))) (fun y e => Below.heap_setCell _ _ _ _ (ha1 y e))
    have HK : Hid (¬ k = 0) := hk
    clear hk
    go_wp2
    go_ret3
    rw [HE.out] at HOK ⊢
    rw [hU'.out]
    refine ⟨⟨a1, c1', rfl, HO2.out⟩, ⟨⟨none, 0, 0, ?_, ownB_nil _ _, fun y e => by cases e⟩, h1, fun k hk => ?_, HOK.out⟩, (F1.trans (Ft.set _ h1 _)).trans (Ft.set _ h1 _)⟩
    · show BK _ r #[.int .i64 S.w, .slice none 0 0, .int .i64 S.f, .int .i64 ((S.l + (if k = 0 then 0 else 1) : Nat) : Int), .bool S.k] _
      rw [if_neg HK.out, Int.natCast_add]
      simpa using hb3
    · have := h2 k hk; simp [World.setCell]; omega

/-- A gatherer whose parts are no more than may wait. -/
structure GV (w : World) (F : Nat → Prop) (r : Nat) (S : Ga) : Prop where
  x : GX w F r S
  fit : S.xs.length ≤ 960
theorem GV.frame {F F' G : Nat → Prop} {w w' : World} {r : Nat} {S : Ga} (h : GV w G r S) (k : Ft F F' w w') (hs : ∀ k, F k → ¬ G k) : GV w' G r S := ⟨h.x.frame k hs, h.fit⟩
theorem GV.below {G : Nat → Prop} {w w' : World} {r : Nat} {S : Ga} (h : GV w G r S) {m : Nat} (hb : Below m w w') (hm : w.heap.size ≤ m) : GV w' G r S := ⟨h.x.below hb hm, h.fit⟩
theorem gnew_calls (wt : Int) (w : World) : Calls Try.prog 10 #[.int .i64 wt] w fun e w' => e = .returned (.pointer (some ⟨w.heap.size, 0, none⟩)) ∧ GV w' (fun k => k = w.heap.size) w.heap.size (Ga.mk0 wt) ∧ Below w.heap.size w w' := by
  refine (new_calls wt w).mono ?_
  rintro e w' ⟨rfl, h, b⟩
  exact ⟨rfl, ⟨h, by simp [Ga.mk0]⟩, b⟩
theorem gtick_calls {w : World} {F : Nat → Prop} {r : Nat} {S : Ga} (h : GV w F r S) (hl : S.l ≤ 1000000) (t : Int) (t0 : -9223372036854775808 ≤ t) (t1 : t ≤ 9223372036854775807) :
    Calls Try.prog 13 #[.pointer (some ⟨r, 0, none⟩), .int .i64 t] w fun e w' => e = .returned (.bool (S.late t)) ∧ GV w' F r (S.tick t) ∧ Ft F F w w' := by
  refine (tick_calls h.x hl t t0 t1).mono ?_
  rintro e w' ⟨rfl, h', b⟩
  exact ⟨rfl, ⟨h', Ga.tick_fit h.fit t⟩, b⟩
/-- What Take answers and leaves. -/
def TkAns (S : Ga) (t : Int) (ps : List UInt8) (last : Bool) (F : Nat → Prop) (r : Nat) (w : World) (e : Ending) (w' : World) : Prop :=
  Ans (S.take t ps last).2 w.heap.size e w' ∧ ∃ F', GV w' F' r (S.take t ps last).1 ∧ Ft F F' w w'
theorem ans_mono {u : List UInt8 × UInt8 × Nat} {base base' : Nat} {e : Ending} {w : World} (h : Ans u base e w) (hb : base' ≤ base) : Ans u base' e w := by
  obtain ⟨a, c, he, o⟩ := h
  exact ⟨a, c, he, o.mono hb⟩

set_option maxHeartbeats 2000000 in
theorem gtake_calls {w : World} {F : Nat → Prop} {r : Nat} {S : Ga} (h : GV w F r S) (hl : S.l ≤ 900000) (t : Int) (t0 : -9223372036854775808 ≤ t) (t1 : t ≤ 9223372036854775807) (ps : List UInt8) (hp : ps.length = 48) (last : Bool) :
    Calls Try.prog 15 #[.pointer (some ⟨r, 0, none⟩), .int .i64 t, .agg (payV ps), .bool last] w (TkAns S t ps last F r w) := by
  have hwx := h.x.ok
  have HOK : Hid ((S.take t ps last).1.Ok ∧ (S.take t ps last).1.xs.length ≤ 960) := ⟨hwx.take h.fit t ps last hp t0 t1, Ga.take_fit hwx h.fit t ps last hp⟩
  have HL : Hid (ps.length = 48) := hp
  have A1 : Below w.heap.size w (w.alloc (.cells (payV ps) 28)) := (Below.refl _ w).alloc (Nat.le_refl _) _
  have h' := h.below A1 (Nat.le_refl _)
  have P1 := bk_new w (payV ps) 28
  have HF1 : Hid (Ft F F w (w.alloc (.cells (payV ps) 28))) := Ft.of A1 (Nat.le_refl _)
  obtain ⟨W1, hW1⟩ : ∃ W1, w.alloc (.cells (payV ps) 28) = W1 := ⟨_, rfl⟩
  rw [hW1] at h' P1 HF1
  have z1 : W1.heap.size = w.heap.size + 1 := by rw [← hW1]; simp
  have hpF : ¬ F w.heap.size := fun e => by have := h.x.lt _ e; omega
  have hok2 := hwx.tick t
  have hfit2 := Ga.tick_fit h.fit t
  have hl2 := S.tick_l t
  have HTK : Hid (S.take t ps last = (S.tick t).take0 t ps last) := rfl
  obtain ⟨S2, hS2⟩ : ∃ S2, S.tick t = S2 := ⟨_, rfl⟩
  have HT := gtick_calls h' (by omega) t t0 t1
  rw [hS2] at hok2 hfit2 hl2 HTK HT
  clear hwx h A1 hS2
  go_enter Try.func15, Try.ntmps15
  go_wp2_with (first | (with_reducible show wpList _ _ _ (Oper.mk _ (Op.box 28 _) _ _ _ _ :: _) _ _; refine wpList_box rfl rfl rfl ?_; (try simp only [Act.put, List.setIfInBounds_toArray, List.set_cons_zero, List.set_cons_succ, World.size_alloc])) | fail)
  refine HT.mono ?_
  rintro e w2 ⟨rfl, h2, k2⟩
  have P2 := P1.ft k2 hpF
  have HF2 : Hid (Ft F F w w2) := HF1.out.trans k2
  have s2 := k2.size
  clear HT h' P1 HF1 k2 hW1
  have H2 : Hid (GV w2 F r S2) := h2
  obtain ⟨⟨a, n, c, hb, hc, hy⟩, h1, hlt, h3⟩ := h2.x
  have c4 := hb.cell 4 _ rfl
  have f4 := hb.frozen 4
  obtain ⟨b, hbk⟩ : ∃ b, S2.k = b := ⟨_, rfl⟩
  have c4' : w2.cell? ⟨r, 4, none⟩ = some (.bool b) := by rw [← hbk]; exact c4
  clear c4
  cases b with
  | true =>
    have HT2 : Hid (S.take t ps last = ({ S2 with k := !last }, ([], 0, 2))) := by show _ = _; rw [HTK.out, Ga.take0_two _ _ _ hbk]
    have hb2 := hb.set 4 (.bool (!last))
    have HO2 : Hid (OwnB 0 (w2.setCell ⟨r, 4, none⟩ (.bool (!last))) a n c S2.xs) := ownB_keep hc (fun y e => Below.heap_setCell _ _ _ _ (hy y e).2)
    clear hb hc hbk HTK
    go_wp2
    go_ret3
    unfold TkAns
    rw [HT2.out] at HOK ⊢
    refine ⟨ans_none 2 _ _, F, ⟨⟨⟨a, n, c, ?_, HO2.out, hy⟩, h1, fun k hk => ?_, HOK.out.1⟩, HOK.out.2⟩, HF2.out.trans (Ft.set _ h1 _)⟩
    · simpa using hb2
    · have := hlt k hk; simp [World.setCell]; omega
  | false =>
    have HAD := add_calls h2.x h2.fit t t0 t1 ps hp
    have z2 := s2
    clear hb hc f4 hy
    go_wp2_with (first | (with_reducible show wpList _ _ _ (Oper.mk _ (Op.load 28 _) _ _ _ _ :: _) _ _; refine wpList_ld rfl rfl rfl (run_ld24 _ _ _ _ (by assumption) HL.out) ?_; (try simp only [Act.put, List.setIfInBounds_toArray, List.set_cons_zero, List.set_cons_succ, World.size_alloc])) | fail)
    refine HAD.mono ?_
    rintro e w3 ⟨rfl, F3, h4, k3⟩
    have HF3 : Hid (Ft F F3 w w3) := HF2.out.trans k3
    have hl3 : (S2.add t ps).l ≤ 1000000 := by show S2.l ≤ _; omega
    have s3 := k3.size
    have hsz : w.heap.size ≤ w3.heap.size := by omega
    clear HAD c4' k3 P2 HF2
    cases last with
    | true =>
      have HT2 : Hid (S.take t ps true = ((S2.add t ps).fin, unpackN (S2.xs ++ ps))) := by show _ = _; rw [HTK.out, Ga.take0_last _ _ _ hbk]
      go_wp2_with fail
      refine (fin_calls h4 hl3).mono ?_
      rintro e w4 ⟨⟨a4, c4, rfl, o4⟩, h5, k5⟩
      have HO : Hid (OwnB w3.heap.size w4 a4 (unpackN (S2.add t ps).xs).1.length c4 (unpackN (S2.add t ps).xs).1) := o4
      clear o4
      go_wp2
      go_ret3
      unfold TkAns
      rw [HT2.out] at HOK ⊢
      exact ⟨⟨a4, c4, rfl, HO.out.mono hsz⟩, F3, ⟨h5, HOK.out.2⟩, HF3.out.trans k5⟩
    | false =>
      have HP := parts_calls h4
      have HM := many_calls 1000 (by decide) w3
      rw [show ((manyN 1000 : Nat) : Int) = 21 from rfl] at HM
      have hxl : (S2.add t ps).xs.length = S2.xs.length + 48 := by show (S2.xs ++ ps).length = _; rw [List.length_append, hp]
      rw [hxl] at HP
      have hdv := hok2.div
      by_cases hm : S2.xs.length + 48 = 1008
      · have HT2 : Hid (S.take t ps false = ({ (S2.add t ps).lose with k := true }, ([], 0, 6))) := by show _ = _; rw [HTK.out, Ga.take0_long _ _ _ hbk (by rw [hp]; exact hm)]
        rw [hm, show ((1008 / 48 : Nat) : Int) = 21 from rfl] at HP
        clear hm hdv hxl hbk HTK
        go_wp2_with fail
        refine HP.mono ?_
        rintro e w4 ⟨rfl, e4⟩
        rw [e4]; clear e4
        go_wp2_with fail
        refine HM.mono ?_
        rintro e w5 ⟨rfl, e5⟩
        rw [e5]; clear e5
        go_wp2_with fail
        refine (lose_calls h4 hl3).mono ?_
        rintro e w6 ⟨rfl, h6, k6⟩
        obtain ⟨⟨a6, n6, c6, hb6, hc6, hy6⟩, g1, glt, g3⟩ := h6
        have c4 := hb6.cell 4 _ rfl
        have f4 := hb6.frozen 4
        have hb7 := hb6.set 4 (.bool true)
        have HO7 : Hid (OwnB 0 (w6.setCell ⟨r, 4, none⟩ (.bool true)) a6 n6 c6 (S2.add t ps).lose.xs) := ownB_keep hc6 (fun y e => Below.heap_setCell _ _ _ _ (hy6 y e).2)
        clear HP HM hb6 hc6
        go_wp2
        go_ret3
        unfold TkAns
        rw [HT2.out] at HOK ⊢
        refine ⟨ans_none 6 _ _, F3, ⟨⟨⟨a6, n6, c6, ?_, HO7.out, hy6⟩, g1, fun k hk => ?_, HOK.out.1⟩, HOK.out.2⟩, (HF3.out.trans k6).trans (Ft.set _ g1 _)⟩
        · simpa using hb7
        · have := glt k hk; simp [World.setCell]; omega
      · have HT2 : Hid (S.take t ps false = (S2.add t ps, ([], 0, 2))) := by show _ = _; rw [HTK.out, Ga.take0_more _ _ _ hbk (by rw [hp]; exact hm)]
        obtain ⟨p, hpp⟩ : ∃ p, (S2.xs.length + 48) / 48 = p := ⟨_, rfl⟩
        have q1 : ((p : Int) == 21) = false := beq_eq_false_iff_ne.2 (by omega)
        rw [hpp] at HP
        clear hm hdv hxl hbk HTK hpp
        go_wp2_with fail
        refine HP.mono ?_
        rintro e w4 ⟨rfl, e4⟩
        rw [e4]; clear e4
        go_wp2_with fail
        refine HM.mono ?_
        rintro e w5 ⟨rfl, e5⟩
        rw [e5]; clear e5
        go_wp2
        go_ret3
        unfold TkAns
        rw [HT2.out] at HOK ⊢
        exact ⟨ans_none 2 _ _, F3, ⟨h4, HOK.out.2⟩, HF3.out⟩
theorem IsB.other {F F' : Nat → Prop} {w w' : World} {n b off len : Nat} {xs : List UInt8} (h : IsB n w (some ⟨b, off, none⟩) len xs) (k : Ft F F' w w') (hb : ¬ F b) (hl : b < w.heap.size) : IsB n w' (some ⟨b, off, none⟩) len xs := by
  refine ⟨h.1, ?_⟩
  rcases h.2 with e | ⟨b', off', e, hn, hc⟩
  · exact .inl e
  · cases e
    exact .inr ⟨b, off, rfl, hn, fun j x hx => (World.cell?_of_block (a := ⟨b, off + j, none⟩) (k.block b hl hb)).trans (hc j x hx)⟩
end Go.Proofs.Ytfmicnjijcmjaaa
