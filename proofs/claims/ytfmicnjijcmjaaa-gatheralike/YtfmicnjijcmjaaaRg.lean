/- Proved here: what the document's gatherer answers, and what it leaves. Conditions: as each theorem states them. -/
import Derived.BigQuiet
import Derived.Deep.QuietTactic
import Derived.Test.YtfmicnjijcmjaaaFn
import Derived.Test.YtfmicnjijcmjaaaRUp
namespace Go.Proofs.Ytfmicnjijcmjaaa
set_option linter.unusedSimpArgs false
set_option linter.unusedVariables false
open Go.RowKit

/-- The document's gatherer's cells. -/
abbrev rcells (S : Ga) (a : Option Addr) (n c : Nat) : Array Value := #[.int .i64 (waitN S.w), .int .i64 S.f, .int .i64 (S.l : Int), .slice a n c, .bool S.k]
/-- The document's gatherer in block r, of the blocks F. -/
structure RV (w : World) (F : Nat → Prop) (r : Nat) (S : Ga) : Prop where
  ex : ∃ a n c, BK w r (rcells S a n c) 41 ∧ OwnB 0 w a n c S.xs ∧ (∀ y, a = some y → F y.block ∧ y.block ≠ r)
  hr : F r
  lt : ∀ k, F k → k < w.heap.size
  ok : S.Ok
  fit : S.xs.length ≤ 960
  f0 : 0 ≤ S.f
  f1 : S.f ≤ 1152921504606846976
theorem RV.frame {F F' G : Nat → Prop} {w w' : World} {r : Nat} {S : Ga} (h : RV w G r S) (k : Ft F F' w w') (hs : ∀ k, F k → ¬ G k) : RV w' G r S := by
  obtain ⟨⟨a, n, c, hb, hc, hy⟩, h1, h2, h3, h4, h5, h6⟩ := h
  have key : ∀ j, G j → w'.heap[j]? = w.heap[j]? := fun j hj => k.block j (h2 j hj) (fun hF => hs j hF hj)
  exact ⟨⟨a, n, c, (key r h1).trans hb, ownB_keep hc (fun y e => key _ (hy y e).1), hy⟩, h1, fun j hj => Nat.lt_of_lt_of_le (h2 j hj) k.size, h3, h4, h5, h6⟩
theorem RV.below {G : Nat → Prop} {w w' : World} {r : Nat} {S : Ga} (h : RV w G r S) {m : Nat} (hb : Below m w w') (hm : w.heap.size ≤ m) : RV w' G r S := h.frame (F := fun _ => False) (F' := fun _ => False) (Ft.of hb hm) (fun _ h => h.elim)

theorem Ga.tick_f (S : Ga) (t : Int) : (S.tick t).f = S.f := by unfold Ga.tick; split <;> rfl
theorem Ga.take_f {S : Ga} (t : Int) (ps : List UInt8) (last : Bool) : (S.take t ps last).1.f = S.f ∨ (S.take t ps last).1.f = t := by
  have h := S.tick_f t
  unfold Ga.take
  generalize S.tick t = S2 at *
  have h2 : (S2.add t ps).f = S.f ∨ (S2.add t ps).f = t := by
    unfold Ga.add
    by_cases e : S2.xs.length = 0
    · right; simp [e]
    · left; simp [e, h]
  unfold Ga.take0
  split
  · left; exact h
  · split
    · exact h2
    · split
      · exact h2
      · exact h2

set_option maxHeartbeats 400000 in
theorem rnew_calls (wt : Int) (w : World) : Calls Try.prog 11 #[.int .i64 wt] w fun e w' => e = .returned (.pointer (some ⟨w.heap.size, 0, none⟩)) ∧ RV w' (fun k => k = w.heap.size) w.heap.size (Ga.mk0 wt) ∧ Below w.heap.size w w' := by
  have HW : Hid (waitN wt = min (max wt 1) 1152921504606846976) := rfl
  go_enter Try.func11, Try.ntmps11
  go_wp2
  all_goals
    go_ret
    refine ⟨rfl, ⟨⟨none, 0, 0, ?_, ownB_nil _ _, fun y e => by cases e⟩, rfl, fun k e => by subst e; simp, Ga.mk0_ok wt, by simp [Ga.mk0], by simp [Ga.mk0], by simp [Ga.mk0]⟩, (Below.refl _ _).alloc (Nat.le_refl _) _⟩
    have hw := HW.out
    show BK _ _ #[.int .i64 (waitN wt), .int .i64 0, .int .i64 ((0 : Nat) : Int), .slice none 0 0, .bool false] _
    rw [hw]
    first
      | (rw [show min (max wt 1) 1152921504606846976 = 1152921504606846976 by omega]; exact bk_new _ _ _)
      | (rw [show min (max wt 1) 1152921504606846976 = wt by omega]; exact bk_new _ _ _)
      | (rw [show min (max wt 1) 1152921504606846976 = 1 by omega]; exact bk_new _ _ _)

set_option maxHeartbeats 1000000 in
theorem rtick_calls {w : World} {F : Nat → Prop} {r : Nat} {S : Ga} (h : RV w F r S) (hl : S.l ≤ 1000000) (t : Int) (t0 : 0 ≤ t) (t1 : t ≤ 1152921504606846976) :
    Calls Try.prog 14 #[.pointer (some ⟨r, 0, none⟩), .int .i64 t] w fun e w' => e = .returned (.bool (S.late t)) ∧ RV w' F r (S.tick t) ∧ Ft F F w w' := by
  have HG : RV w F r S := h
  have HOK : Hid ((S.tick t).Ok ∧ (S.tick t).xs.length ≤ 960 ∧ (S.tick t).f = S.f) := ⟨h.ok.tick t, Ga.tick_fit h.fit t, S.tick_f t⟩
  obtain ⟨⟨a, n, c, hb, hc, hy⟩, h1, h2, h3, h4, f0, f1⟩ := h
  have hn : n ≤ 960 := by rw [hc.1]; exact h4
  have c0 := hb.cell 0 _ rfl
  have c1 := hb.cell 1 _ rfl
  have c3 := hb.cell 3 _ rfl
  have HB : Hid (S.late t = (!decide (n = 0) && decide (waitN S.w ≤ t - S.f))) := by show _ = _; unfold Ga.late; rw [lateB_eq, hc.1]
  have w1 := waitN_ge S.w
  have w2 := waitN_le S.w
  by_cases hx : n = 0
  · have HA : Hid (S.late t = false) := by show _ = _; rw [HB.out, hx]; rfl
    have HT : Hid (S.tick t = S) := by show _ = _; unfold Ga.tick; rw [HA.out]; rfl
    have q1 : ((n : Int) == 0) = true := by subst hx; rfl
    clear hb hc hx
    go_enter Try.func14, Try.ntmps14
    go_wp2_with fail
    go_quiet (fail)
    go_wp2
    go_ret
    rw [HA.out, HT.out]
    exact ⟨rfl, HG.below (m := w.heap.size) (below_drewN (Below.refl _ w)) (Nat.le_refl _), Ft.of (m := w.heap.size) (below_drewN (Below.refl _ w)) (Nat.le_refl _)⟩
  · have q1 : ((n : Int) == 0) = false := beq_eq_false_iff_ne.2 (by omega)
    obtain ⟨x, hxw⟩ : ∃ x, waitN S.w = x := ⟨_, rfl⟩
    have c0' : w.cell? ⟨r, 0, none⟩ = some (.int .i64 x) := by rw [← hxw]; exact c0
    rw [hxw] at w1 w2 HB
    have qw : wrap64 (t - S.f) = t - S.f := by unfold wrap64; omega
    by_cases hlt : t - S.f < x
    · have HA : Hid (S.late t = false) := by show _ = _; rw [HB.out]; simp; omega
      have HT : Hid (S.tick t = S) := by show _ = _; unfold Ga.tick; rw [HA.out]; rfl
      clear hb hc hx c0 hxw
      go_enter Try.func14, Try.ntmps14
      go_wp2_with fail
      go_quiet (fail)
      go_wp2
      go_ret
      rw [HA.out, HT.out]
      exact ⟨rfl, HG.below (m := w.heap.size) (below_drewN (Below.refl _ w)) (Nat.le_refl _), Ft.of (m := w.heap.size) (below_drewN (Below.refl _ w)) (Nat.le_refl _)⟩
    · have HA : Hid (S.late t = true) := by show _ = _; rw [HB.out]; simp [hx]; omega
      have HT : Hid (S.tick t = S.lose) := by show _ = _; unfold Ga.tick; rw [HA.out]; rfl
      have hbN := fun k => (show BK (w.drewN k) r _ _ from hb)
      go_enter Try.func14, Try.ntmps14
      go_wp2_with fail
      clear hc hx c0 hxw
      go_quiet (fail)
      rename_i nq
      have hb1 := hbN nq
      have B4 : Below w.heap.size w (w.drewN nq) := below_drewN (Below.refl _ w)
      generalize w.drewN nq = w3 at *
      have f3 := hb1.frozen 3
      have d3 := hb1.cell 3 _ rfl
      have hb2 := hb1.set 3 (.slice none 0 0)
      have f2 := hb2.frozen 2
      have d2 := hb2.cell 2 _ rfl
      have hb3 := hb2.set 2 (.int .i64 ((S.l : Int) + 1))
      clear c0' c1 c3 hb hbN
      have sz := B4.size
      go_wp2
      go_ret
      rw [HT.out] at HOK
      rw [HA.out, HT.out]
      refine ⟨rfl, ⟨⟨none, 0, 0, ?_, ownB_nil _ _, fun y e => by cases e⟩, h1, fun k hk => ?_, HOK.out.1, HOK.out.2.1, f0, f1⟩, ((Ft.of B4 (Nat.le_refl _)).trans (Ft.set _ h1 _)).trans (Ft.set _ h1 _)⟩
      · show BK _ r #[.int .i64 (waitN S.w), .int .i64 S.f, .int .i64 ((S.l + 1 : Nat) : Int), .slice none 0 0, .bool S.k] _
        rw [Int.natCast_add]
        simpa using hb3
      · have := h2 k hk; simp [World.setCell]; omega

/-- What the document's Take answers and leaves. -/
def RkAns (S : Ga) (t : Int) (ps : List UInt8) (last : Bool) (F : Nat → Prop) (r : Nat) (w : World) (e : Ending) (w' : World) : Prop :=
  Ans (S.take t ps last).2 w.heap.size e w' ∧ ∃ F', RV w' F' r (S.take t ps last).1 ∧ Ft F F' w w'

set_option maxHeartbeats 4000000 in
set_option maxRecDepth 20000 in
theorem rtake_calls {w : World} {F : Nat → Prop} {r : Nat} {S : Ga} (h : RV w F r S) (hl : S.l ≤ 900000) (t : Int) (t0 : 0 ≤ t) (t1 : t ≤ 1152921504606846976) (ps : List UInt8) (hp : ps.length = 48) (last : Bool) (pb po cp : Nat) {m : Nat} (hI0 : IsB m w (some ⟨pb, po, none⟩) 48 ps) (hm : m ≤ w.heap.size) (hpF : ¬ F pb) (hpl : pb < w.heap.size) :
    Calls Try.prog 16 #[.pointer (some ⟨r, 0, none⟩), .int .i64 t, .slice (some ⟨pb, po, none⟩) 48 cp, .bool last] w (RkAns S t ps last F r w) := by
  obtain ⟨ap, hap0⟩ : ∃ ap : Option Addr, some ⟨pb, po, none⟩ = ap := ⟨_, rfl⟩
  have hI : IsB m w ap 48 ps := by rw [← hap0]; exact hI0
  have hoth : ∀ (w1 w2 : World), Ft F F w1 w2 → IsB m w1 ap 48 ps → pb < w1.heap.size → IsB m w2 ap 48 ps := fun w1 w2 k h hl => by rw [← hap0] at h ⊢; exact h.other k hpF hl
  have hapn : ap = none → cp = 0 := by intro e; rw [← hap0] at e; cases e
  rw [hap0]
  clear hap0 hI0
  have HOK : Hid ((S.take t ps last).1.Ok ∧ (S.take t ps last).1.xs.length ≤ 960 ∧ 0 ≤ (S.take t ps last).1.f ∧ (S.take t ps last).1.f ≤ 1152921504606846976) := by
    refine ⟨h.ok.take h.fit t ps last hp (by omega) (by omega), Ga.take_fit h.ok h.fit t ps last hp, ?_, ?_⟩
    · rcases Ga.take_f (S := S) t ps last with e | e <;> rw [e]; exact h.f0; exact t0
    · rcases Ga.take_f (S := S) t ps last with e | e <;> rw [e]; exact h.f1; exact t1
  have hok2 := h.ok.tick t
  have hl2 := S.tick_l t
  have HTK : Hid (S.take t ps last = (S.tick t).take0 t ps last) := rfl
  obtain ⟨S2, hS2⟩ : ∃ S2, S.tick t = S2 := ⟨_, rfl⟩
  have HT := rtick_calls h (by omega) t t0 t1
  rw [hS2] at hok2 hl2 HTK HT
  have HRL : Hid (r < w.heap.size) := h.lt r h.hr
  clear h hS2
  go_enter Try.func16, Try.ntmps16
  go_wp2_with fail
  refine HT.mono ?_
  rintro e w2 ⟨rfl, h2, k2⟩
  have hI2 := hoth _ _ k2 hI hpl
  have s2 := k2.size
  have HF2 : Hid (Ft F F w w2) := k2
  clear HT k2 hI
  obtain ⟨⟨a, n, c, hb, hc, hy⟩, h1, hlt, h3, hfit, g0, g1⟩ := h2
  have hrl := hlt r h1
  have c4 := hb.cell 4 _ rfl
  have f4 := hb.frozen 4
  obtain ⟨b, hbk⟩ : ∃ b, S2.k = b := ⟨_, rfl⟩
  have c4' : w2.cell? ⟨r, 4, none⟩ = some (.bool b) := by rw [← hbk]; exact c4
  clear c4
  cases b with
  | true =>
    have HT2 : Hid (S.take t ps last = ({ S2 with k := !last }, ([], 0, 2))) := by show _ = _; rw [HTK.out, Ga.take0_two _ _ _ hbk]
    have hb2 := hb.set 4 (.bool (!last))
    have HO2 : Hid (OwnB 0 (w2.setCell ⟨r, 4, none⟩ (.bool (!last))) a n c S2.xs) := ownB_keep hc (fun y e => Below.heap_setCell _ _ _ _ (hy y e).2)
    clear hb hc hbk HTK
    go_wp2
    go_ret3
    unfold RkAns
    rw [HT2.out] at HOK ⊢
    refine ⟨ans_none 2 _ _, F, ⟨⟨a, n, c, ?_, HO2.out, hy⟩, h1, fun k hk => ?_, HOK.out.1, HOK.out.2.1, HOK.out.2.2.1, HOK.out.2.2.2⟩, HF2.out.trans (Ft.set _ h1 _)⟩
    · simpa using hb2
    · have := hlt k hk; simp [World.setCell]; omega
  | false =>
    have hn : n ≤ 960 := by rw [hc.1]; exact hfit
    have Hn : Hid (n = S2.xs.length) := hc.1
    have hnil : a = none → c = 0 := hc.isB.2.1
    have cc3 := hb.cell 3 _ rfl
    have f1 := hb.frozen 1
    have d1 := hb.cell 1 _ rfl
    have HX : Hid (S2.add t ps = { S2 with xs := S2.xs ++ ps, f := if n = 0 then t else S2.f }) := by show _ = _; unfold Ga.add; rw [hc.1]
    -- the rest, in a world in which the time is set
    have rest : ∀ W, BK W r (rcells { S2 with f := if n = 0 then t else S2.f } a n c) 41 → OwnB 0 W a n c S2.xs → IsB m W ap 48 ps → Ft F F w W → W.heap.size = w2.heap.size → True := fun _ _ _ _ _ _ => trivial
    clear rest
    by_cases h0 : n = 0
    · have q0 : ((n : Int) == 0) = true := by subst h0; rfl
      have hbW : BK (w2.setCell ⟨r, 1, none⟩ (.int .i64 t)) r (rcells { S2 with f := t } a n c) 41 := by simpa using hb.set 1 (.int .i64 t)
      have hcW : OwnB 0 (w2.setCell ⟨r, 1, none⟩ (.int .i64 t)) a n c S2.xs := ownB_keep hc (fun y e => Below.heap_setCell _ _ _ _ (hy y e).2)
      have k3 : Ft F F w2 (w2.setCell ⟨r, 1, none⟩ (.int .i64 t)) := Ft.set _ h1 _
      have hIW := hoth _ _ k3 hI2 (by omega)
      have HFW : Hid (Ft F F w (w2.setCell ⟨r, 1, none⟩ (.int .i64 t))) := HF2.out.trans k3
      have zW : (w2.setCell ⟨r, 1, none⟩ (.int .i64 t)).heap.size = w2.heap.size := by simp [World.setCell]
      have HXW : Hid (S2.add t ps = { S2 with xs := S2.xs ++ ps, f := t }) := by show _ = _; rw [HX.out, if_pos h0]
      obtain ⟨W, hW⟩ : ∃ W, w2.setCell ⟨r, 1, none⟩ (.int .i64 t) = W := ⟨_, rfl⟩
      rw [hW] at hbW hcW hIW HFW zW
      have zWa : w2.heap.size ≤ W.heap.size := by omega
      have zWb : W.heap.size ≤ w2.heap.size := by omega
      have hrlW : r < W.heap.size := by omega
      clear hb hc h0 HX k3 hI2 HF2 zW
      have A1 : Below W.heap.size W (W.alloc (.cells #[] 5)) := (Below.refl _ W).alloc (Nat.le_refl _) _
      obtain ⟨a1, c1, w3, hap1, o1, b1⟩ := run_app (W.alloc (.cells #[] 5)) W.heap.size 32 _ 0 0 _ (ownB_new W.heap.size W (Nat.le_refl _)) a n c S2.xs ((hcW.isB.1).below A1 (Nat.le_refl _)) hnil (by omega) (by simp)
      simp only [Nat.zero_add, List.nil_append] at hap1 o1
      have B3 := A1.trans b1
      obtain ⟨a2, c2, w4, hap2, o2, b2⟩ := run_app w3 W.heap.size 32 a1 n c1 S2.xs o1 ap 48 cp ps (hIW.below B3 (by omega)) hapn (by omega) (Nat.le_trans A1.size b1.size)
      have B4 := B3.trans b2
      have hb4 := hbW.below B4 (by omega)
      have hFr : ∀ y, a2 = some y → W.heap.size ≤ y.block ∧ y.block < w4.heap.size := fun y e => o2.lt y.block (by rw [e]; rfl)
      have s4 := B4.size
      have g1' := hb4.frozen 3
      have g3' := hb4.cell 3 _ rfl
      have e3' := hb4.cell 3 _ rfl
      have e2' := hb4.cell 2 _ rfl
      have f2' := hb4.frozen 2
      have HF4 : Hid (Ft F F w w4) := HFW.out.trans (Ft.of B4 (Nat.le_refl _))
      have HO4 : Hid (OwnB W.heap.size w4 a2 (n + 48) c2 (S2.xs ++ ps)) := o2
      have hcap := o2.isB.2.2
      have cW3 := hbW.cell 3 _ rfl
      have eW1 := hbW.cell 1 _ rfl
      have hwW : w.heap.size ≤ W.heap.size := by omega
      clear hcW hIW A1 o1 b1 B3 b2 B4 o2 hbW HFW
      cases last with
      | false =>
        by_cases hfull : n + 48 = 1008
        · have HT2 : Hid (S.take t ps false = ({ (S2.add t ps).lose with k := true }, ([], 0, 6))) := by show _ = _; rw [HTK.out, Ga.take0_long _ _ _ hbk (by rw [hp, ← Hn.out]; exact hfull)]
          have qf2 : ¬ ((n : Int) + 48 < 1008) := by omega
          have hb5 := hb4.set 3 (.slice none 0 0)
          have f5 := hb5.frozen 2
          have d5 := hb5.cell 2 _ rfl
          have hb6 := hb5.set 2 (.int .i64 ((S2.l : Int) + 1))
          have f6 := hb6.frozen 4
          have d6 := hb6.cell 4 _ rfl
          have hb7 := hb6.set 4 (.bool true)
          clear hb4 hb5 hb6 hfull HTK
          go_wp2_with (at_builtin; first | refine wpList_app hap1 _ _ rfl rfl rfl rfl rfl ?_ | refine wpList_app hap2 _ _ rfl rfl rfl rfl rfl ?_)
          go_ret3
          unfold RkAns
          rw [HT2.out, HXW.out] at HOK ⊢
          refine ⟨ans_none 6 _ _, F, ⟨⟨none, 0, 0, ?_, ownB_nil _ _, fun y e => by cases e⟩, h1, fun k hk => ?_, HOK.out.1, HOK.out.2.1, HOK.out.2.2.1, HOK.out.2.2.2⟩, ((HF4.out.trans (Ft.set _ h1 _)).trans (Ft.set _ h1 _)).trans (Ft.set _ h1 _)⟩
          · simpa [rcells, Int.natCast_add, Ga.lose] using hb7
          · have := hlt k hk; simp [World.setCell]; omega
        · have HT2 : Hid (S.take t ps false = (S2.add t ps, ([], 0, 2))) := by show _ = _; rw [HTK.out, Ga.take0_more _ _ _ hbk (by rw [hp, ← Hn.out]; exact hfull)]
          have hdv := hok2.div
          rw [← Hn.out] at hdv
          have qf2 : (n : Int) + 48 < 1008 := by omega
          have hb5 := hb4.set 3 (.slice a2 (n + 48) c2)
          have HO5 : Hid (OwnB 0 (w4.setCell ⟨r, 3, none⟩ (.slice a2 (n + 48) c2)) a2 (n + 48) c2 (S2.xs ++ ps)) := ownB_keep (HO4.out.mono (Nat.zero_le _)) (fun y e => Below.heap_setCell _ _ _ _ (by show y.block ≠ r; have := (hFr y e).1; omega))
          obtain ⟨g, hg⟩ : ∃ g, a2 = some ⟨g, 0, none⟩ ∧ w2.heap.size ≤ g ∧ g < w4.heap.size := by
            obtain ⟨g, cur, e, q1, q2, _⟩ := HO4.out.block (by omega)
            exact ⟨g, e, by omega, q2⟩
          obtain ⟨rfl, hg1, hg2⟩ := hg
          have HF5 : Hid (Ft F (fun k => F k ∨ k = g) w (w4.setCell ⟨r, 3, none⟩ (.slice (some ⟨g, 0, none⟩) (n + 48) c2))) := (HF4.out.trans (Ft.set w4 (p := ⟨r, 3, none⟩) h1 (.slice (some ⟨g, 0, none⟩) (n + 48) c2))).wide (.inl (by omega))
          clear hb4 hfull HTK hdv hFr HO4 HF4
          go_wp2_with (at_builtin; first | refine wpList_app hap1 _ _ rfl rfl rfl rfl rfl ?_ | refine wpList_app hap2 _ _ rfl rfl rfl rfl rfl ?_)
          go_ret3
          unfold RkAns
          rw [HT2.out, HXW.out] at HOK ⊢
          refine ⟨ans_none 2 _ _, fun k => F k ∨ k = g, ⟨⟨_, _, _, hb5, HO5.out, ?_⟩, .inl h1, fun k hk => ?_, HOK.out.1, HOK.out.2.1, HOK.out.2.2.1, HOK.out.2.2.2⟩, HF5.out⟩
          · rintro y ⟨rfl⟩; exact ⟨.inr rfl, by show g ≠ r; omega⟩
          · simp [World.setCell]
            rcases hk with hk | rfl
            · have := hlt k hk; omega
            · exact hg2
      | true =>
        have HT2 : Hid (S.take t ps true = ((S2.add t ps).fin, unpackN (S2.xs ++ ps))) := by show _ = _; rw [HTK.out, Ga.take0_last _ _ _ hbk]
        have hb5 := hb4.set 3 (.slice none 0 0)
        have hcap := HO4.out.isB.2.2
        have HO5 : OwnB 0 (w4.setCell ⟨r, 3, none⟩ (.slice none 0 0)) a2 (n + 48) c2 (S2.xs ++ ps) := ownB_keep (HO4.out.mono (Nat.zero_le _)) (fun y e => Below.heap_setCell _ _ _ _ (by show y.block ≠ r; have := (hFr y e).1; omega))
        have HF5 : Hid (Ft F F w (w4.setCell ⟨r, 3, none⟩ (.slice none 0 0))) := HF4.out.trans (Ft.set w4 (p := ⟨r, 3, none⟩) h1 _)
        have HU := refunpack_all a2 (n + 48) c2 (S2.xs ++ ps) (w4.setCell ⟨r, 3, none⟩ (.slice none 0 0)) HO5.isB.1 (Nat.le_refl _) hcap (by omega)
        have z5 : (w4.setCell ⟨r, 3, none⟩ (.slice none 0 0)).heap.size = w4.heap.size := by simp [World.setCell]
        have za : w4.heap.size ≤ (w4.setCell ⟨r, 3, none⟩ (.slice none 0 0)).heap.size := by omega
        obtain ⟨W5, hW5⟩ : ∃ W5, w4.setCell ⟨r, 3, none⟩ (.slice none 0 0) = W5 := ⟨_, rfl⟩
        rw [hW5] at hb5 HU HF5 za
        obtain ⟨u, hu⟩ : ∃ u, unpackN (S2.xs ++ ps) = u := ⟨_, rfl⟩
        have hU' : Hid (unpackN (S2.xs ++ ps) = u) := hu
        have HE : Hid ((S2.add t ps).fin = { S2.add t ps with xs := [], l := S2.l + (if u.2.2 = 0 then 0 else 1) }) := by show _ = _; unfold Ga.fin; rw [← hu]; rfl
        clear hb4 hFr HO4 HF4 HO5 z5 hu HTK
        go_wp2_with (first | (at_builtin; first | refine wpList_app hap1 _ _ rfl rfl rfl rfl rfl ?_ | refine wpList_app hap2 _ _ rfl rfl rfl rfl rfl ?_) | fail)
        refine HU.mono ?_
        rintro e w6 ⟨a6, c6, rfl, o6, b6⟩
        rw [hU'.out] at o6 ⊢
        have hb6 := hb5.below b6 (by omega)
        have HF6 : Hid (Ft F F w w6) := HF5.out.trans (Ft.of b6 (Nat.le_refl _))
        have s6 := b6.size
        have HO6 : Hid (OwnB w.heap.size w6 a6 u.1.length c6 u.1) := o6.mono (by omega)
        clear HU b6 hb5 HF5 hap1 hap2 hW5 o6
        obtain ⟨tx, mk, kk⟩ := u
        dsimp only at HO6 ⊢
        have ha6 : ∀ y, a6 = some y → w.heap.size ≤ y.block := fun y e => (HO6.out.lt y.block (by rw [e]; rfl)).1
        by_cases hk : kk = 0
        · subst hk
          go_wp2
          go_ret3
          unfold RkAns
          rw [HT2.out] at HOK ⊢
          dsimp only at HOK ⊢
          rw [HE.out, HXW.out] at HOK ⊢
          rw [hU'.out]
          refine ⟨⟨a6, c6, rfl, HO6.out⟩, F, ⟨⟨none, 0, 0, ?_, ownB_nil _ _, fun y e => by cases e⟩, h1, fun k hk => ?_, HOK.out.1, HOK.out.2.1, HOK.out.2.2.1, HOK.out.2.2.2⟩, HF6.out⟩
          · simpa using hb6
          · have := hlt k hk; omega
        · have f6 := hb6.frozen 2
          have d6 := hb6.cell 2 _ rfl
          have hb7 := hb6.set 2 (.int .i64 ((S2.l : Int) + 1))
          have q1 : (((kk : Nat) : Int) != 0) = true := by rw [bne_iff_ne]; omega
          have HO7 : Hid (OwnB w.heap.size (w6.setCell ⟨r, 2, none⟩ (.int .i64 ((S2.l : Int) + 1))) a6 tx.length c6 tx) := ownB_keep HO6.out (fun y e => Below.heap_setCell _ _ _ _ (by show y.block ≠ r; have := ha6 y e; have := HRL.out; omega))
          have HK : Hid (¬ kk = 0) := hk
          clear hk hb6
          go_wp2
          go_ret3
          unfold RkAns
          rw [HT2.out] at HOK ⊢
          dsimp only at HOK ⊢
          rw [HE.out, HXW.out] at HOK ⊢
          rw [hU'.out]
          refine ⟨⟨a6, c6, rfl, HO7.out⟩, F, ⟨⟨none, 0, 0, ?_, ownB_nil _ _, fun y e => by cases e⟩, h1, fun k hk => ?_, HOK.out.1, HOK.out.2.1, HOK.out.2.2.1, HOK.out.2.2.2⟩, HF6.out.trans (Ft.set _ h1 _)⟩
          · dsimp only
            rw [if_neg HK.out]
            simpa [rcells, Int.natCast_add] using hb7
          · have := hlt k hk; simp [World.setCell]; omega
    · have q0 : ((n : Int) == 0) = false := beq_eq_false_iff_ne.2 (by omega)
      have HXW : Hid (S2.add t ps = { S2 with xs := S2.xs ++ ps }) := by show _ = _; rw [HX.out, if_neg h0]
      have hbW : BK w2 r (rcells S2 a n c) 41 := hb
      have hcW := hc
      have hIW := hI2
      have HFW := HF2
      clear hb hc h0 HX hI2 HF2
      have A1 : Below w2.heap.size w2 (w2.alloc (.cells #[] 5)) := (Below.refl _ w2).alloc (Nat.le_refl _) _
      obtain ⟨a1, c1, w3, hap1, o1, b1⟩ := run_app (w2.alloc (.cells #[] 5)) w2.heap.size 32 _ 0 0 _ (ownB_new w2.heap.size w2 (Nat.le_refl _)) a n c S2.xs ((hcW.isB.1).below A1 (Nat.le_refl _)) hnil (by omega) (by simp)
      simp only [Nat.zero_add, List.nil_append] at hap1 o1
      have B3 := A1.trans b1
      obtain ⟨a2, c2, w4, hap2, o2, b2⟩ := run_app w3 w2.heap.size 32 a1 n c1 S2.xs o1 ap 48 cp ps (hIW.below B3 (by omega)) hapn (by omega) (Nat.le_trans A1.size b1.size)
      have B4 := B3.trans b2
      have hb4 := hbW.below B4 (by omega)
      have hFr : ∀ y, a2 = some y → w2.heap.size ≤ y.block ∧ y.block < w4.heap.size := fun y e => o2.lt y.block (by rw [e]; rfl)
      have s4 := B4.size
      have g1' := hb4.frozen 3
      have g3' := hb4.cell 3 _ rfl
      have e3' := hb4.cell 3 _ rfl
      have e2' := hb4.cell 2 _ rfl
      have f2' := hb4.frozen 2
      have HF4 : Hid (Ft F F w w4) := HFW.out.trans (Ft.of B4 (Nat.le_refl _))
      have HO4 : Hid (OwnB w2.heap.size w4 a2 (n + 48) c2 (S2.xs ++ ps)) := o2
      have hcap := o2.isB.2.2
      have cW3 := hbW.cell 3 _ rfl
      have eW1 := hbW.cell 1 _ rfl
      have hwW : w.heap.size ≤ w2.heap.size := by omega
      clear hcW hIW A1 o1 b1 B3 b2 B4 o2 hbW HFW
      cases last with
      | false =>
        by_cases hfull : n + 48 = 1008
        · have HT2 : Hid (S.take t ps false = ({ (S2.add t ps).lose with k := true }, ([], 0, 6))) := by show _ = _; rw [HTK.out, Ga.take0_long _ _ _ hbk (by rw [hp, ← Hn.out]; exact hfull)]
          have qf2 : ¬ ((n : Int) + 48 < 1008) := by omega
          have hb5 := hb4.set 3 (.slice none 0 0)
          have f5 := hb5.frozen 2
          have d5 := hb5.cell 2 _ rfl
          have hb6 := hb5.set 2 (.int .i64 ((S2.l : Int) + 1))
          have f6 := hb6.frozen 4
          have d6 := hb6.cell 4 _ rfl
          have hb7 := hb6.set 4 (.bool true)
          clear hb4 hb5 hb6 hfull HTK
          go_wp2_with (at_builtin; first | refine wpList_app hap1 _ _ rfl rfl rfl rfl rfl ?_ | refine wpList_app hap2 _ _ rfl rfl rfl rfl rfl ?_)
          go_ret3
          unfold RkAns
          rw [HT2.out, HXW.out] at HOK ⊢
          refine ⟨ans_none 6 _ _, F, ⟨⟨none, 0, 0, ?_, ownB_nil _ _, fun y e => by cases e⟩, h1, fun k hk => ?_, HOK.out.1, HOK.out.2.1, HOK.out.2.2.1, HOK.out.2.2.2⟩, ((HF4.out.trans (Ft.set _ h1 _)).trans (Ft.set _ h1 _)).trans (Ft.set _ h1 _)⟩
          · simpa [rcells, Int.natCast_add, Ga.lose] using hb7
          · have := hlt k hk; simp [World.setCell]; omega
        · have HT2 : Hid (S.take t ps false = (S2.add t ps, ([], 0, 2))) := by show _ = _; rw [HTK.out, Ga.take0_more _ _ _ hbk (by rw [hp, ← Hn.out]; exact hfull)]
          have hdv := hok2.div
          rw [← Hn.out] at hdv
          have qf2 : (n : Int) + 48 < 1008 := by omega
          have hb5 := hb4.set 3 (.slice a2 (n + 48) c2)
          have HO5 : Hid (OwnB 0 (w4.setCell ⟨r, 3, none⟩ (.slice a2 (n + 48) c2)) a2 (n + 48) c2 (S2.xs ++ ps)) := ownB_keep (HO4.out.mono (Nat.zero_le _)) (fun y e => Below.heap_setCell _ _ _ _ (by show y.block ≠ r; have := (hFr y e).1; omega))
          obtain ⟨g, hg⟩ : ∃ g, a2 = some ⟨g, 0, none⟩ ∧ w2.heap.size ≤ g ∧ g < w4.heap.size := by
            obtain ⟨g, cur, e, q1, q2, _⟩ := HO4.out.block (by omega)
            exact ⟨g, e, by omega, q2⟩
          obtain ⟨rfl, hg1, hg2⟩ := hg
          have HF5 : Hid (Ft F (fun k => F k ∨ k = g) w (w4.setCell ⟨r, 3, none⟩ (.slice (some ⟨g, 0, none⟩) (n + 48) c2))) := (HF4.out.trans (Ft.set w4 (p := ⟨r, 3, none⟩) h1 (.slice (some ⟨g, 0, none⟩) (n + 48) c2))).wide (.inl (by omega))
          clear hb4 hfull HTK hdv hFr HO4 HF4
          go_wp2_with (at_builtin; first | refine wpList_app hap1 _ _ rfl rfl rfl rfl rfl ?_ | refine wpList_app hap2 _ _ rfl rfl rfl rfl rfl ?_)
          go_ret3
          unfold RkAns
          rw [HT2.out, HXW.out] at HOK ⊢
          refine ⟨ans_none 2 _ _, fun k => F k ∨ k = g, ⟨⟨_, _, _, hb5, HO5.out, ?_⟩, .inl h1, fun k hk => ?_, HOK.out.1, HOK.out.2.1, HOK.out.2.2.1, HOK.out.2.2.2⟩, HF5.out⟩
          · rintro y ⟨rfl⟩; exact ⟨.inr rfl, by show g ≠ r; omega⟩
          · simp [World.setCell]
            rcases hk with hk | rfl
            · have := hlt k hk; omega
            · exact hg2
      | true =>
        have HT2 : Hid (S.take t ps true = ((S2.add t ps).fin, unpackN (S2.xs ++ ps))) := by show _ = _; rw [HTK.out, Ga.take0_last _ _ _ hbk]
        have hb5 := hb4.set 3 (.slice none 0 0)
        have hcap := HO4.out.isB.2.2
        have HO5 : OwnB 0 (w4.setCell ⟨r, 3, none⟩ (.slice none 0 0)) a2 (n + 48) c2 (S2.xs ++ ps) := ownB_keep (HO4.out.mono (Nat.zero_le _)) (fun y e => Below.heap_setCell _ _ _ _ (by show y.block ≠ r; have := (hFr y e).1; omega))
        have HF5 : Hid (Ft F F w (w4.setCell ⟨r, 3, none⟩ (.slice none 0 0))) := HF4.out.trans (Ft.set w4 (p := ⟨r, 3, none⟩) h1 _)
        have HU := refunpack_all a2 (n + 48) c2 (S2.xs ++ ps) (w4.setCell ⟨r, 3, none⟩ (.slice none 0 0)) HO5.isB.1 (Nat.le_refl _) hcap (by omega)
        have z5 : (w4.setCell ⟨r, 3, none⟩ (.slice none 0 0)).heap.size = w4.heap.size := by simp [World.setCell]
        have za : w4.heap.size ≤ (w4.setCell ⟨r, 3, none⟩ (.slice none 0 0)).heap.size := by omega
        obtain ⟨W5, hW5⟩ : ∃ W5, w4.setCell ⟨r, 3, none⟩ (.slice none 0 0) = W5 := ⟨_, rfl⟩
        rw [hW5] at hb5 HU HF5 za
        obtain ⟨u, hu⟩ : ∃ u, unpackN (S2.xs ++ ps) = u := ⟨_, rfl⟩
        have hU' : Hid (unpackN (S2.xs ++ ps) = u) := hu
        have HE : Hid ((S2.add t ps).fin = { S2.add t ps with xs := [], l := S2.l + (if u.2.2 = 0 then 0 else 1) }) := by show _ = _; unfold Ga.fin; rw [← hu]; rfl
        clear hb4 hFr HO4 HF4 HO5 z5 hu HTK
        go_wp2_with (first | (at_builtin; first | refine wpList_app hap1 _ _ rfl rfl rfl rfl rfl ?_ | refine wpList_app hap2 _ _ rfl rfl rfl rfl rfl ?_) | fail)
        refine HU.mono ?_
        rintro e w6 ⟨a6, c6, rfl, o6, b6⟩
        rw [hU'.out] at o6 ⊢
        have hb6 := hb5.below b6 (by omega)
        have HF6 : Hid (Ft F F w w6) := HF5.out.trans (Ft.of b6 (Nat.le_refl _))
        have s6 := b6.size
        have HO6 : Hid (OwnB w.heap.size w6 a6 u.1.length c6 u.1) := o6.mono (by omega)
        clear HU b6 hb5 HF5 hap1 hap2 hW5 o6
        obtain ⟨tx, mk, kk⟩ := u
        dsimp only at HO6 ⊢
        have ha6 : ∀ y, a6 = some y → w.heap.size ≤ y.block := fun y e => (HO6.out.lt y.block (by rw [e]; rfl)).1
        by_cases hk : kk = 0
        · subst hk
          go_wp2
          go_ret3
          unfold RkAns
          rw [HT2.out] at HOK ⊢
          dsimp only at HOK ⊢
          rw [HE.out, HXW.out] at HOK ⊢
          rw [hU'.out]
          refine ⟨⟨a6, c6, rfl, HO6.out⟩, F, ⟨⟨none, 0, 0, ?_, ownB_nil _ _, fun y e => by cases e⟩, h1, fun k hk => ?_, HOK.out.1, HOK.out.2.1, HOK.out.2.2.1, HOK.out.2.2.2⟩, HF6.out⟩
          · simpa using hb6
          · have := hlt k hk; omega
        · have f6 := hb6.frozen 2
          have d6 := hb6.cell 2 _ rfl
          have hb7 := hb6.set 2 (.int .i64 ((S2.l : Int) + 1))
          have q1 : (((kk : Nat) : Int) != 0) = true := by rw [bne_iff_ne]; omega
          have HO7 : Hid (OwnB w.heap.size (w6.setCell ⟨r, 2, none⟩ (.int .i64 ((S2.l : Int) + 1))) a6 tx.length c6 tx) := ownB_keep HO6.out (fun y e => Below.heap_setCell _ _ _ _ (by show y.block ≠ r; have := ha6 y e; have := HRL.out; omega))
          have HK : Hid (¬ kk = 0) := hk
          clear hk hb6
          go_wp2
          go_ret3
          unfold RkAns
          rw [HT2.out] at HOK ⊢
          dsimp only at HOK ⊢
          rw [HE.out, HXW.out] at HOK ⊢
          rw [hU'.out]
          refine ⟨⟨a6, c6, rfl, HO7.out⟩, F, ⟨⟨none, 0, 0, ?_, ownB_nil _ _, fun y e => by cases e⟩, h1, fun k hk => ?_, HOK.out.1, HOK.out.2.1, HOK.out.2.2.1, HOK.out.2.2.2⟩, HF6.out.trans (Ft.set _ h1 _)⟩
          · dsimp only
            rw [if_neg HK.out]
            simpa [rcells, Int.natCast_add] using hb7
          · have := hlt k hk; simp [World.setCell]; omega
end Go.Proofs.Ytfmicnjijcmjaaa
