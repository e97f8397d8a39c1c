/- Proved here: what a policer's judge answers: the verdict by the rules alone. Conditions: as each theorem states them. -/
import Derived.Test.YtlaomjhibaoglaaButs
import Derived.Test.YtlaomjhibaoglaaStepT
namespace Go.Proofs.Ytlaomjhibaoglaa
set_option linter.unusedSimpArgs false
set_option linter.unusedVariables false
open Go.RowKit Go.Shelf
attribute [local go_sem] Oper.semAt_some

/-- Does a cell at t fit by a rule? -/
def fitL (t : Int) (x : Lim) : Bool := fitN x.e x.T t
/-- The verdict by rules, none of which drops; by any rules. -/
def softN (t : Int) (M : List Lim) : Int := bif M.all (fitL t) then 1 else 2
def judgeN (t : Int) (M : List Lim) : Int := bif M.all (fun x => fitL t x || x.g) then softN t M else 3
theorem softN_nil (t : Int) : softN t [] = 1 := rfl
theorem softN_snoc_fit {t : Int} {M : List Lim} {x : Lim} (h : fitL t x = true) : softN t (M ++ [x]) = softN t M := by simp [softN, h]
theorem softN_snoc_tag {t : Int} {M : List Lim} {x : Lim} (h : fitL t x = false) : softN t (M ++ [x]) = 2 := by simp [softN, h]
theorem judgeN_soft {t : Int} {M : List Lim} (h : ∀ x ∈ M, fitL t x = true ∨ x.g = true) : judgeN t M = softN t M := by
  unfold judgeN
  have : M.all (fun x => fitL t x || x.g) = true := by simp; exact fun x hx => (h x hx)
  rw [this]; rfl
theorem judgeN_drop {t : Int} {M : List Lim} {x : Lim} (hx : x ∈ M) (h : fitL t x = false) (hg : x.g = false) : judgeN t M = 3 := by
  unfold judgeN
  have : M.all (fun x => fitL t x || x.g) = false := by simp; exact ⟨x, hx, h, hg⟩
  rw [this]; rfl

theorem run_fits (b : Nat) (w : World) : (method 187 55 (.pointer (some ⟨b, 0, none⟩)) "Fits").run Try.prog w = .ok (41, .pointer (some ⟨b, 0, none⟩)) w := by kernel_rfl

set_option maxRecDepth 100000 in
set_option maxHeartbeats 2000000 in
theorem judge_in (r g cap : Nat) (L : List Lim) (t clp : Int) (w : World) (h : PR w r g cap L) :
    CallsIn Fence.wide 3 Try.prog 20 #[.pointer (some ⟨r, 0, none⟩), .int .i64 t, .int .i64 clp] w fun e W' => e = .returned (.int .i64 (judgeN t (askedL clp L))) ∧ Below w.heap.size w W' := by
  refine callsIn_of_wp_marks Try.func20 rfl trivial ?_ rfl
  simp only [Try.ntmps20, List.size_toArray, List.length_cons, List.length_nil, Nat.reduceAdd, Nat.reduceSub, Array.replicate_succ, Array.replicate_zero, List.push_toArray, List.append_toArray, List.nil_append, List.cons_append]
  gi_wp2
  refine scope_wide ?_
  gi_wp2
  refine wpIn_label ?_
  gi_wp2_with (refine ⟨trivial, ?_⟩; gi_at_call 22; refine (asked_in _ _ _ _).mono ?_; rintro e w' ⟨rfl, rfl⟩)
  obtain ⟨W0, hW0⟩ : ∃ W0, ((((w.alloc (.cells #[.int .i64 t] 3)).alloc (.cells #[.int .i64 1] 3)).alloc (.cells #[.pointer (some ⟨r, 0, none⟩)] 26)).alloc (.cells #[.int .i64 clp] 3)) = W0 := ⟨_, rfl⟩
  have b1 := (((Boxed.new w 3 (.int .i64 t)).alloc (.cells #[.int .i64 1] 3)).alloc (.cells #[.pointer (some ⟨r, 0, none⟩)] 26)).alloc (.cells #[.int .i64 clp] 3)
  have b2 := ((Boxed.new (w.alloc (.cells #[.int .i64 t] 3)) 3 (.int .i64 1)).alloc (.cells #[.pointer (some ⟨r, 0, none⟩)] 26)).alloc (.cells #[.int .i64 clp] 3)
  have b3 := (Boxed.new ((w.alloc (.cells #[.int .i64 t] 3)).alloc (.cells #[.int .i64 1] 3)) 26 (.pointer (some ⟨r, 0, none⟩))).alloc (.cells #[.int .i64 clp] 3)
  have b4 := Boxed.new (((w.alloc (.cells #[.int .i64 t] 3)).alloc (.cells #[.int .i64 1] 3)).alloc (.cells #[.pointer (some ⟨r, 0, none⟩)] 26)) 3 (.int .i64 clp)
  simp only [World.size_alloc] at b1 b2 b3 b4
  have hB0 : Below w.heap.size w ((((w.alloc (.cells #[.int .i64 t] 3)).alloc (.cells #[.int .i64 1] 3)).alloc (.cells #[.pointer (some ⟨r, 0, none⟩)] 26)).alloc (.cells #[.int .i64 clp] 3)) :=
    ((((Below.refl _ w).alloc (Nat.le_refl _) _).alloc (by simp) _).alloc (by simp; omega) _).alloc (by simp; omega) _
  have hsz : W0.heap.size = w.heap.size + 4 := by rw [← hW0]; simp
  rw [hW0] at b1 b2 b3 b4 hB0 ⊢
  clear hW0
  have hP := h.below hB0 (Nat.le_refl _)
  have hg := h.glt
  have hq := hP.sl
  have b3c := b3.cell
  have b4c := b4.cell
  refine wpIn_rangeFunc_ownH (α := { x : Lim // x ∈ askedL clp L }) rfl (by omega) (gf := 24) (lb := #[.pointer (some ⟨w.heap.size + 1 + 1, 0, none⟩), .pointer (some ⟨w.heap.size + 1 + 1 + 1, 0, none⟩)]) rfl trivial (enters_of Try.func24 (by kernel_rfl) rfl)
    (asked_stops (3 - 1) (by omega) (w.heap.size + 1 + 1) (w.heap.size + 1 + 1 + 1) r g cap L clp h.len W0 (by omega) (by omega) (by have := h.rlt; omega) (by omega) b3c b4c hq hP.lim) Kp.trans (Kp.put (by omega) (by omega)) (Below.refl _ _) (fun _ => rfl)
    (fun pre W => (Boxed W w.heap.size 3 (.int .i64 t) ∧ Boxed W (w.heap.size + 1) 3 (.int .i64 (softN t (pre.map (·.1)))) ∧ ∀ x ∈ pre, fitL t x.1 = true ∨ x.1.g = true) ∧ Below w.heap.size w W ∧ w.heap.size + 4 ≤ W.heap.size)
    (fun c pre W => (c = .exit 0 ∧ (∃ x ∈ pre, fitL t x.1 = false ∧ x.1.g = false)) ∧ Boxed W (w.heap.size + 1) 3 (.int .i64 3) ∧ Below w.heap.size w W)
    (OwnFrom.and (OwnFrom.and (Own.from (boxed_own _ _ _) _) (OwnFrom.and (Own.from (boxed_own _ _ _) _) (ownFrom_pure _ _))) (OwnFrom.and (ownFrom_below (Nat.le_refl _) (by omega)) (fun _ X Y row hs hg _ => Nat.le_trans hs hg.size)))
    (fun c => OwnFrom.and (ownFrom_pure _ _) (OwnFrom.and (Own.from (boxed_own _ _ _) _) (ownFrom_below (Nat.le_refl _) (by omega))))
    ⟨⟨b1, b2, by simp⟩, hB0, by omega⟩
    (fun x a' W => ∃ Bx, w.heap.size + 4 ≤ Bx ∧ BK W Bx #[.iface 55 (.pointer (some ⟨x.1.b, 0, none⟩)), .bool x.1.z, .bool x.1.g] 60 ∧ a' = { tmps := #[.pointer (some ⟨r, 0, none⟩), .int .i64 t, .int .i64 clp, undef, .pointer (some ⟨w.heap.size, 0, none⟩), undef, .int .i64 0, .pointer (some ⟨w.heap.size + 1, 0, none⟩), .pointer (some ⟨Bx, 0, none⟩),
      .pointer (some ⟨r, 0, none⟩), .int .i64 clp, .func (.func 24) #[] #[.pointer (some ⟨w.heap.size + 1 + 1, 0, none⟩), .pointer (some ⟨w.heap.size + 1 + 1 + 1, 0, none⟩)], limV x.1.b x.1.z x.1.g, undef, undef, undef, undef, undef, undef, undef, undef, undef], defers := [] })
    (fun x a' u X Y row hs hgr hr => by
      obtain ⟨Bx, h1, h2, h3⟩ := hs
      exact ⟨Bx, h1, (Own.from (bk_own (β := Unit) Bx _ (fun _ => _)) _) () X Y row h2 hgr hr, h3⟩) ?assign ?body ?done ?stop
  case assign =>
    rintro l pre x W K ⟨⟨i1, i2, i3⟩, i4, i5⟩ hK
    gi_wp2
    exact hK _ _ ((KeepsOthers.alloc _ _).from _) (Kp.of ((Below.refl _ W).alloc (Nat.le_refl _) _) (by omega) (by omega)) ⟨⟨i1.alloc _, i2.alloc _, i3⟩, i4.alloc (by omega) _, by simp; omega⟩ ⟨W.heap.size, i5, bk_new W _ _, rfl⟩
  case body =>
    rintro l pre x a' W hl _ ⟨⟨i1, i2, i3⟩, i4, i5⟩ ⟨Bx, hBx, bX, rfl⟩ _
    obtain ⟨⟨b, z, gt, s, e, T⟩, hx⟩ := x
    have hxL : (⟨b, z, gt, s, e, T⟩ : Lim) ∈ L := (List.mem_filter.1 hx).1
    obtain ⟨C, T0, T1⟩ := h.bk _ hxL
    simp only at C T0 T1 bX
    have k1 := i1.cell
    have k2 := i2.cell
    have f2 := i2.frozen
    have x0 := bX.cell 0 _ rfl
    have x2 := bX.cell 2 _ rfl
    have C1 := C.below i4 C.lt
    have hfits := fits_calls b s e T t W C1 T0 T1
    clear C C1 x2 k2 f2
    have hm := run_fits b
    have hfd : fitL t ⟨b, z, gt, s, e, T⟩ = fitN e T t := rfl
    have hw1 : w.heap.size < W.heap.size := i1.lt
    have hw2 : w.heap.size + 1 < W.heap.size := i2.lt
    cases hf : fitN e T t with
    | true =>
      rw [hf] at hfits hfd
      have HV : Hid (softN t ((pre ++ [(⟨⟨b, z, gt, s, e, T⟩, hx⟩ : { x : Lim // x ∈ askedL clp L })]).map (·.1)) = softN t (pre.map (·.1))) := by show _ = _; rw [List.map_append]; exact softN_snoc_fit hfd
      gi_wp2_with (refine ⟨trivial, ?_⟩; gi_at_call 41; refine (CallsIn.inRound l (callsIn_wide.2 hfits)).mono ?_; clear hfits; rintro e1 w1 ⟨rfl, q1⟩; have x2 := (bX.below q1 bX.lt).cell 2 _ rfl; have I1 := Boxed.below' i1 q1 i1.lt; have I2 := Boxed.below' i2 q1 i2.lt; have k2 := I2.cell; have f2 := I2.frozen)
      refine ⟨keepsFrom_below q1 (Nat.le_refl _), Kp.of q1 (by omega) (by omega), ⟨I1, ?_, ?_⟩, i4.trans (q1.mono (by omega)), by have := q1.size; omega⟩
      · rw [HV.out]; exact I2
      · intro y hy
        rcases List.mem_append.1 hy with hy | hy
        · exact i3 y hy
        · rw [List.mem_singleton.1 hy]; exact .inl hfd
    | false =>
      rw [hf] at hfits hfd
      cases gt with
      | true =>
        have HV : Hid (softN t ((pre ++ [(⟨⟨b, z, true, s, e, T⟩, hx⟩ : { x : Lim // x ∈ askedL clp L })]).map (·.1)) = 2) := by show _ = _; rw [List.map_append]; exact softN_snoc_tag hfd
        gi_wp2_with (refine ⟨trivial, ?_⟩; gi_at_call 41; refine (CallsIn.inRound l (callsIn_wide.2 hfits)).mono ?_; clear hfits; rintro e1 w1 ⟨rfl, q1⟩; have x2 := (bX.below q1 bX.lt).cell 2 _ rfl; have I1 := Boxed.below' i1 q1 i1.lt; have I2 := Boxed.below' i2 q1 i2.lt; have k2 := I2.cell; have f2 := I2.frozen)
        refine ⟨(keepsFrom_below q1 (Nat.le_refl _)).trans ((KeepsOthers.setCell _ _ _).from _), (Kp.of q1 (by omega) (by omega)).trans (Kp.set (p := ⟨w.heap.size + 1, 0, none⟩) (by show w.heap.size + 1 ≠ g; omega) (by show w.heap.size + 1 ≠ w.heap.size + 1 + 1 + 1; omega) _ _), ⟨I1.other (by omega) _, ?_, ?_⟩, (i4.trans (q1.mono (by omega))).setCell (p := ⟨w.heap.size + 1, 0, none⟩) (by simp) _, by have := q1.size; simp; omega⟩
        · rw [HV.out]; exact I2.set _
        · intro y hy
          rcases List.mem_append.1 hy with hy | hy
          · exact i3 y hy
          · rw [List.mem_singleton.1 hy]; exact .inr rfl
      | false =>
        gi_wp2_with (refine ⟨trivial, ?_⟩; gi_at_call 41; refine (CallsIn.inRound l (callsIn_wide.2 hfits)).mono ?_; clear hfits; rintro e1 w1 ⟨rfl, q1⟩; have x2 := (bX.below q1 bX.lt).cell 2 _ rfl; have I1 := Boxed.below' i1 q1 i1.lt; have I2 := Boxed.below' i2 q1 i2.lt; have k2 := I2.cell; have f2 := I2.frozen)
        refine ⟨(keepsFrom_below q1 (Nat.le_refl _)).trans ((KeepsOthers.setCell _ _ _).from _), ⟨rfl, _, List.mem_append.2 (.inr (List.mem_singleton.2 rfl)), hfd, rfl⟩, I2.set _, (i4.trans (q1.mono (by omega))).setCell (p := ⟨w.heap.size + 1, 0, none⟩) (by simp) _⟩
  case done =>
    rintro D ys W hD hys ⟨⟨i1, i2, i3⟩, hB, _⟩ hK
    rw [hys] at i2
    have hv := judgeN_soft (t := t) (M := askedL clp L) (fun x hx => by
      rw [← hys] at hx
      obtain ⟨y, hy, rfl⟩ := List.mem_map.1 hx
      exact i3 y hy)
    rw [← hv] at i2
    have HV : Hid (softN t (askedL clp L) = judgeN t (askedL clp L)) := hv.symm
    clear hv
    have k1 := i2.cell
    gi_wp2
    rw [Exit.noGoto_ret]
    refine ⟨by simp, .inl ⟨_, _, rfl, run_takeDeferred hK, ?_⟩⟩
    exact ⟨_, results_tmp rfl _ _ _, rfl, hB.trans (belowK_b (w := w) (Nat.le_refl _) W D _ _ (by omega) hK rfl rfl)⟩
  case stop =>
    rintro D c pre W hD _ ⟨⟨rfl, x, hx, hf, hg'⟩, i2, hB⟩ hK
    have hv := judgeN_drop (t := t) (M := askedL clp L) x.2 hf hg'
    rw [← hv] at i2
    clear hv
    have k1 := i2.cell
    dsimp only
    gi_wp2
    rw [Exit.noGoto_ret]
    refine ⟨by simp, .inl ⟨_, _, rfl, run_takeDeferred hK, ?_⟩⟩
    exact ⟨_, results_tmp rfl _ _ _, rfl, hB.trans (belowK_b (w := w) (Nat.le_refl _) W D _ _ (by omega) hK rfl rfl)⟩

theorem judge_calls (r g cap : Nat) (L : List Lim) (t clp : Int) (w : World) (h : PR w r g cap L) :
    Calls Try.prog 20 #[.pointer (some ⟨r, 0, none⟩), .int .i64 t, .int .i64 clp] w fun e W' => e = .returned (.int .i64 (judgeN t (askedL clp L))) ∧ Below w.heap.size w W' :=
  callsIn_wide.1 (judge_in r g cap L t clp w h)
end Go.Proofs.Ytlaomjhibaoglaa
