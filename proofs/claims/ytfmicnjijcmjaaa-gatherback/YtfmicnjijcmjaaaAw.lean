/- Proved here: what the laws' own awake, and time, answer. Conditions: as each theorem states them. -/
import Derived.Test.YtfmicnjijcmjaaaFn
import Derived.Test.YtfmicnjijcmjaaaGb
import Derived.Laws.Cover3
namespace Go.Proofs.Ytfmicnjijcmjaaa
set_option linter.unusedSimpArgs false
set_option linter.unusedVariables false
open Go.RowKit

theorem run_ldB {n : Nat} {w : World} {b off len : Nat} {xs : List UInt8} (h : IsB n w (some ⟨b, off, none⟩) len xs) (hl : xs.length = 48) :
    (Instr.loadAt 28 (.pointer (some ⟨b, off, none⟩))).run Try.prog w = .ok (.agg (payV xs)) w := by
  refine run_loadAt_mid w b off 28 (vals xs) _ (fun j v hv => ?_) Try.underlying28 rfl (by rw [size24, vals_length, hl])
  obtain ⟨x, hx, rfl⟩ := vals_get hv
  rcases h.2 with e | ⟨b', off', e, _, hc⟩
  · rw [e] at hx; cases hx
  · cases e; exact hc j x hx

theorem time_calls (t : Int) (w : World) : Calls Try.prog 12 #[.int .i64 t] w fun e w' => e = .returned (.bool (decide (0 ≤ t) && decide (t ≤ 1152921504606846976))) ∧ w' = w := by
  by_cases h : 0 ≤ t
  · go_enter Try.func12, Try.ntmps12
    go_wp2
    go_ret
    exact ⟨by simp [h], rfl⟩
  · have h' : t < 0 := by omega
    go_enter Try.func12, Try.ntmps12
    go_wp2
    go_ret
    exact ⟨by rw [decide_eq_false (show ¬ 0 ≤ t by omega)]; rfl, rfl⟩

theorem ans_err' {k base : Nat} {e : Ending} {w : World} (h : Ans ([], 0, k) base e w) : ∃ a' c', e = .returned (.tuple #[.slice a' 0 c', .int .u8 0, .int .i64 (k : Int)]) ∧ OwnB base w a' 0 c' [] := h
theorem ans_ok' {t : List UInt8} {m : UInt8} {base : Nat} {e : Ending} {w : World} (h : Ans (t, m, 0) base e w) : ∃ a' c', e = .returned (.tuple #[.slice a' t.length c', .int .u8 (m.toNat : Int), .int .i64 0]) ∧ OwnB base w a' t.length c' t := h
theorem gparts_calls {w : World} {F : Nat → Prop} {r : Nat} {S : Ga} (h : GV w F r S) {p : Nat} (hp : S.xs.length / 48 = p) : Calls Try.prog 18 #[.pointer (some ⟨r, 0, none⟩)] w fun e w' => e = .returned (.int .i64 (p : Int)) ∧ w' = w := by
  have := parts_calls h.x
  rwa [hp] at this
theorem glost_calls {w : World} {F : Nat → Prop} {r : Nat} {S : Ga} (h : GV w F r S) {p : Nat} (hp : S.l = p) : Calls Try.prog 19 #[.pointer (some ⟨r, 0, none⟩)] w fun e w' => e = .returned (.int .i64 (p : Int)) ∧ w' = w := by
  have := lost_calls h.x
  rwa [hp] at this

set_option maxHeartbeats 2000000 in
set_option maxRecDepth 20000 in
theorem awake_calls (w : World) : Calls Try.prog 9 #[] w fun e w' => e = .returned (.bool true) ∧ Below w.heap.size w w' := by
  go_enter Try.func9, Try.ntmps9
  go_wp2_with fail
  refine (gnew_calls 10 w).mono ?_
  rintro e w1 ⟨rfl, hg, b1⟩
  obtain ⟨w2, hmk, o2, b2, z2⟩ := run_mkc w1 w1.heap.size 41 41 41 41 rfl rfl (by decide) (by decide) (Nat.le_refl _)
  have HP := pack_calls (some ⟨w1.heap.size, 0, none⟩) 41 41 _ 7 w2 o2.isB.1 (Nat.le_refl _) (by intro h; cases h) (by decide) (by decide)
  rw [show 48 * manyN 41 = 96 from rfl, show (((7 : UInt8)).toNat : Int) = 7 from rfl] at HP
  go_wp2_with fail
  refine HP.mono ?_
  rintro e w3 ⟨a3, c3, rfl, o3, b3⟩
  obtain ⟨g, cur, rfl, _, hg3, _⟩ := o3.block (by decide)
  have I3 := o3.isB.1
  have hc3 := o3.isB.2.2
  have HU : Hid (unpackN (frameN (List.replicate 41 0) 7) = (List.replicate 41 0, 7, 0)) := unpack_frame 7 (by decide) (by decide)
  have hfl : (frameN (List.replicate 41 0) 7).length = 48 * 2 := (frame_len (t := List.replicate 41 0) 7 (by decide)).trans (by decide)
  generalize frameN (List.replicate 41 0) 7 = fr at *
  have e0 : chunk fr 0 = fr.take (48 * 1) := by simp [chunk]
  have e01 : fr = chunk fr 0 ++ chunk fr 1 := by rw [e0, take_chunk, show 48 * (1 + 1) = fr.length by omega, List.take_length]
  clear e0
  have l0 : (chunk fr 0).length = 48 := chunk_len (by omega)
  have l1 : (chunk fr 1).length = 48 := chunk_len (by omega)
  have I3' : IsB w3.heap.size w3 (some ⟨g, 0, none⟩) 96 (chunk fr 0 ++ chunk fr 1) := by rw [← e01]; exact I3
  have IA := I3'.takeA
  have IB := I3'.dropA
  rw [l0, Nat.zero_add] at IB
  rw [l1] at IB
  rw [l0] at IA
  have B3 : Below w1.heap.size w1 w3 := b2.trans (b3.mono b2.size)
  have B03 : Below w.heap.size w w3 := b1.trans (B3.mono b1.size)
  have G3 := hg.below B3 (Nat.le_refl _)
  have a0 : At (Ga.mk0 10) fr 0 0 0 := At.nil rfl rfl rfl
  obtain ⟨a1, q1⟩ := a0.step (M := 2) hfl (by decide) (by decide)
  have w10 : ((Ga.mk0 10).take 0 (chunk fr 0) false).1.w = 10 := Ga.take_w _ _ _ _
  obtain ⟨x1, f1, n1⟩ := a1.some (by decide)
  have kk1 := a1.k
  have HT := gtake_calls G3 (by decide) 0 (by decide) (by decide) (chunk fr 0) l0 false
  unfold TkAns at HT
  rw [q1] at HT
  generalize ((Ga.mk0 10).take 0 (chunk fr 0) false).1 = S1 at *
  have hr1 : w.heap.size < w1.heap.size := hg.x.lt _ rfl
  have hgb : w2.heap.size ≤ g := by obtain ⟨g', cur', e, h1, _⟩ := o3.block (by decide); cases e; exact h1
  have z12 := b2.size
  have HF3 : Hid (Below w.heap.size w w3) := B03
  have hld := run_ldB IA l0
  have art := fun (w : World) (a : Option Addr) (cap : Nat) => run_arrayAt (P := Try.prog) (w := w) 28 5 48 a 48 cap Try.underlying28 (Nat.le_refl _)
  have hif : (if c3 = 48 then some ⟨g, 0, none⟩ else some ⟨g, 48, none⟩ : Option Addr) = some ⟨g, 48, none⟩ := if_neg (by omega)
  have h48 : 48 ≤ c3 := by omega
  clear HP o2 o3 b3 b2 B3 hg b1 hmk I3 I3' a0 a1 e01
  go_wp2_with (first | (with_reducible show wpList _ _ _ (Oper.mk _ (Op.load 28 _) _ _ _ _ :: _) _ _; refine wpList_ld rfl rfl rfl hld ?_; (try simp only [Act.put, List.setIfInBounds_toArray, List.set_cons_zero, List.set_cons_succ, World.size_alloc])) | fail)
  refine HT.mono ?_
  rintro e w4 ⟨hA, F4, G4, k4⟩
  obtain ⟨a4, c4, rfl, o4⟩ := ans_err' hA
  have IB4 := IB.other k4 (by show ¬ g = w.heap.size; omega) hg3
  have HB4 : Hid (Below w.heap.size w w4) := HF3.out.trans (k4.below (n := w.heap.size) (fun k (e : k = w.heap.size) => by omega) HF3.out.size)
  have hF4 : ∀ k, F4 k → w.heap.size ≤ k := k4.from (fun k (e : k = w.heap.size) => by omega) HF3.out.size
  clear HT hA o4 IA IB hld
  have hld := run_ldB IB4 l1
  have hPt := gparts_calls G4 (p := 1) (by rw [x1, List.length_take]; omega)
  go_wp2_with fail
  refine hPt.mono ?_
  rintro e w5 ⟨rfl, e5⟩
  rw [e5]; clear e5 hPt
  have E2 : (S1.take 1 (chunk fr 1) true).2 = (List.replicate 41 0, 7, 0) ∧ (S1.take 1 (chunk fr 1) true).1.xs = [] ∧ (S1.take 1 (chunk fr 1) true).1.l = 0 := by
    have ht : S1.tick 1 = S1 := Ga.tick_none (Ga.late_soon (by rw [f1, w10]; decide))
    have e : S1.take 1 (chunk fr 1) true = ((S1.add 1 (chunk fr 1)).fin, unpackN (S1.xs ++ chunk fr 1)) := by
      unfold Ga.take
      rw [ht, Ga.take0_last _ _ _ kk1]
    have ex : S1.xs ++ chunk fr 1 = fr := by rw [x1, take_chunk, ← hfl, List.take_length]
    rw [e, ex, HU.out]
    refine ⟨rfl, rfl, ?_⟩
    show S1.l + (if (unpackN (S1.xs ++ chunk fr 1)).2.2 = 0 then 0 else 1) = 0
    rw [ex, HU.out, n1]; rfl
  have HT := gtake_calls G4 (by omega) 1 (by decide) (by decide) (chunk fr 1) l1 true
  unfold TkAns at HT
  rw [E2.1] at HT
  obtain ⟨_, x2, n2⟩ := E2
  generalize (S1.take 1 (chunk fr 1) true).1 = S2 at *
  clear G4 x1 f1 w10 l0 IB4
  go_wp2_with (first | (with_reducible show wpList _ _ _ (Oper.mk _ (Op.load 28 _) _ _ _ _ :: _) _ _; refine wpList_ld rfl rfl rfl hld ?_; (try simp only [Act.put, List.setIfInBounds_toArray, List.set_cons_zero, List.set_cons_succ, World.size_alloc])) | fail)
  refine HT.mono ?_
  rintro e w6 ⟨hA, F6, G6, k6⟩
  obtain ⟨a6, c6, rfl, o6⟩ := ans_ok' hA
  rw [List.length_replicate, show (((7 : UInt8)).toNat : Int) = 7 from rfl]
  have HB6 : Hid (Below w.heap.size w w6) := HB4.out.trans (k6.below hF4 HB4.out.size)
  have hPt := gparts_calls G6 (p := 0) (by rw [x2]; rfl)
  have hLt := glost_calls G6 n2
  clear HT hA o6 hld G6 k6
  go_wp2_with (first | (go_at_call 18; refine hPt.mono ?_; rintro e w7 ⟨rfl, e7⟩; rw [e7]; clear e7) | (go_at_call 19; refine hLt.mono ?_; rintro e w8 ⟨rfl, e8⟩; rw [e8]; clear e8))
  go_ret
  exact ⟨rfl, HB6.out⟩
end Go.Proofs.Ytfmicnjijcmjaaa
