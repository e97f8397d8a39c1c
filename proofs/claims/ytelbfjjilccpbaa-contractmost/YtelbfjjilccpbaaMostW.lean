/- Proved here: the walk of ContractMost. Conditions: as each theorem states them. -/
import Derived.Test.YtelbfjjilccpbaaLd
import Derived.Test.YtelbfjjilccpbaaTake
import Derived.BigQuiet
import Derived.Deep.QuietTactic
namespace Go.Proofs.Ytelbfjjilccpbaa
set_option linter.unusedSimpArgs false
set_option linter.unusedVariables false
open Go.RowKit Go.Shelf

theorem most_mul {b d m : Int} (hb : 0 ≤ b) (hd : 0 < d) (hm : 1 + b.tdiv d = m) : (∀ i : Int, i < m → i * d ≤ b) ∧ b < m * d := by
  rw [Int.tdiv_eq_ediv_of_nonneg hb] at hm
  have h1 : d * (b / d) ≤ b := Int.mul_ediv_self_le (by omega)
  have h2 : b < d * (b / d) + d := Int.lt_mul_ediv_self_add hd
  constructor
  · intro i hi
    have h3 : i * d ≤ (b / d) * d := Int.mul_le_mul_of_nonneg_right (by omega) (by omega)
    rw [Int.mul_comm (b / d) d] at h3
    omega
  · rw [← hm, Int.add_mul, Int.one_mul, Int.mul_comm (b / d) d]
    omega

theorem fit_plain {e T t : Int} (e0 : 0 ≤ e) (e1 : e ≤ 1152921504606846976) (t0 : 0 ≤ t) (t1 : t ≤ 1152921504606846976) : fitN e T t = decide (T - e ≤ t) := by
  unfold fitN; rw [hM_id e0 e1, hM_id t0 t1]
theorem next_plain {s T t : Int} (s0 : 1 ≤ s) (s1 : s ≤ 1152921504606846976) (t0 : 0 ≤ t) (t1 : t ≤ 1152921504606846976) : nextN s T t = max T t + s := by
  unfold nextN; rw [hS_id s0 s1, hM_id t0 t1]

set_option maxHeartbeats 2000000 in
theorem most_walk_none (k p e w b l : Int) (W : World) (hn : mostN k p e w b l = 0 ∨ 400 < mostN k p e w b l ∨ e ≠ 0) :
    Calls Try.prog 5 #[cV k p e w b l] W fun e w' => e = .returned (.bool true) ∧ Below W.heap.size W w' := by
  have C0 := cc_new W k p e w b l
  obtain ⟨n, hN⟩ : ∃ n, mostN k p e w b l = n := ⟨_, rfl⟩
  have HN : Hid (mostN k p e w b l = n) := hN
  rw [hN] at hn
  clear hN
  go_enter Try.func5, Try.ntmps5
  go_wp2_with fail
  refine (awake_calls _).mono ?_
  rintro x w1 ⟨rfl, b1⟩
  have C1 := C0.below b1 C0.lt
  have B1 := below_box2 b1
  obtain ⟨c0, c1, c2, c3, c4, c5⟩ := C1.facts
  clear C0 b1
  go_wp2_with fail
  refine (most_calls k p e w b l _).mono ?_
  rintro x w2 ⟨rfl, b2⟩
  rw [HN.out]
  have C2 := C1.below b2 C1.lt
  have B2 := B1.trans (b2.mono B1.size)
  clear c0 c1 c2 c3 c4 c5 C1 B1 b2
  obtain ⟨c0, c1, c2, c3, c4, c5⟩ := C2.facts
  by_cases h0 : n = 0
  · have q0 : (n == 0) = true := by simpa using h0
    clear h0 hn
    go_wp2
    go_ret
    exact ⟨rfl, B2⟩
  · have q0 : (n == 0) = false := by simpa using h0
    by_cases h4 : 400 < n
    · have q1 : decide (400 < n) = true := by simpa using h4
      clear h0 hn h4
      go_wp2
      go_ret
      exact ⟨rfl, B2⟩
    · have q1 : decide (400 < n) = false := by simpa using h4
      have q2 : (e != 0) = true := by simp; omega
      clear h0 hn h4
      go_wp2
      go_ret
      exact ⟨rfl, B2⟩

set_option maxHeartbeats 4000000 in
theorem most_walk_some (k p w b l : Int) (W : World) (ho : okB k p 0 w b l = true) (hp : p < w) (m : Nat) (hm : 1 + b.tdiv (w - p) = (m : Int)) (hm4 : m ≤ 400) :
    Calls Try.prog 5 #[cV k p 0 w b l] W fun e w' => e = .returned (.bool true) ∧ Below W.heap.size W w' := by
  have H : Hid (okB k p 0 w b l = true) := ho
  have HV : Hid (vbrB k = true) := can_vbr ho hp
  obtain ⟨p0, p1, e0, e1, w0, w1', b0, b1'⟩ := can_bounds ho
  have HM : Hid ((∀ i : Int, i < (m : Int) → i * (w - p) ≤ b) ∧ b < m * (w - p)) := most_mul b0 (by omega) hm
  have hm1 : 1 ≤ m := by
    have := Int.tdiv_nonneg b0 (show 0 ≤ w - p by omega)
    omega
  have HQ : Hid (1 + b.tdiv (w - p) = (m : Int)) := hm
  have HP : Hid (∀ i : Nat, i ≤ 400 → 0 ≤ (i : Int) * p ∧ (i : Int) * p ≤ 439804651110400 ∧ 0 ≤ (i : Int) * w ∧ (i : Int) * w ≤ 439804651110400 ∧ (i : Int) * (w - p) = (i : Int) * w - (i : Int) * p ∧ (i : Int) * p ≤ (i : Int) * w) := by
    intro i hi
    have h1 : (i : Int) * p ≤ 400 * 1099511627776 := Int.mul_le_mul (by omega) p1 (by omega) (by omega)
    have h2 : (i : Int) * w ≤ 400 * 1099511627776 := Int.mul_le_mul (by omega) w1' (by omega) (by omega)
    have h3 : 0 ≤ (i : Int) * p := Int.mul_nonneg (by omega) (by omega)
    have h4 : 0 ≤ (i : Int) * w := Int.mul_nonneg (by omega) (by omega)
    have h5 : (i : Int) * p ≤ (i : Int) * w := Int.mul_le_mul_of_nonneg_left (by omega) (by omega)
    refine ⟨h3, by omega, h4, by omega, Int.mul_sub _ _ _, h5⟩
  have C0 := cc_new W k p 0 w b l
  have q0 : ((m : Int) == 0) = false := by simp; omega
  have q1 : decide (400 < (m : Int)) = false := by simp; omega
  clear ho hm
  go_enter Try.func5, Try.ntmps5
  go_wp2_with fail
  refine (awake_calls _).mono ?_
  rintro x w1 ⟨rfl, b1⟩
  have C1 := C0.below b1 C0.lt
  have B1 := below_box2 b1
  obtain ⟨c0, c1, c2, c3, c4, c5⟩ := C1.facts
  clear C0 b1
  go_wp2_with fail
  refine (most_yes k p 0 w b l H.out hp _).mono ?_
  rintro x w2 ⟨rfl, b2⟩
  rw [HQ.out]
  have C2 := C1.below b2 C1.lt
  have B2 := B1.trans (b2.mono B1.size)
  clear c0 c1 c2 c3 c4 c5 C1 B1 b2
  obtain ⟨c0, c1, c2, c3, c4, c5⟩ := C2.facts
  go_wp2_with fail
  refine (rules_two k p 0 w b l H.out HV.out _).mono ?_
  rintro x w3 ⟨g, c, rfl, hg1, hg2, hr, hs, b3⟩
  rw [Int.add_zero] at hs
  have C3 := C2.below b3 C2.lt
  have B3 := B2.trans (b3.mono B2.size)
  have r3 : W.heap.size < w3.heap.size := C3.lt
  clear c0 c1 c2 c3 c4 c5 C2 B2 b3 hr hg1 q0 q1
  go_wp2
  refine wp_region_held_drew (S := (fun w' => Below w3.heap.size w3 w')) (by kernel_rfl) (Below.refl _ w3).drew (fun hHeld => ?_)
  refine wpAnyH_take (i := 0) (oi := ({ dst := some 27, op := Op.move (Operand.tmp 4), type := 29, pos := _, after := #[], guard := none } : Oper)) (v := ?_) rfl (by kernel_rfl) (by kernel_rfl) (by kernel_rfl) (fun _ _ _ h => h) (Or.inl ⟨by rfl, ?_⟩) hHeld ?_
  rotate_left
  · (intro w hS; go_simp; try with_reducible rfl)
  try simp only [Act.put, List.setIfInBounds_toArray, List.set_cons_zero, List.set_cons_succ]
  refine wpAnyH_take (i := 1) (oi := ({ dst := some 28, op := Op.indexAddr 29 (Operand.tmp 27) (Operand.const (Value.int IntKind.i64 1)), type := 0, pos := _, after := #[{ on := 0, ground := Ground.data }], guard := none } : Oper)) (v := ?_) rfl (by kernel_rfl) (by kernel_rfl) (by kernel_rfl) (fun _ _ _ h => h) (Or.inl ⟨by rfl, ?_⟩) hHeld ?_
  rotate_left
  · (intro w hS; go_simp; try with_reducible rfl)
  try simp only [Act.put, List.setIfInBounds_toArray, List.set_cons_zero, List.set_cons_succ]
  refine wpAnyH_take (i := 2) (oi := ({ dst := some 29, op := Op.fieldAddr 35 (Operand.tmp 28) 0, type := 0, pos := _, after := #[{ on := 1, ground := Ground.data }], guard := none } : Oper)) (v := ?_) rfl (by kernel_rfl) (by kernel_rfl) (by kernel_rfl) (fun _ _ _ h => h) (Or.inl ⟨by rfl, ?_⟩) hHeld ?_
  rotate_left
  · (intro w hS; go_simp; try with_reducible rfl)
  try simp only [Act.put, List.setIfInBounds_toArray, List.set_cons_zero, List.set_cons_succ]
  refine wpAnyH_take (i := 3) (oi := ({ dst := some 30, op := Op.load 3 (Operand.tmp 29), type := 3, pos := _, after := #[{ on := 2, ground := Ground.data }], guard := none } : Oper))  rfl (by kernel_rfl) (by kernel_rfl) (by kernel_rfl) (fun _ _ _ h => h) (yields_ld rfl rfl rfl (fun w hS => load_int (hs.below hS hg2).1)) hHeld ?_
  try simp only [Act.put, List.setIfInBounds_toArray, List.set_cons_zero, List.set_cons_succ]
  refine wpAnyH_take (i := 4) (oi := ({ dst := some 31, op := Op.move (Operand.tmp 4), type := 29, pos := _, after := #[], guard := none } : Oper)) (v := ?_) rfl (by kernel_rfl) (by kernel_rfl) (by kernel_rfl) (fun _ _ _ h => h) (Or.inl ⟨by rfl, ?_⟩) hHeld ?_
  rotate_left
  · (intro w hS; go_simp; try with_reducible rfl)
  try simp only [Act.put, List.setIfInBounds_toArray, List.set_cons_zero, List.set_cons_succ]
  refine wpAnyH_take (i := 5) (oi := ({ dst := some 32, op := Op.indexAddr 29 (Operand.tmp 31) (Operand.const (Value.int IntKind.i64 1)), type := 0, pos := _, after := #[{ on := 4, ground := Ground.data }], guard := none } : Oper)) (v := ?_) rfl (by kernel_rfl) (by kernel_rfl) (by kernel_rfl) (fun _ _ _ h => h) (Or.inl ⟨by rfl, ?_⟩) hHeld ?_
  rotate_left
  · (intro w hS; go_simp; try with_reducible rfl)
  try simp only [Act.put, List.setIfInBounds_toArray, List.set_cons_zero, List.set_cons_succ]
  refine wpAnyH_take (i := 6) (oi := ({ dst := some 33, op := Op.fieldAddr 35 (Operand.tmp 32) 1, type := 0, pos := _, after := #[{ on := 5, ground := Ground.data }], guard := none } : Oper)) (v := ?_) rfl (by kernel_rfl) (by kernel_rfl) (by kernel_rfl) (fun _ _ _ h => h) (Or.inl ⟨by rfl, ?_⟩) hHeld ?_
  rotate_left
  · (intro w hS; go_simp; try with_reducible rfl)
  try simp only [Act.put, List.setIfInBounds_toArray, List.set_cons_zero, List.set_cons_succ]
  refine wpAnyH_take (i := 7) (oi := ({ dst := some 34, op := Op.load 3 (Operand.tmp 33), type := 3, pos := _, after := #[{ on := 6, ground := Ground.data }], guard := none } : Oper))  rfl (by kernel_rfl) (by kernel_rfl) (by kernel_rfl) (fun _ _ _ h => h) (yields_ld rfl rfl rfl (fun w hS => load_int (hs.below hS hg2).2.1)) hHeld ?_
  try simp only [Act.put, List.setIfInBounds_toArray, List.set_cons_zero, List.set_cons_succ]
  refine wpAnyH_ready (rs := [8]) (by kernel_rfl) (by simp) ?_
  refine AllReadyH.cons (o := ({ dst := some 35, op := Op.call { callee := Callee.value (Operand.func 18), args := #[Operand.tmp 30, Operand.tmp 34], argTypes := #[3, 3] }, type := 36, pos := _, after := #[{ on := 3, ground := Ground.data }, { on := 7, ground := Ground.data }], guard := none } : Oper)) rfl (fun K hK => ?_) AllReadyH.nil
  refine step_call (new_calls w b _) (enters_of Try.func18 (by kernel_rfl) rfl) _ _ rfl rfl rfl ?_
  rintro x w4 ⟨rfl, C4, b4⟩
  skip
  refine ⟨_, rfl, hK.out _ _ (hHeld.trans (b4.mono hHeld.size)) (fun hHeld => ?_)⟩
  clear hK K
  try simp only [Act.put, List.setIfInBounds_toArray, List.set_cons_zero, List.set_cons_succ]
  refine wpAnyH_take (i := 9) (oi := ({ dst := some 5, op := Op.assign (Operand.tmp 35), type := 36, pos := _, after := #[{ on := 8, ground := Ground.data }, { on := 8, ground := Ground.chain }, { on := 0, ground := Ground.phase }, { on := 1, ground := Ground.phase }, { on := 2, ground := Ground.phase }, { on := 3, ground := Ground.phase }, { on := 4, ground := Ground.phase }, { on := 5, ground := Ground.phase }, { on := 6, ground := Ground.phase }, { on := 7, ground := Ground.phase }, { on := 8, ground := Ground.phase }], guard := none } : Oper)) (v := ?_) rfl (by kernel_rfl) (by kernel_rfl) (by kernel_rfl) (fun _ _ _ h => h) (Or.inl ⟨by rfl, ?_⟩) hHeld ?_
  rotate_left
  · (intro w hS; go_simp; try with_reducible rfl)
  try simp only [Act.put, List.setIfInBounds_toArray, List.set_cons_zero, List.set_cons_succ]
  refine wpAnyH_done (by kernel_rfl) ?_ _
  have C4' : BC w4 w3.heap.size w b 0 := C4
  have B4 : Below W.heap.size W w4 := B3.trans (hHeld.mono B3.size)
  have D4 := C3.below hHeld C3.lt
  have r4 : W.heap.size < w4.heap.size := D4.lt
  obtain ⟨q, hq⟩ : ∃ q, w3.heap.size = q := ⟨_, rfl⟩
  rw [show (w3.drew).heap.size = q from hq]
  rw [hq] at C4' r3 ⊢
  clear C4 b4 hHeld C3 B3 hs hg2 hq
  go_wp2
  go_loopw [37] (fun iv wr => ∃ (i : Nat), i ≤ m ∧ iv = .int .i64 i ∧ BC wr q w b ((i : Int) * w) ∧ CC wr W.heap.size k p 0 w b l ∧ Below W.heap.size W wr) (fun iv _ => m - (intOf iv).toNat)
  case atStart => exact ⟨0, Nat.zero_le _, rfl, by rw [show ((0 : Nat) : Int) * w = 0 by simp]; exact C4', D4, B4⟩
  case round =>
    obtain ⟨i, hi, rfl, C5, D5, B5⟩ := hrel
    clear C4' D4 B4
    obtain ⟨x0, x1, y0, y1, hxy, hle⟩ := HP.out i (by omega)
    obtain ⟨hlt, hgt⟩ := HM.out
    obtain ⟨x, hx⟩ : ∃ x, (i : Int) * p = x := ⟨_, rfl⟩
    obtain ⟨y, hy⟩ : ∃ y, (i : Int) * w = y := ⟨_, rfl⟩
    rw [hx] at x0 x1 hxy hle
    rw [hy] at y0 y1 hxy hle C5
    have r5 := D5.lt
    obtain ⟨c0, c1, c2, c3, c4, c5⟩ := D5.facts
    by_cases hlt' : i < m
    · have h6 := hlt i (by omega)
      rw [hxy] at h6
      have f1 : fitN b y x = true := by rw [fit_plain b0 (by omega) x0 (by omega)]; simp; omega
      have HN : Hid (nextN w y x = ((i + 1 : Nat) : Int) * w) := by
        show _ = _
        rw [next_plain (by omega) (by omega) x0 (by omega), Int.natCast_add, Int.add_mul, hy]
        simp; omega
      clear hlt hgt hxy h6 hy
      go_wp2_with fail
      refine (take_yes q w b y x _ C5 y0 (by omega) f1).mono ?_
      rintro e w6 ⟨rfl, C6, b6⟩
      rw [HN.out] at C6
      have B6 := B5.trans (b6.below B5.size (by omega))
      have D6 := BK.but D5 b6 D5.lt (by omega)
      clear C5 B5 b6 D5 c0 c1 c2 c3 c4 c5 hx
      go_wp2
      go_roundw
      case rel => exact ⟨i + 1, by omega, by go_num, C6, D6, B6⟩
      case measure => simp [intOf]; omega
    · obtain rfl : i = m := by omega
      rw [hxy] at hgt
      have f1 : fitN b y x = false := by rw [fit_plain b0 (by omega) x0 (by omega)]; simp; omega
      clear hlt hgt hxy hy
      go_wp2_with fail
      refine (take_no q w b y x _ C5 y0 (by omega) f1).mono ?_
      rintro e w6 ⟨rfl, b6⟩
      have B6 := B5.trans (b6.mono B5.size)
      clear C5 B5 b6 D5 c0 c1 c2 c3 c4 c5 hx
      go_wp2
      go_ret
      exact ⟨rfl, B6⟩

theorem most_walk (k p e w b l : Int) (W : World) :
    Calls Try.prog 5 #[cV k p e w b l] W fun e w' => e = .returned (.bool true) ∧ Below W.heap.size W w' := by
  by_cases hn : mostN k p e w b l = 0 ∨ 400 < mostN k p e w b l ∨ e ≠ 0
  · exact most_walk_none k p e w b l W hn
  · have he : e = 0 := by omega
    subst he
    have h1 : ¬ mostN k p 0 w b l = 0 := by omega
    have h2 : ¬ 400 < mostN k p 0 w b l := by omega
    unfold mostN at h1 h2
    cases ho : okB k p 0 w b l
    · rw [ho] at h1; exact absurd rfl h1
    · by_cases hp : p < w
      · rw [ho, decide_eq_true hp] at h2
        have h3 : ¬ 400 < 1 + b.tdiv (w - p) := h2
        have b0 := (can_bounds ho).2.2.2.2.2.2.1
        have := Int.tdiv_nonneg b0 (show 0 ≤ w - p by omega)
        obtain ⟨m, hm⟩ : ∃ m : Nat, 1 + b.tdiv (w - p) = (m : Int) := ⟨(1 + b.tdiv (w - p)).toNat, by omega⟩
        exact most_walk_some k p w b l W ho hp m hm (by omega)
      · rw [ho, decide_eq_false hp] at h1; exact absurd rfl h1
end Go.Proofs.Ytelbfjjilccpbaa
