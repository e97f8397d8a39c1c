/- Proved here: what rmcell.Next answers: a search for the greatest code. Conditions: as each theorem states them. -/
import Derived.Test.YtfkikbnokjbnhaaPt
import Derived.Test.YtfkikbnokjbnhaaRf
namespace Go.Proofs.Ytfkikbnokjbnhaa
set_option linter.unusedSimpArgs false
set_option linter.unusedVariables false
open Go.RowKit

theorem scN_low {c : Nat} (h : c < 16384) : scN c = 0 := scN_zero (by omega)
theorem scN_up {a b : Nat} (hb : b < 32768) (hab : a ≤ b) : scN a ≤ scN b := by
  rcases Nat.lt_or_ge a 16384 with h | h
  · rw [scN_low h]; exact Nat.zero_le _
  · exact scN_mono h hb hab

set_option maxHeartbeats 1000000 in
theorem above_calls (t x b : Nat) (ht : t < 32768) (w : World) (hb : b < w.heap.size) (hc : w.cell? ⟨b, 0, none⟩ = some (.int .i64 (x : Int))) :
    Calls Try.prog 42 #[.int .i64 (t : Int), .pointer (some ⟨b, 0, none⟩)] w fun e w' => e = .returned (.bool (decide (x < scN t))) ∧ Below w.heap.size w w' := by
  have HS := fun w => scaled_calls t (by omega) w
  obtain ⟨s, hs⟩ : ∃ s, scN t = s := ⟨_, rfl⟩
  rw [hs] at HS ⊢
  have hd : decide ((x : Int) < (s : Int)) = decide (x < s) := by rw [decide_eq_decide]; omega
  have hw : IntKind.u16.wrap (t : Int) = (t : Int) := wraps_u16 _ (by omega) (by omega)
  have ht2 : (t : Int) ≤ 32767 := by omega
  clear ht hs
  go_enter Try.func42, Try.ntmps42
  go_wp2
  refine wp_region_held_drew (S := (fun w' => w'.cell? ⟨b, 0, none⟩ = some (.int .i64 (x : Int)) ∧ Below w.heap.size w w')) (by kernel_rfl) ⟨hc, (Below.refl _ w).drew⟩ (fun hHeld => ?_)
  refine wpAnyH_take (i := 0) (oi := ({ dst := some 4, op := Op.move (Operand.tmp 0), type := 3, pos := _, after := #[], guard := none } : Oper)) (v := ?_) rfl (by kernel_rfl) (by kernel_rfl) (by kernel_rfl) (fun _ _ _ h => h) (Or.inl ⟨by rfl, ?_⟩) hHeld ?_
  rotate_left
  · (intro w hS; go_simp; try with_reducible rfl)
  try simp only [Act.put, List.setIfInBounds_toArray, List.set_cons_zero, List.set_cons_succ]
  refine wpAnyH_take (i := 1) (oi := ({ dst := some 5, op := Op.convert 3 22 (Operand.tmp 4), type := 22, pos := _, after := #[{ on := 0, ground := Ground.data }], guard := none } : Oper)) (v := ?_) rfl (by kernel_rfl) (by kernel_rfl) (by kernel_rfl) (fun _ _ _ h => h) (Or.inl ⟨by rfl, ?_⟩) hHeld ?_
  rotate_left
  · (intro w hS; go_simp; try with_reducible rfl)
  try simp only [Act.put, List.setIfInBounds_toArray, List.set_cons_zero, List.set_cons_succ]
  refine wpAnyH_take (i := 3) (oi := ({ dst := some 7, op := Op.load 3 (Operand.tmp 1), type := 3, pos := _, after := #[], guard := none } : Oper)) (v := ?_) rfl (by kernel_rfl) (by kernel_rfl) (by kernel_rfl) (fun _ _ _ h => h) (Or.inl ⟨by rfl, ?_⟩) hHeld ?_
  rotate_left
  · (intro w hS; have hS1 := hS.1; go_simp; try with_reducible rfl)
  try simp only [Act.put, List.setIfInBounds_toArray, List.set_cons_zero, List.set_cons_succ]
  refine wpAnyH_ready (rs := [2]) (by kernel_rfl) (by simp) ?_
  refine AllReadyH.cons (o := ({ dst := some 6, op := Op.call { callee := Callee.value (Operand.func 23), args := #[Operand.tmp 5], argTypes := #[22] }, type := 3, pos := _, after := #[{ on := 1, ground := Ground.data }], guard := none } : Oper)) rfl (fun K hK => ?_) AllReadyH.nil
  refine step_call (HS _) (enters_of Try.func23 (by kernel_rfl) rfl) _ _ rfl rfl rfl ?_
  rintro e w1 ⟨rfl, rfl⟩
  refine ⟨_, rfl, hK.out _ _ hHeld (fun hHeld => ?_)⟩
  clear hK K
  try simp only [Act.put, List.setIfInBounds_toArray, List.set_cons_zero, List.set_cons_succ]
  refine wpAnyH_take (i := 4) (oi := ({ dst := some 8, op := Op.binOp BinOp.gtr 3 (Operand.tmp 6) (Operand.tmp 7) 3, type := 4, pos := _, after := #[{ on := 2, ground := Ground.data }, { on := 3, ground := Ground.data }], guard := none } : Oper)) (v := ?_) rfl (by kernel_rfl) (by kernel_rfl) (by kernel_rfl) (fun _ _ _ h => h) (Or.inl ⟨by rfl, ?_⟩) hHeld ?_
  rotate_left
  · (intro w hS; go_simp; try with_reducible rfl)
  try simp only [Act.put, List.setIfInBounds_toArray, List.set_cons_zero, List.set_cons_succ]
  refine wpAnyH_take (i := 5) (oi := ({ dst := some 3, op := Op.assign (Operand.tmp 8), type := 4, pos := _, after := #[{ on := 4, ground := Ground.data }, { on := 2, ground := Ground.chain }, { on := 0, ground := Ground.phase }, { on := 1, ground := Ground.phase }, { on := 2, ground := Ground.phase }, { on := 3, ground := Ground.phase }, { on := 4, ground := Ground.phase }], guard := none } : Oper)) (v := ?_) rfl (by kernel_rfl) (by kernel_rfl) (by kernel_rfl) (fun _ _ _ h => h) (Or.inl ⟨by rfl, ?_⟩) hHeld ?_
  rotate_left
  · (intro w hS; go_simp; try with_reducible rfl)
  try simp only [Act.put, List.setIfInBounds_toArray, List.set_cons_zero, List.set_cons_succ]
  refine wpAnyH_done (by kernel_rfl) ?_ _
  skip
  go_wp2
  go_ret
  exact ⟨ret_b rfl, hHeld.2⟩

/-- Where a search for what is above a number has come to. -/
def InS (x lo hi : Nat) : Prop := (∀ t, t < lo → scN t ≤ x) ∧ (∀ t, hi ≤ t → t < 32768 → x < scN t)

set_option maxHeartbeats 2000000 in
theorem search_calls (x b : Nat) (w : World) (hb : b < w.heap.size) (hc : w.cell? ⟨b, 0, none⟩ = some (.int .i64 (x : Int))) :
    Calls Try.prog 41 #[.int .i64 32768, .func (.func 42) #[] #[.pointer (some ⟨b, 0, none⟩)]] w fun e w' => (∃ i : Nat, e = .returned (.int .i64 (i : Int)) ∧ i ≤ 32768 ∧ InS x i i) ∧ Below w.heap.size w w' := by
  go_enter Try.func41, Try.ntmps41
  go_wp2
  go_loopw [5, 6] (fun iv jv wr => ∃ lo hi : Nat, lo ≤ hi ∧ hi ≤ 32768 ∧ iv = .int .i64 lo ∧ jv = .int .i64 hi ∧ Hid (InS x lo hi) ∧ Below w.heap.size w wr) (fun iv jv _ => (intOf jv).toNat - (intOf iv).toNat)
  case atStart => exact ⟨0, 32768, by omega, by omega, rfl, rfl, ⟨fun t ht => absurd ht (Nat.not_lt_zero _), fun t h1 h2 => by omega⟩, Below.refl _ _⟩
  case round =>
    obtain ⟨lo, hi, h1, h2, rfl, rfl, hI, bel⟩ := hrel
    by_cases hlt : lo < hi
    · obtain ⟨m, hm⟩ : ∃ m, (lo + hi) / 2 = m := ⟨_, rfl⟩
      have hmi : ((lo : Int) + (hi : Int)) / 2 = (m : Int) := by omega
      have hml : lo ≤ m ∧ m < hi := by omega
      have hcr : wr.cell? ⟨b, 0, none⟩ = some (.int .i64 (x : Int)) := (bel.cell (p := ⟨b, 0, none⟩) hb).trans hc
      have HC := above_calls m x b (by omega) wr (by have := bel.size; omega) hcr
      by_cases hx : x < scN m
      · rw [decide_eq_true hx] at HC
        have HI : Hid (InS x lo m) := ⟨hI.out.1, fun t h3 h4 => Nat.lt_of_lt_of_le hx (scN_up h4 h3)⟩
        clear hx hI hm
        go_wp2_with fail
        refine HC.mono ?_
        rintro e w2 ⟨rfl, b2⟩
        go_wp2
        go_roundw
        case rel => exact ⟨lo, m, by omega, by omega, rfl, rfl, HI, bel.trans (b2.mono bel.size)⟩
        case measure => simp [intOf]; omega
      · rw [decide_eq_false hx] at HC
        have HI : Hid (InS x (m + 1) hi) := ⟨fun t h3 => Nat.le_trans (scN_up (b := m) (by omega) (by omega)) (by omega), hI.out.2⟩
        clear hx hI hm
        go_wp2_with fail
        refine HC.mono ?_
        rintro e w2 ⟨rfl, b2⟩
        go_wp2
        go_roundw
        case rel => exact ⟨m + 1, hi, by omega, by omega, by go_num, rfl, HI, bel.trans (b2.mono bel.size)⟩
        case measure => simp [intOf]; omega
    · obtain rfl : hi = lo := by omega
      go_wp2
      go_ret
      exact ⟨⟨hi, rfl, h2, hI.out⟩, bel⟩

theorem inS_code {x i : Nat} (h : InS x i i) (hi : i ≤ 32768) : ∃ j, i = j + 1 ∧ (riB j = true ∧ IsN x j ∨ riB j = false ∧ IsN x 0) := by
  obtain ⟨h1, h2⟩ := h
  have h16 : 16384 ≤ i := by
    rcases Nat.lt_or_ge i 16384 with hl | hl
    · have := h2 i (Nat.le_refl _) (by omega)
      rw [scN_low hl] at this; omega
    · exact hl
  refine ⟨i - 1, by omega, ?_⟩
  rcases Nat.eq_or_lt_of_le h16 with he | hl
  · right
    subst he
    have := h2 16384 (by decide) (by decide)
    rw [show scN 16384 = 512 by decide] at this
    exact ⟨by decide, .inl ⟨this, rfl⟩⟩
  · left
    have h3 := h1 (i - 1) (by omega)
    have h4 := scN_pos (c := i - 1) (by omega)
    refine ⟨riB_iff.2 (.inr ⟨by omega, by omega⟩), .inr ⟨by omega, by omega, by omega, h3, ?_⟩⟩
    rcases Nat.eq_or_lt_of_le hi with he | hl2
    · left; omega
    · right
      rw [show i - 1 + 1 = i by omega]
      exact h2 i (Nat.le_refl _) hl2

set_option maxHeartbeats 1000000 in
theorem codeOf_calls (x : Nat) (hx : x ≤ 1023 * 2147483648) (w : World) : Calls Try.prog 32 #[.int .i64 (x : Int)] w fun e w' => (∃ c : Nat, e = .returned (.int .u16 (c : Int)) ∧ IsN x c) ∧ Below w.heap.size w w' := by
  have A0 : Below w.heap.size w (w.alloc (.cells #[.int .i64 (x : Int)] 3)) := (Below.refl _ w).alloc (Nat.le_refl _) _
  have c0 := (bk_new w #[.int .i64 (x : Int)] 3).cell 0 _ rfl
  have HS := search_calls x w.heap.size (w.alloc (.cells #[.int .i64 (x : Int)] 3)) (by simp) c0
  clear c0 hx
  go_enter Try.func32, Try.ntmps32
  go_wp2_with fail
  refine HS.mono ?_
  rintro e w1 ⟨⟨i, rfl, hi, hI⟩, b1⟩
  have B1 : Below w.heap.size w w1 := A0.trans (b1.mono (by simp))
  obtain ⟨j, hj, hJ⟩ := inS_code hI hi
  have hij : (i : Int) - 1 = (j : Int) := by omega
  have hw : IntKind.u16.wrap (j : Int) = (j : Int) := wraps_u16 _ (by omega) (by omega)
  have hj2 : j ≤ 32767 := by omega
  have hi0 : 1 ≤ i := by omega
  have HR := fun w => right_calls j (by omega) w
  have HJ : Hid (riB j = true ∧ IsN x j ∨ riB j = false ∧ IsN x 0) := hJ
  clear hI hj hJ b1 A0 HS
  go_wp2_with fail
  refine (HR _).mono ?_
  rintro e w2 ⟨rfl, rfl⟩
  rcases HJ.out with ⟨h, hN⟩ | ⟨h, hN⟩
  · rw [h]
    go_wp2
    go_ret
    exact ⟨⟨j, rfl, hN⟩, B1⟩
  · rw [h]
    go_wp2
    go_ret
    exact ⟨⟨0, rfl, hN⟩, B1⟩

set_option maxHeartbeats 4000000 in
theorem next_calls (now peak least : Nat) (h1 : now < 65536) (h2 : peak < 65536) (h3 : least < 65536) (r : Rm) (h : r.Ok) (w : World) : Calls Try.prog 17 #[.int .u16 (now : Int), .int .u16 (peak : Int), .int .u16 (least : Int), .agg (rmV r)] w fun e w' => (∃ c : Nat, e = .returned (.int .u16 (c : Int)) ∧ IsN (nextN now peak least r) c) ∧ Below w.heap.size w w' := by
  have A0 : Below w.heap.size w (w.alloc (.cells (rmV r) 31)) := (Below.refl _ w).alloc (Nat.le_refl _) _
  have K0 := bk_new w (rmV r) 31
  obtain ⟨_, _, c2, c3, _, c5, _⟩ := K0.rm
  have S1 := fun w => scaled_calls now h1 w
  have S2 := fun w => scaled_calls peak h2 w
  have S3 := fun w => scaled_calls least h3 w
  have S4 := fun w => scaled_calls r.er h.er w
  have l1 := scN_le now
  have l2 := scN_le peak
  have l3 := scN_le least
  have l4 := scN_le r.er
  have HN : Hid (nextN now peak least r = max (min (min (if r.ci = true then scN now - scN now / 16 else if r.ni = true then scN now else scN now + scN peak / 16) (scN r.er)) (scN peak)) (scN least)) := rfl
  generalize nextN now peak least r = X at *
  generalize scN now = s1 at *
  generalize scN peak = s2 at *
  generalize scN least = s3 at *
  generalize scN r.er = s4 at *
  clear h K0
  generalize hW : w.alloc (.cells (rmV r) 31) = W at *
  have i1 : (s1 : Int) ≤ 2196875771904 := by omega
  have i2 : (s2 : Int) ≤ 2196875771904 := by omega
  have i3 : (s3 : Int) ≤ 2196875771904 := by omega
  have i4 : (s4 : Int) ≤ 2196875771904 := by omega
  clear l1 l2 l3 l4
  go_enter Try.func17, Try.ntmps17
  go_wp2_with fail
  refine (S1 _).mono ?_
  rintro e w1 ⟨rfl, rfl⟩
  go_wp2_with fail
  refine (S2 _).mono ?_
  rintro e w1 ⟨rfl, rfl⟩
  cases hci : r.ci with
  | true =>
    rw [hci] at c2 HN
    rw [if_pos rfl] at HN
    have e1 : (s1 : Int) - (s1 : Int) / 16 = ((s1 - s1 / 16 : Nat) : Int) := by omega
    have e2 : wrap64 ((s1 : Int) - (s1 : Int) / 16) = ((s1 - s1 / 16 : Nat) : Int) := by unfold wrap64; omega
    have l5 : ((s1 - s1 / 16 : Nat) : Int) ≤ 2196875771904 := by omega
    generalize s1 - s1 / 16 = y at *
    go_wp2_with fail
    refine (S4 _).mono ?_
    rintro e w1 ⟨rfl, rfl⟩
    go_wp2_with fail
    all_goals
      refine (S3 _).mono ?_
      rintro e w1 ⟨rfl, rfl⟩
      go_wp2_with fail
      all_goals
        refine (codeOf_calls _ (by omega) _).mono ?_
        rintro e w2 ⟨⟨c, rfl, hN⟩, b2⟩
        have HC : Hid (IsN X c) := by
          have h5 := HN.out
          refine (?_ : ∀ z, X = z → IsN z c → IsN X c) _ ?_ hN
          · rintro z rfl hz; exact hz
          · omega
        clear hN
        go_wp2
        go_ret
        exact ⟨⟨c, rfl, HC.out⟩, A0.trans (b2.mono A0.size)⟩
  | false =>
    rw [hci] at c2 HN
    rw [if_neg (by decide)] at HN
    cases hni : r.ni with
    | true =>
      rw [hni] at c3 HN
      rw [if_pos rfl] at HN
      have l5 := i1
      go_wp2_with fail
      refine (S4 _).mono ?_
      rintro e w1 ⟨rfl, rfl⟩
      go_wp2_with fail
      all_goals
        refine (S3 _).mono ?_
        rintro e w1 ⟨rfl, rfl⟩
        go_wp2_with fail
        all_goals
          refine (codeOf_calls _ (by omega) _).mono ?_
          rintro e w2 ⟨⟨c, rfl, hN⟩, b2⟩
          have HC : Hid (IsN X c) := by
            have h5 := HN.out
            refine (?_ : ∀ z, X = z → IsN z c → IsN X c) _ ?_ hN
            · rintro z rfl hz; exact hz
            · omega
          clear hN
          go_wp2
          go_ret
          exact ⟨⟨c, rfl, HC.out⟩, A0.trans (b2.mono A0.size)⟩
    | false =>
      rw [hni] at c3 HN
      rw [if_neg (by decide)] at HN
      have e1 : (s1 : Int) + (s2 : Int) / 16 = ((s1 + s2 / 16 : Nat) : Int) := by omega
      have l5 : ((s1 + s2 / 16 : Nat) : Int) ≤ 4393751543808 := by omega
      generalize s1 + s2 / 16 = y at *
      go_wp2_with fail
      refine (S4 _).mono ?_
      rintro e w1 ⟨rfl, rfl⟩
      go_wp2_with fail
      all_goals
        refine (S3 _).mono ?_
        rintro e w1 ⟨rfl, rfl⟩
        go_wp2_with fail
        all_goals
          refine (codeOf_calls _ (by omega) _).mono ?_
          rintro e w2 ⟨⟨c, rfl, hN⟩, b2⟩
          have HC : Hid (IsN X c) := by
            have h5 := HN.out
            refine (?_ : ∀ z, X = z → IsN z c → IsN X c) _ ?_ hN
            · rintro z rfl hz; exact hz
            · omega
          clear hN
          go_wp2
          go_ret
          exact ⟨⟨c, rfl, HC.out⟩, A0.trans (b2.mono A0.size)⟩
end Go.Proofs.Ytfkikbnokjbnhaa
