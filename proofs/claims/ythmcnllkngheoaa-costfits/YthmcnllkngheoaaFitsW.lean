/- Proved here: the walk of CostFits. Conditions: as each theorem states them. -/
import Derived.Deep.DeepCutAuto
import Derived.OpenShut
import Derived.Test.YthmcnllkngheoaaAw
import Derived.Test.YthmcnllkngheoaaSm
namespace Go.Proofs.Ythmcnllkngheoaa
set_option linter.unusedSimpArgs false
set_option linter.unusedVariables false
open Go.RowKit Go.Shelf

set_option maxHeartbeats 1000000 in
theorem fits_zero (k p e w b l r : Int) (hn : needN k p e w b l = 0) (W : World) :
    Calls Try.prog 9 #[cV k p e w b l, .int .u32 r] W fun e w' => e = .returned (.bool true) ∧ Below W.heap.size W w' := by
  have HN : Hid (needN k p e w b l = 0) := hn
  have C0 := cc_new W k p e w b l
  clear hn
  go_enter Try.func9, Try.ntmps9
  go_wp2_with fail
  refine (awake_calls _).mono ?_
  rintro x w1 ⟨rfl, b1⟩
  have C1 := C0.below b1 C0.lt
  have B1 := below_box2 b1
  clear C0 b1
  obtain ⟨c0, c1, c2, c3, c4, c5⟩ := C1.facts
  go_wp2_with fail
  refine (need_calls k p e w b l _).mono ?_
  rintro x w2 ⟨rfl, b2⟩
  rw [HN.out]
  have B2 := B1.trans (b2.mono B1.size)
  clear C1 b2 B1 c0 c1 c2 c3 c4 c5
  go_wp2
  go_ret
  exact ⟨rfl, B2⟩

set_option maxHeartbeats 1000000 in
theorem fits_many (k p e w b l r n q : Int) (hn : needN k p e w b l = n) (n0 : 1 ≤ n) (n1 : n ≤ 1048576) (r0 : 0 ≤ r) (r1 : r < 4294967296) (hq : r.tdiv n = q) (q0 : 300 < q) (W : World) :
    Calls Try.prog 9 #[cV k p e w b l, .int .u32 r] W fun e w' => e = .returned (.bool true) ∧ Below W.heap.size W w' := by
  have HN : Hid (needN k p e w b l = n) := hn
  have hz : (n == 0) = false := beq_false_of_ne (by omega)
  have q1 : q ≤ 4294967296 := by rw [← hq, Int.tdiv_eq_ediv_of_nonneg r0]; have := Int.ediv_le_self n r0; omega
  have C0 := cc_new W k p e w b l
  clear hn
  go_enter Try.func9, Try.ntmps9
  go_wp2_with fail
  refine (awake_calls _).mono ?_
  rintro x w1 ⟨rfl, b1⟩
  have C1 := C0.below b1 C0.lt
  have B1 := below_box2 b1
  clear C0 b1
  obtain ⟨c0, c1, c2, c3, c4, c5⟩ := C1.facts
  go_wp2_with fail
  refine (need_calls k p e w b l _).mono ?_
  rintro x w2 ⟨rfl, b2⟩
  rw [HN.out]
  have B2 := B1.trans (b2.mono B1.size)
  clear C1 b2 B1 c0 c1 c2 c3 c4 c5
  go_wp2
  go_ret
  exact ⟨rfl, B2⟩

theorem fits_plain {n r q : Int} {m : Nat} (n0 : 1 ≤ n) (r0 : 0 ≤ r) (hq : r.tdiv n = q) (hm : q = m) : 0 ≤ q ∧ m * n ≤ r ∧ r < m * n + n := by
  rw [Int.tdiv_eq_ediv_of_nonneg r0] at hq
  have h1 := Int.mul_ediv_add_emod r n
  have h2 := Int.emod_nonneg r (show n ≠ 0 by omega)
  have h3 := Int.emod_lt_of_pos r (show 0 < n by omega)
  rw [hq, hm, Int.mul_comm] at h1
  omega

set_option maxHeartbeats 4000000 in
theorem fits_loop (k p e w b l r n q : Int) (m : Nat) (hn : needN k p e w b l = n) (n0 : 1 ≤ n) (n1 : n ≤ 1048576) (r0 : 0 ≤ r) (r1 : r < 4294967296) (hq : r.tdiv n = q) (hqm : q = m) (hm : m ≤ 300) (W : World) :
    Calls Try.prog 9 #[cV k p e w b l, .int .u32 r] W fun e w' => e = .returned (.bool true) ∧ Below W.heap.size W w' := by
  obtain ⟨q0, f1, f2⟩ := fits_plain (n := n) (r := r) (q := q) (m := m) n0 r0 hq hqm
  have HN : Hid (needN k p e w b l = n) := hn
  have hz : (n == 0) = false := beq_false_of_ne (by omega)
  have hS : Hid (∀ j : Nat, sumC (List.replicate j (⟨k, p, e, w, b, l⟩ : C6)) = j * n) := fun j => by rw [sumC_rep]; show _ * needN k p e w b l = _; rw [hn]
  have C0 := cc_new W k p e w b l
  subst hqm
  clear hn
  go_enter Try.func9, Try.ntmps9
  go_wp2_with fail
  refine (awake_calls _).mono ?_
  rintro x w1 ⟨rfl, b1⟩
  have C1 := C0.below b1 C0.lt
  have B1 := below_box2 b1
  clear C0 b1
  obtain ⟨c0, c1, c2, c3, c4, c5⟩ := C1.facts
  go_wp2_with fail
  refine (need_calls k p e w b l _).mono ?_
  rintro x w2 ⟨rfl, b2⟩
  rw [HN.out]
  have C2 := C1.below b2 C1.lt
  have B2 := B1.trans (b2.mono B1.size)
  have s2 := C2.lt
  clear C1 b2 B1 c0 c1 c2 c3 c4 c5
  go_wp2_with fail
  go_loopw [6, 24] (fun sv iv wr => ∃ (i : Nat) (a : Option Addr) (c : Nat), i ≤ m ∧ iv = .int .i64 i ∧ sv = .slice a i c ∧ CS (W.heap.size + 1) wr a i c (List.replicate i ⟨k, p, e, w, b, l⟩) ∧ CC wr W.heap.size k p e w b l ∧ Below W.heap.size W wr) (fun _ iv _ => m - (intOf iv).toNat)
  case atStart => exact ⟨0, none, 0, Nat.zero_le _, rfl, rfl, cs_nil _ _, C2, B2⟩
  case round =>
    obtain ⟨i, a, c, hi, rfl, rfl, hCS, C3, B3⟩ := hrel
    have s3 := C3.lt
    obtain ⟨c0, c1, c2, c3, c4, c5⟩ := C3.facts
    by_cases hlt : i < m
    · have hx := cs_lit (W.heap.size + 1) wr (by omega) ⟨k, p, e, w, b, l⟩
      have bx := below_box wr (.cells #[.int .i64 k, .int .i64 p, .int .i64 e, .int .i64 w, .int .i64 b, .int .i64 l] 23)
      obtain ⟨a', c', w', hap, own, bel⟩ := run_app_t _ (W.heap.size + 1) (by simp; omega) a i c _ (hCS.below bx (Nat.le_refl _)) 32 _ _ 1 1 _ hx.isT (by omega)
      have HO : Hid (CS (W.heap.size + 1) w' a' (i + 1) c' (List.replicate (i + 1) ⟨k, p, e, w, b, l⟩)) := by show CS _ _ _ _ _ _; rw [List.replicate_succ']; exact own
      have bel2 : Below (W.heap.size + 1) wr w' := (bx.mono (by omega)).trans bel
      have HC : Hid (CC w' W.heap.size k p e w b l) := C3.below bel2 (by omega)
      have HB : Hid (Below W.heap.size W w') := B3.trans (bel2.mono (by omega))
      clear own bel bel2 C3 B3 hx bx hCS
      go_wp2_with (at_builtin; refine wpList_app hap _ _ rfl rfl rfl rfl rfl ?_)
      go_roundw
      case rel => exact ⟨i + 1, a', c', by omega, by go_num, rfl, HO.out, HC.out, HB.out⟩
      case measure => simp [intOf]; omega
    · obtain rfl : i = m := by omega
      have S1 := hS.out i
      have S2 : sumC (List.replicate i (⟨k, p, e, w, b, l⟩ : C6) ++ [(⟨k, p, e, w, b, l⟩ : C6)]) = i * n + n := by rw [← List.replicate_succ', hS.out (i + 1)]; push_cast; rw [Int.add_mul]; omega
      obtain ⟨u, hu⟩ : ∃ u : Int, (i : Int) * n = u := ⟨_, rfl⟩
      rw [hu] at S1 S2 f1 f2
      have H1 : Hid (sumC (List.replicate i (⟨k, p, e, w, b, l⟩ : C6)) = u) := S1
      have H2 : Hid (sumC (List.replicate i (⟨k, p, e, w, b, l⟩ : C6) ++ [(⟨k, p, e, w, b, l⟩ : C6)]) = u + n) := S2
      have hd1 : decide (u ≤ r) = true := decide_eq_true f1
      have hd2 : decide (r < u + n) = true := decide_eq_true f2
      have hll : (List.replicate i (⟨k, p, e, w, b, l⟩ : C6)).length ≤ 1000 := by rw [List.length_replicate]; omega
      clear S1 S2 hu hS
      go_wp2_with fail
      refine (sum_calls a i c _ hll _ hCS.isT).mono ?_
      rintro x w4 ⟨rfl, b4⟩
      rw [H1.out]
      have C4 := C3.below b4 s3
      have B4 := B3.trans (b4.mono (by omega))
      have K4 := hCS.below b4 (Nat.le_refl _)
      have s4 := C4.lt
      have s5 := b4.size
      clear c0 c1 c2 c3 c4 c5 C3 B3 hCS b4
      obtain ⟨c0, c1, c2, c3, c4, c5⟩ := C4.facts
      have hx := cs_lit (W.heap.size + 1) w4 (by omega) ⟨k, p, e, w, b, l⟩
      have bx := below_box w4 (.cells #[.int .i64 k, .int .i64 p, .int .i64 e, .int .i64 w, .int .i64 b, .int .i64 l] 23)
      obtain ⟨a', c', w', hap, own, bel⟩ := run_app_t _ (W.heap.size + 1) (by simp; omega) a i c _ (K4.below bx (Nat.le_refl _)) 32 _ _ 1 1 _ hx.isT (by omega)
      have B5 : Below W.heap.size W w' := B4.trans (((bx.mono (by omega)).trans bel).mono (by omega))
      have HO : Hid (IsT w'.heap.size w' a' (i + 1) c' _) := own.isT
      have hl2 : (List.replicate i (⟨k, p, e, w, b, l⟩ : C6) ++ [(⟨k, p, e, w, b, l⟩ : C6)]).length ≤ 1000 := by rw [List.length_append, List.length_replicate]; simp; omega
      clear own bel hx bx K4 B4
      go_wp2_with (at_builtin; refine wpList_app hap _ _ rfl rfl rfl rfl rfl ?_)
      refine (sum_calls a' (i + 1) c' _ hl2 _ HO.out).mono ?_
      rintro x w5 ⟨rfl, b5⟩
      rw [H2.out]
      have B6 := B5.trans (b5.mono B5.size)
      clear b5 B5 HO hap
      go_wp2
      go_ret
      exact ⟨rfl, B6⟩

theorem fits_walk (k p e w b l r : Int) (r0 : 0 ≤ r) (r1 : r < 4294967296) (W : World) :
    Calls Try.prog 9 #[cV k p e w b l, .int .u32 r] W fun e w' => e = .returned (.bool true) ∧ Below W.heap.size W w' := by
  have nb := need_bounds k p e w b l
  by_cases hn : needN k p e w b l = 0
  · exact fits_zero k p e w b l r hn W
  · have q0 : 0 ≤ r.tdiv (needN k p e w b l) := Int.tdiv_nonneg r0 nb.1
    by_cases hq : 300 < r.tdiv (needN k p e w b l)
    · exact fits_many k p e w b l r _ _ rfl (by omega) nb.2 r0 r1 rfl hq W
    · exact fits_loop k p e w b l r _ _ (r.tdiv (needN k p e w b l)).toNat rfl (by omega) nb.2 r0 r1 rfl (by omega) (by omega) W
theorem bounds_w32' {n : Int} (h : (Lit.int .u32 n).wf = true) : 0 ≤ n ∧ n < 4294967296 := by
  have := bounds_u32 h
  omega
end Go.Proofs.Ythmcnllkngheoaa
