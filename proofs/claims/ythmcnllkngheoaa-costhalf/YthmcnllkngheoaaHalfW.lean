/- Proved here: the walk of CostHalf. Conditions: as each theorem states them. -/
import Derived.Deep.DeepCutAuto
import Derived.OpenShut
import Derived.Test.YthmcnllkngheoaaRNd
import Derived.Test.YthmcnllkngheoaaAw
namespace Go.Proofs.Ythmcnllkngheoaa
set_option linter.unusedSimpArgs false
set_option linter.unusedVariables false
set_option maxRecDepth 20000
open Go.RowKit Go.Shelf

theorem half_ok {k p w b : Int} (k2 : 2 ≤ k) (k4 : k ≤ 4) (hp : 1 ≤ p) (hw : p ≤ w) (hw1 : w ≤ 1099511627776) (hb : 0 ≤ b) (hb1 : b ≤ 1099511627776) : okB k p 0 w b 0 = true := by
  rw [okB_iff, canB_vbr (vbrB_iff.2 ⟨k2, k4⟩)]
  omega
theorem half_facts {k p w b : Int} (k2 : 2 ≤ k) (k4 : k ≤ 4) (hp : 1 ≤ p) (hw : p ≤ w) (hw1 : w ≤ 1099511627776) (hb : 0 ≤ b) (hb1 : b ≤ 1099511627776) :
    needN k p 0 w 4096 0 = (perN p + perN w + 1).tdiv 2 ∧ (b ≤ 4096 → needN k p 0 w b 0 ≤ needN k p 0 w 4096 0) ∧ (4096 ≤ b → needN k p 0 w 4096 0 ≤ needN k p 0 w b 0) := by
  have hv := vbrB_iff.2 ⟨k2, k4⟩
  have h := half_ok k2 k4 hp hw hw1 hb hb1
  have h4 := half_ok k2 k4 hp hw hw1 (show (0 : Int) ≤ 4096 by omega) (by omega)
  have hq := ok_pers h hv
  rw [needN_vbr h hv, needN_vbr h4 hv]
  exact ⟨betN_half hq.1 hq.2.1, fun hl => betN_mono hq.1 hq.2.1 hb (Int.le_refl _) (Int.le_refl _) hq.2.1 hl, fun hl => betN_mono hq.1 hq.2.1 (by omega) (Int.le_refl _) (Int.le_refl _) hq.2.1 hl⟩

set_option maxHeartbeats 8000000 in
theorem half_walk (a m q b : Int) (a0 : 0 ≤ a) (a1 : a < 4294967296) (m0 : 0 ≤ m) (m1 : m < 4294967296) (q0 : 0 ≤ q) (q1 : q < 256) (b0 : 0 ≤ b) (b1 : b < 4294967296) (W : World) :
    Calls Try.prog 8 #[.int .u32 a, .int .u32 m, .int .u8 q, .int .u32 b] W fun e w' => e = .returned (.bool true) ∧ Below W.heap.size W w' := by
  obtain ⟨d, hd⟩ : ∃ d, q.tmod 3 = d := ⟨_, rfl⟩
  have d0 : 0 ≤ d ∧ d < 3 := by rw [← hd, Int.tmod_eq_emod_of_nonneg q0]; omega
  obtain ⟨g1, g2, g3⟩ := half_facts (k := 2 + d) (p := 1 + a) (w := 1 + a + m) (b := b) (by omega) (by omega) (by omega) (by omega) (by omega) b0 (by omega)
  have ho : okB (2 + d) (1 + a) 0 (1 + a + m) 4096 0 = true := half_ok (b := 4096) (by omega) (by omega) (by omega) (by omega) (by omega) (by omega) (by omega)
  obtain ⟨p, hp⟩ : ∃ p, perN (1 + a) = p := ⟨_, rfl⟩
  obtain ⟨s, hs⟩ : ∃ s, perN (1 + a + m) = s := ⟨_, rfl⟩
  obtain ⟨n, hn⟩ : ∃ n, needN (2 + d) (1 + a) 0 (1 + a + m) 4096 0 = n := ⟨_, rfl⟩
  obtain ⟨u, hu⟩ : ∃ u, needN (2 + d) (1 + a) 0 (1 + a + m) b 0 = u := ⟨_, rfl⟩
  have p0 : 0 ≤ p ∧ p ≤ 1048576 := by rw [← hp]; exact perN_bounds _
  have s0 : 0 ≤ s ∧ s ≤ 1048576 := by rw [← hs]; exact perN_bounds _
  rw [hp, hs, hn] at g1
  rw [hn, hu] at g2 g3
  have HP : Hid (perN (1 + a) = p) := hp
  have HS : Hid (perN (1 + a + m) = s) := hs
  have HN : Hid (needN (2 + d) (1 + a) 0 (1 + a + m) 4096 0 = n) := hn
  have HU : Hid (needN (2 + d) (1 + a) 0 (1 + a + m) b 0 = u) := hu
  have HO : Hid (okB (2 + d) (1 + a) 0 (1 + a + m) 4096 0 = true) := ho
  clear hp hs hn hu ho
  have p1 := p0.1
  have p2 := p0.2
  have s1 := s0.1
  have s2 := s0.2
  clear p0 s0
  have G2 : Hid (b ≤ 4096 → u ≤ n) := g2
  have G3 : Hid (4096 ≤ b → n ≤ u) := g3
  have G1 : Hid (n = (p + s + 1).tdiv 2) := g1
  clear g1 g2 g3
  go_enter Try.func8, Try.ntmps8
  go_wp2_with fail
  refine (awake_calls _).mono ?_
  rintro x1 w1 ⟨rfl, b1'⟩
  go_wp2_with fail
  clear hd
  have C1 := cc_new w1 (2 + d) (1 + a) 0 (1 + a + m) 4096 0
  have B1 := b1'.trans ((below_box w1 (.cells #[.int .i64 (2 + d), .int .i64 (1 + a), .int .i64 0, .int .i64 (1 + a + m), .int .i64 4096, .int .i64 0] 23)).mono b1'.size)
  obtain ⟨r, hr⟩ : ∃ r, w1.heap.size = r := ⟨_, rfl⟩
  rw [hr] at C1 ⊢
  have r0 : W.heap.size ≤ r := by rw [← hr]; exact b1'.size
  generalize w1.alloc (.cells #[.int .i64 (2 + d), .int .i64 (1 + a), .int .i64 0, .int .i64 (1 + a + m), .int .i64 4096, .int .i64 0] 23) = w2 at *
  clear hr b1'
  refine wp_region_held_drew (S := (fun w' => Below w2.heap.size w2 w')) (by kernel_rfl) (Below.refl _ w2).drew (fun hHeld => ?_)
  refine wpAnyH_take (i := 0) (oi := ({ dst := some 31, op := Op.fieldAddr 23 (Operand.tmp 9) 1, type := 0, pos := _, after := #[], guard := none } : Oper)) (v := ?_) rfl (by kernel_rfl) (by kernel_rfl) (by kernel_rfl) (fun _ _ _ h => h) (Or.inl ⟨by rfl, ?_⟩) hHeld ?_
  rotate_left
  · (intro w hS; go_simp; try with_reducible rfl)
  try simp only [Act.put, List.setIfInBounds_toArray, List.set_cons_zero, List.set_cons_succ]
  refine wpAnyH_take (i := 1) (oi := ({ dst := some 32, op := Op.load 3 (Operand.tmp 31), type := 3, pos := _, after := #[{ on := 0, ground := Ground.data }], guard := none } : Oper))  rfl (by kernel_rfl) (by kernel_rfl) (by kernel_rfl) (fun _ _ _ h => h) (yields_ld rfl rfl rfl (fun w hS => load_int (C1.below hS C1.lt).facts.2.1)) hHeld ?_
  try simp only [Act.put, List.setIfInBounds_toArray, List.set_cons_zero, List.set_cons_succ]
  refine wpAnyH_take (i := 3) (oi := ({ dst := some 34, op := Op.fieldAddr 23 (Operand.tmp 9) 3, type := 0, pos := _, after := #[], guard := none } : Oper)) (v := ?_) rfl (by kernel_rfl) (by kernel_rfl) (by kernel_rfl) (fun _ _ _ h => h) (Or.inl ⟨by rfl, ?_⟩) hHeld ?_
  rotate_left
  · (intro w hS; go_simp; try with_reducible rfl)
  try simp only [Act.put, List.setIfInBounds_toArray, List.set_cons_zero, List.set_cons_succ]
  refine wpAnyH_take (i := 4) (oi := ({ dst := some 35, op := Op.load 3 (Operand.tmp 34), type := 3, pos := _, after := #[{ on := 3, ground := Ground.data }], guard := none } : Oper))  rfl (by kernel_rfl) (by kernel_rfl) (by kernel_rfl) (fun _ _ _ h => h) (yields_ld rfl rfl rfl (fun w hS => load_int (C1.below hS C1.lt).facts.2.2.2.1)) hHeld ?_
  try simp only [Act.put, List.setIfInBounds_toArray, List.set_cons_zero, List.set_cons_succ]
  refine wpAnyH_ready (rs := [2]) (by kernel_rfl) (by simp) ?_
  refine AllReadyH.cons (o := ({ dst := some 33, op := Op.call { callee := Callee.value (Operand.func 13), args := #[Operand.tmp 32], argTypes := #[3] }, type := 3, pos := _, after := #[{ on := 1, ground := Ground.data }], guard := none } : Oper)) rfl (fun K hK => ?_) AllReadyH.nil
  refine step_call (per_calls (1 + a) _) (enters_of Try.func13 (by kernel_rfl) rfl) _ _ rfl rfl rfl ?_
  rintro x w6 ⟨rfl, rfl⟩
  rw [HP.out]
  refine ⟨_, rfl, hK.out _ _ hHeld (fun hHeld => ?_)⟩
  clear hK K
  try simp only [Act.put, List.setIfInBounds_toArray, List.set_cons_zero, List.set_cons_succ]
  refine wpAnyH_ready (rs := [5]) (by kernel_rfl) (by simp) ?_
  refine AllReadyH.cons (o := ({ dst := some 36, op := Op.call { callee := Callee.value (Operand.func 13), args := #[Operand.tmp 35], argTypes := #[3] }, type := 3, pos := _, after := #[{ on := 4, ground := Ground.data }, { on := 2, ground := Ground.chain }], guard := none } : Oper)) rfl (fun K hK => ?_) AllReadyH.nil
  refine step_call (per_calls (1 + a + m) _) (enters_of Try.func13 (by kernel_rfl) rfl) _ _ rfl rfl rfl ?_
  rintro x w7 ⟨rfl, rfl⟩
  rw [HS.out]
  refine ⟨_, rfl, hK.out _ _ hHeld (fun hHeld => ?_)⟩
  clear hK K
  try simp only [Act.put, List.setIfInBounds_toArray, List.set_cons_zero, List.set_cons_succ]
  refine wpAnyH_take (i := 6) (oi := ({ dst := some 10, op := Op.assign (Operand.tmp 33), type := 3, pos := _, after := #[{ on := 2, ground := Ground.data }, { on := 5, ground := Ground.chain }, { on := 0, ground := Ground.phase }, { on := 1, ground := Ground.phase }, { on := 2, ground := Ground.phase }, { on := 3, ground := Ground.textOnly Departure.lateStores }, { on := 4, ground := Ground.textOnly Departure.lateStores }, { on := 5, ground := Ground.textOnly Departure.lateStoresUnsure }], guard := none } : Oper)) (v := ?_) rfl (by kernel_rfl) (by kernel_rfl) (by kernel_rfl) (fun _ _ _ h => h) (Or.inl ⟨by rfl, ?_⟩) hHeld ?_
  rotate_left
  · (intro w hS; go_simp; try with_reducible rfl)
  try simp only [Act.put, List.setIfInBounds_toArray, List.set_cons_zero, List.set_cons_succ]
  refine wpAnyH_take (i := 7) (oi := ({ dst := some 11, op := Op.assign (Operand.tmp 36), type := 3, pos := _, after := #[{ on := 5, ground := Ground.data }, { on := 6, ground := Ground.chain }, { on := 0, ground := Ground.phase }, { on := 1, ground := Ground.phase }, { on := 2, ground := Ground.phase }, { on := 3, ground := Ground.phase }, { on := 4, ground := Ground.phase }, { on := 5, ground := Ground.phase }, { on := 6, ground := Ground.phase }], guard := none } : Oper)) (v := ?_) rfl (by kernel_rfl) (by kernel_rfl) (by kernel_rfl) (fun _ _ _ h => h) (Or.inl ⟨by rfl, ?_⟩) hHeld ?_
  rotate_left
  · (intro w hS; go_simp; try with_reducible rfl)
  try simp only [Act.put, List.setIfInBounds_toArray, List.set_cons_zero, List.set_cons_succ]
  refine wpAnyH_done (by kernel_rfl) ?_ _
  have C2 := C1.below hHeld C1.lt
  have B2 := B1.trans (hHeld.mono B1.size)
  clear hHeld C1 B1
  generalize w2.drew = w3 at *
  obtain ⟨c0, c1, c2, c3, c4, c5⟩ := C2.facts
  go_wp2_with fail
  refine (need_calls _ _ _ _ _ _ _).mono ?_
  rintro x w4 ⟨rfl, b4⟩
  rw [HN.out]
  have C3 := C2.below b4 C2.lt
  have B3 := B2.trans (b4.mono B2.size)
  clear c0 c1 c2 c3 c4 c5 C2 B2 b4
  obtain ⟨c0, c1, c2, c3, c4, c5⟩ := C3.facts
  go_wp2_with fail
  have C4 := C3.below (below_box w4 (.cells #[.int .i64 (2 + d), .int .i64 (1 + a), .int .i64 0, .int .i64 (1 + a + m), .int .i64 b, .int .i64 0] 23)) C3.lt
  have B4 := B3.trans ((below_box w4 (.cells #[.int .i64 (2 + d), .int .i64 (1 + a), .int .i64 0, .int .i64 (1 + a + m), .int .i64 b, .int .i64 0] 23)).mono B3.size)
  generalize w4.alloc (.cells #[.int .i64 (2 + d), .int .i64 (1 + a), .int .i64 0, .int .i64 (1 + a + m), .int .i64 b, .int .i64 0] 23) = w5 at *
  generalize w4.heap.size = r4 at *
  clear c0 c1 c2 c3 c4 c5 C3 B3
  refine (need_calls _ _ _ _ _ _ _).mono ?_
  rintro x w6 ⟨rfl, b6⟩
  rw [HU.out]
  have C6 := C4.below b6 C4.lt
  have B6 := B4.trans (b6.mono B4.size)
  clear C4 B4 b6
  obtain ⟨c0, c1, c2, c3, c4, c5⟩ := C6.facts
  go_wp2_with fail
  refine (refright_ok HO.out _).mono ?_
  rintro x w7 ⟨rfl, b7⟩
  have B7 := B6.trans (b7.mono B6.size)
  clear c0 c1 c2 c3 c4 c5 C6 B6 b7
  have HH : Hid (n = (p + s + 1) / 2) := by show _ = _; rw [← Int.tdiv_eq_ediv_of_nonneg (by omega)]; exact G1.out
  clear G1 HP HS HN HU HO
  rcases Int.lt_trichotomy b 4096 with hb | rfl | hb
  · have g := G2.out (by omega)
    clear G2 G3
    go_wp2
    go_ret
    refine ⟨ret_b ?_, B7⟩
    have hz := HH.out
    simp only [Bool.or_eq_true, decide_eq_true_eq]
    omega
  · have g2 := G2.out (by omega)
    have g3 := G3.out (by omega)
    clear G2 G3
    go_wp2
    go_ret
    refine ⟨ret_b ?_, B7⟩
    have hz := HH.out
    simp only [Bool.or_eq_true, decide_eq_true_eq]
    omega
  · have g := G3.out (by omega)
    clear G2 G3
    go_wp2
    go_ret
    refine ⟨ret_b ?_, B7⟩
    have hz := HH.out
    simp only [Bool.or_eq_true, decide_eq_true_eq]
    omega
theorem bounds_w32 {n : Int} (h : (Lit.int .u32 n).wf = true) : 0 ≤ n ∧ n < 4294967296 := by
  have := bounds_u32 h
  omega
theorem bounds_w8 {n : Int} (h : (Lit.int .u8 n).wf = true) : 0 ≤ n ∧ n < 256 := by
  have := bounds_u8 h
  omega
end Go.Proofs.Ythmcnllkngheoaa
