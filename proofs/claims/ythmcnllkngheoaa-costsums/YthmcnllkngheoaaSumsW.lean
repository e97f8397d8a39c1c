/- Proved here: the walk of CostSums. Conditions: as each theorem states them. -/
import Derived.Deep.DeepCutAuto
import Derived.Test.YthmcnllkngheoaaRNd
import Derived.Test.YthmcnllkngheoaaAw
import Derived.Test.YthmcnllkngheoaaSm
namespace Go.Proofs.Ythmcnllkngheoaa
set_option linter.unusedSimpArgs false
set_option linter.unusedVariables false
open Go.RowKit Go.Shelf

set_option maxHeartbeats 1000000 in
theorem sums_long (a b : Option Addr) (la ca lb cb : Nat) (h : 100 < la ∨ la ≤ 100 ∧ 100 < lb) (W : World) :
    Calls Try.prog 6 #[.slice a la ca, .slice b lb cb] W fun e w' => e = .returned (.bool true) ∧ Below W.heap.size W w' := by
  rcases h with h | ⟨h1, h2⟩
  · go_enter Try.func6, Try.ntmps6
    go_wp2_with fail
    refine (awake_calls _).mono ?_
    rintro x w1 ⟨rfl, b1⟩
    go_wp2_with fail
    refine (awake_calls _).mono ?_
    rintro x w2 ⟨rfl, b2⟩
    go_wp2
    go_ret
    exact ⟨rfl, b1.trans (b2.mono b1.size)⟩
  · go_enter Try.func6, Try.ntmps6
    go_wp2_with fail
    refine (awake_calls _).mono ?_
    rintro x w1 ⟨rfl, b1⟩
    go_wp2_with fail
    refine (awake_calls _).mono ?_
    rintro x w2 ⟨rfl, b2⟩
    go_wp2
    go_ret
    exact ⟨rfl, b1.trans (b2.mono b1.size)⟩

theorem take_sum {A : List C6} {k : Nat} {x : C6} (h : A[k]? = some x) : sumC (A.take (k + 1)) = sumC (A.take k) + costC x := by
  rw [List.take_add_one, h, ← sumC_snoc]; rfl
theorem take_rev {A : List C6} {k : Nat} {x : C6} (h : A[k]? = some x) : [x] ++ (A.take k).reverse = (A.take (k + 1)).reverse := by
  rw [List.take_add_one, h, List.reverse_append]; rfl

set_option maxHeartbeats 8000000 in
theorem sums_walk0 (a b : Option Addr) (ca cb : Nat) (A B : List C6) (hA : A.length ≤ 100) (hB : B.length ≤ 100) (W : World) (IA : IsT W.heap.size W a A.length ca A) (IB : IsT W.heap.size W b B.length cb B) :
    Calls Try.prog 6 #[.slice a A.length ca, .slice b B.length cb] W fun e w' => e = .returned (.bool true) ∧ Below W.heap.size W w' := by
  go_enter Try.func6, Try.ntmps6
  go_wp2_with fail
  refine (awake_calls _).mono ?_
  rintro x w1 ⟨rfl, b1⟩
  have HIA : Hid (IsT W.heap.size W a A.length ca A) := IA
  have HIB : Hid (IsT W.heap.size W b B.length cb B) := IB
  clear IA IB
  go_wp2_with fail
  go_loopw [5, 24] (fun nv iv wr => ∃ (k : Nat), k ≤ A.length ∧ iv = .int .i64 k ∧ nv = .int .i64 (sumC (A.take k)) ∧ Below W.heap.size W wr) (fun _ iv _ => A.length - (intOf iv).toNat)
  case atStart => exact ⟨0, Nat.zero_le _, rfl, rfl, b1⟩
  case round =>
    obtain ⟨k, hk, rfl, rfl, B1⟩ := hrel
    by_cases hlt : k < A.length
    · obtain ⟨g, off, x, rfl, hg, hx, hc⟩ := HIA.out.at hlt
      obtain ⟨c0, c1, c2, c3, c4, c5⟩ := hc wr (B1.block g hg)
      have HX : Hid (sumC (A.take (k + 1)) = sumC (A.take k) + costC x) := take_sum hx
      obtain ⟨v0, v1⟩ := sumC_bounds (A.take k)
      rw [List.length_take] at v1
      obtain ⟨y0, y1⟩ := costC_bounds x
      have v2 : sumC (A.take k) ≤ 104857600 := by omega
      obtain ⟨xk, xp, xe, xw, xb, xl⟩ := x
      have HC : Hid (costC ⟨xk, xp, xe, xw, xb, xl⟩ = needN xk xp xe xw xb xl) := rfl
      simp only at c0 c1 c2 c3 c4 c5
      clear v1 hc hx
      generalize sumC (A.take k) = V at *
      generalize costC ⟨xk, xp, xe, xw, xb, xl⟩ = Y at *
      go_wp2_with fail
      refine (refneed_calls xk xp xe xw xb xl _).mono ?_
      rintro x w2 ⟨rfl, b2⟩
      rw [← HC.out]
      have HB : Hid (Below W.heap.size W w2) := B1.trans (b2.mono B1.size)
      clear b2 B1 c0 c1 c2 c3 c4 c5
      go_wp2
      go_roundw
      case rel => exact ⟨k + 1, by omega, by go_num, by rw [HX.out], HB.out⟩
      case measure => simp [intOf]; omega
    · obtain rfl : k = A.length := by omega
      have S0 := sumC_bounds A
      have S1 := sumC_bounds B
      have HSR : Hid (sumC A.reverse = sumC A) := sumC_reverse A
      have HSA : Hid (sumC ([] ++ A ++ B) = sumC A + sumC B) := by show _ = _; rw [List.nil_append, sumC_append]
      obtain ⟨s0, s1⟩ := S0
      obtain ⟨t0, t1⟩ := S1
      have s2 : sumC A ≤ 104857600 := by omega
      have t2 : sumC B ≤ 104857600 := by omega
      rw [List.take_length]
      obtain ⟨SA, hSA⟩ : ∃ SA, sumC A = SA := ⟨_, rfl⟩
      obtain ⟨SB, hSB⟩ : ∃ SB, sumC B = SB := ⟨_, rfl⟩
      rw [hSA] at s0 s2 ⊢
      rw [hSB] at t0 t2
      have HA : Hid (sumC A = SA) := hSA
      have HB : Hid (sumC B = SB) := hSB
      clear s1 t1 hk hlt hSA hSB
      go_wp2_with fail
      go_loopw [7, 37] (fun sv iv wq => ∃ (k : Nat) (d : Option Addr) (c : Nat), k ≤ A.length ∧ iv = .int .i64 k ∧ sv = .slice d k c ∧ CS W.heap.size wq d k c (A.take k).reverse ∧ Below W.heap.size W wq) (fun _ iv _ => A.length - (intOf iv).toNat)
      case atStart => exact ⟨0, none, 0, Nat.zero_le _, rfl, rfl, cs_nil _ _, B1⟩
      case round =>
        clear B1
        obtain ⟨k, d, c, hk, rfl, rfl, KS, B1⟩ := hrel
        by_cases hlt : k < A.length
        · obtain ⟨g, off, x, rfl, hg, hx, hc⟩ := HIA.out.at hlt
          obtain ⟨c0, c1, c2, c3, c4, c5⟩ := hc _ (B1.block g hg)
          have HX : Hid ([x] ++ (A.take k).reverse = (A.take (k + 1)).reverse) := take_rev hx
          obtain ⟨xk, xp, xe, xw, xb, xl⟩ := x
          simp only at c0 c1 c2 c3 c4 c5
          have s1 := B1.size
          have hl := cs_lit W.heap.size wr s1 ⟨xk, xp, xe, xw, xb, xl⟩
          have bx := below_box wr (.cells #[.int .i64 xk, .int .i64 xp, .int .i64 xe, .int .i64 xw, .int .i64 xb, .int .i64 xl] 23)
          obtain ⟨d', c', w', hap, own, bel⟩ := run_app_t _ W.heap.size (by simp; omega) _ 1 1 _ hl 32 _ d k c _ (KS.below bx (Nat.le_refl _)).isT (by omega)
          rw [HX.out, Nat.add_comm 1 k] at own
          rw [Nat.add_comm 1 k] at hap
          have HO : Hid (CS W.heap.size w' d' (k + 1) c' (A.take (k + 1)).reverse) := own
          have HBB : Hid (Below W.heap.size W w') := B1.trans ((bx.mono s1).trans bel)
          clear own bel bx hl KS B1 hc hx HX
          go_wp2_with (at_builtin; refine wpList_app hap _ _ rfl rfl rfl rfl rfl ?_)
          go_roundw
          case rel => exact ⟨k + 1, d', c', by omega, by go_num, rfl, HO.out, HBB.out⟩
          case measure => simp [intOf]; omega
        · obtain rfl : k = A.length := by omega
          rw [List.take_length] at KS
          have s1 := B1.size
          have I1 := (HIA.out.below B1 (Nat.le_refl _)).mono s1
          clear hk hlt
          go_wp2_with fail
          refine (sum_calls a A.length ca A (by omega) _ I1).mono ?_
          rintro x w2 ⟨rfl, b2⟩
          rw [HA.out]
          have K2 := (KS.below b2 (Nat.le_refl _)).isT
          have B2 := B1.trans (b2.mono s1)
          have s3 := B2.size
          clear KS b2 B1 I1
          go_wp2_with fail
          refine (sum_calls d A.length c A.reverse (by rw [List.length_reverse]; omega) _ K2).mono ?_
          rintro x w3 ⟨rfl, b3⟩
          rw [HSR.out, HA.out]
          have B3 := B2.trans (b3.mono s3)
          have s4 := B3.size
          clear K2 b3 B2
          have hn := cs_new W.heap.size w3 s4
          have bx := B3.trans ((below_box w3 (.cells #[] 23)).mono s4)
          obtain ⟨d1, c1, w4, hap1, own1, bel1⟩ := run_app_t _ W.heap.size (by simp; omega) _ 0 0 _ hn 32 _ a A.length ca A (HIA.out.below bx (Nat.le_refl _)) (by omega)
          rw [Nat.zero_add] at hap1 own1
          have B4 := bx.trans bel1
          obtain ⟨d2, c2, w5, hap2, own2, bel2⟩ := run_app_t w4 W.heap.size B4.size d1 A.length c1 _ own1 32 _ b B.length cb B (HIB.out.below B4 (Nat.le_refl _)) (by omega)
          have B5 := B4.trans bel2
          have K5 := own2.isT
          have s6 := B5.size
          clear own1 own2 bel1 bel2 hn bx B3 B4
          go_wp2_with (at_builtin; first | (refine wpList_app hap1 _ _ rfl rfl rfl rfl rfl ?_) | (refine wpList_app hap2 _ _ rfl rfl rfl rfl rfl ?_))
          refine (sum_calls d2 (A.length + B.length) c2 ([] ++ A ++ B) (by simp; omega) _ K5).mono ?_
          rintro x w6 ⟨rfl, b6⟩
          rw [HSA.out, HA.out, HB.out]
          have B6 := B5.trans (b6.mono s6)
          have s7 := B6.size
          have I6 := (HIB.out.below B6 (Nat.le_refl _)).mono s7
          clear hap1 hap2 K5 b6 B5
          go_wp2_with fail
          refine (sum_calls b B.length cb B (by omega) _ I6).mono ?_
          rintro x w7 ⟨rfl, b7⟩
          rw [HB.out]
          have B7 := B6.trans (b7.mono s7)
          clear b7 B6 I6
          go_wp2_with fail
          refine (sum_calls none 0 0 [] (by simp) _ (isT_nil _ _)).mono ?_
          rintro x w8 ⟨rfl, b8⟩
          rw [sumC_nil]
          have B8 := B7.trans (b8.mono B7.size)
          clear b8 B7
          go_wp2
          go_ret
          exact ⟨rfl, B8⟩

theorem sums_walk (a b : Option Addr) (la ca lb cb : Nat) (A B : List C6) (W : World) (IA : IsT W.heap.size W a la ca A) (IB : IsT W.heap.size W b lb cb B) :
    Calls Try.prog 6 #[.slice a la ca, .slice b lb cb] W fun e w' => e = .returned (.bool true) ∧ Below W.heap.size W w' := by
  by_cases h : 100 < la ∨ la ≤ 100 ∧ 100 < lb
  · exact sums_long a b la ca lb cb h W
  · obtain rfl := IA.1
    obtain rfl := IB.1
    exact sums_walk0 a b ca cb A B (by omega) (by omega) W IA IB
end Go.Proofs.Ythmcnllkngheoaa
