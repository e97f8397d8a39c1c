/- Proved here: the walk of RmcellRates. Conditions: as each theorem states them. -/
import Derived.Test.YtfkikbnokjbnhaaAw
import Derived.Test.YtfkikbnokjbnhaaOp
import Derived.Test.YtfkikbnokjbnhaaNx
namespace Go.Proofs.Ytfkikbnokjbnhaa
set_option linter.unusedSimpArgs false
set_option linter.unusedVariables false
open Go.RowKit

theorem false_true {G : Prop} (h : False) : G := h.elim

set_option maxRecDepth 1000000 in
set_option maxHeartbeats 8000000 in
theorem rates_walk (r : Rm) (hr : r.Ok) (now peak least : Nat) (h1 : now < 65536) (h2 : peak < 65536) (h3 : least < 65536) (w : World) :
    Calls Try.prog 7 #[.agg (rmV r), .int .u16 (now : Int), .int .u16 (peak : Int), .int .u16 (least : Int)] w fun e w' => e = .returned (.bool true) ∧ Below w.heap.size w w' := by
  have K0 := bk_new w (rmV r) 25
  have A0 : Below w.heap.size w (w.alloc (.cells (rmV r) 25)) := (Below.refl _ w).alloc (Nat.le_refl _) _
  have HA := fun w => awake_calls w
  have Q1 := fun w => right_calls now h1 w
  have Q2 := fun w => right_calls peak h2 w
  have Q3 := fun w => right_calls least h3 w
  have Q4 := fun w => right_calls r.er hr.er w
  have HS := fun w => scaled_calls now h1 w
  have N1 := fun w => next_calls now peak least h1 h2 h3 r hr w
  have HR : Hid (riB now = true → riB peak = true → riB least = true → riB r.er = true → ∀ n, IsN (nextN now peak least r) n → riB n = true ∧ n < 32768 ∧ least ≤ n ∧ n ≤ max least (min peak r.er) ∧ (r.ci = true ∨ r.ni = true → n ≤ max now least) ∧ (r.ci = true → n < now ∨ n ≤ least ∨ scN now < 1024)) :=
    fun g1 g2 g3 g4 n hn => ⟨(isN_right hn).1, (isN_right hn).2, rates_low g3 hn, rates_high g3 g2 g4 hn, fun hc => rates_stay g1 g3 hc hn, fun hc => rates_fall g1 g3 hc hn⟩
  generalize nextN now peak least r = X at *
  generalize scN now = sc at *
  generalize riB now = x1 at *
  generalize riB peak = x2 at *
  generalize riB least = x3 at *
  generalize hx4 : riB r.er = x4 at *
  have he := hr.er
  clear hr hx4
  go_enter Try.func7, Try.ntmps7
  go_wp2_with fail
  refine (HA _).mono ?_
  rintro e w1 ⟨rfl, b1⟩
  have K1 := K0.below b1 K0.lt
  have B1 : Below w.heap.size w w1 := A0.trans (b1.mono (by simp))
  have c5 := K1.rm.2.2.2.2.2.1
  clear K0 A0 b1
  go_wp2_with fail
  refine (Q1 _).mono ?_
  rintro e w2 ⟨rfl, rfl⟩
  cases x1
  · go_wp2_with fail
    refine (HA _).mono ?_
    rintro e w3 ⟨rfl, b3⟩
    go_wp2
    go_ret
    exact ⟨rfl, B1.trans (b3.mono B1.size)⟩
  go_wp2_with fail
  refine (Q2 _).mono ?_
  rintro e w2 ⟨rfl, rfl⟩
  cases x2
  · go_wp2_with fail
    refine (HA _).mono ?_
    rintro e w3 ⟨rfl, b3⟩
    go_wp2
    go_ret
    exact ⟨rfl, B1.trans (b3.mono B1.size)⟩
  go_wp2_with fail
  refine (Q3 _).mono ?_
  rintro e w2 ⟨rfl, rfl⟩
  cases x3
  · go_wp2_with fail
    refine (HA _).mono ?_
    rintro e w3 ⟨rfl, b3⟩
    go_wp2
    go_ret
    exact ⟨rfl, B1.trans (b3.mono B1.size)⟩
  go_wp2_with fail
  refine (Q4 _).mono ?_
  rintro e w2 ⟨rfl, rfl⟩
  cases x4
  · go_wp2_with fail
    refine (HA _).mono ?_
    rintro e w3 ⟨rfl, b3⟩
    go_wp2
    go_ret
    exact ⟨rfl, B1.trans (b3.mono B1.size)⟩
  have HR2 := HR.out (by first | rfl | trivial) (by first | rfl | trivial) (by first | rfl | trivial) (by first | rfl | trivial)
  have X3 := bk_new w2 (rmV r) 31
  have B3 := B1.alloc B1.size (.cells (rmV r) 31)
  have HQ : Hid (∀ n, IsN X n → riB n = true ∧ n < 32768 ∧ least ≤ n ∧ n ≤ max least (min peak r.er) ∧ (r.ci = true ∨ r.ni = true → n ≤ max now least) ∧ (r.ci = true → n < now ∨ n ≤ least ∨ sc < 1024)) := HR2
  clear HR HR2 HA Q1 Q2 Q3 Q4 c5
  go_wp2_with (first | (with_reducible show wpList _ _ _ (Oper.mk _ (Op.load 25 _) _ _ _ _ :: _) _ _; refine wpList_ld rfl rfl rfl (run_ldB _ _ _ _ (by assumption)) ?_; (try simp only [Act.put, List.setIfInBounds_toArray, List.set_cons_zero, List.set_cons_succ, World.size_alloc])) | (with_reducible show wpList _ _ _ (Oper.mk _ (Op.alloc 31) _ _ _ _ :: Oper.mk _ (Op.store 31 _ _) _ _ _ _ :: _) _ _; refine wpList_def rfl rfl rfl rfl rfl zeroA (by rw [rmV_size]; exact sizeA) (by first | (with_reducible rfl) | rw [rmV_size, rmV_size]) (rmV_one _) rfl ?_; (try simp only [Act.put, List.setIfInBounds_toArray, List.set_cons_zero, List.set_cons_succ, World.size_alloc])) | (with_reducible show wpList _ _ _ (Oper.mk _ (Op.load 31 _) _ _ _ _ :: _) _ _; refine wpList_ld rfl rfl rfl (run_ldA _ _ _ _ (by assumption)) ?_; (try simp only [Act.put, List.setIfInBounds_toArray, List.set_cons_zero, List.set_cons_succ, World.size_alloc])))
  refine (N1 _).mono ?_
  rintro e w4 ⟨⟨n, rfl, hn⟩, b4⟩
  obtain ⟨t1, t2, t3, t4, t5, t6⟩ := HQ.out n hn
  have X4 := X3.below b4 X3.lt
  have B4 : Below w.heap.size w w4 := B3.trans (b4.mono B3.size)
  obtain ⟨_, _, c2, c3, _, c5, _⟩ := X4.rm
  have HRn := fun w => right_calls n (by omega) w
  rw [t1] at HRn
  generalize r.er = er at *
  clear hn b4 X3 B3 X4 N1 K1 B1 HQ t1 X
  cases hci : r.ci with
  | true =>
    rw [hci] at c2
    have u5 := t5 (.inl hci)
    have u6 := t6 hci
    clear t5 t6 hci
    go_wp2_with fail
    refine (HRn _).mono ?_
    rintro e w5 ⟨rfl, rfl⟩
    clear HRn
    go_wp2_with fail
    all_goals first
      | (go_ret; exact ⟨rfl, B4⟩)
      | (go_ret; exfalso; omega)
      | (refine (HS _).mono ?_; rintro e w6 ⟨rfl, rfl⟩; go_wp2; go_ret; refine ⟨ret_b ?_, B4⟩; simp; omega)
  | false =>
    rw [hci] at c2 t5
    clear t6 hci
    cases hni : r.ni with
    | true =>
      rw [hni] at c3
      have u5 := t5 (.inr hni)
      clear t5 hni
      go_wp2_with fail
      refine (HRn _).mono ?_
      rintro e w5 ⟨rfl, rfl⟩
      clear HRn
      go_wp2_with fail
      all_goals first
        | (go_ret; exact ⟨rfl, B4⟩)
        | (go_ret; exfalso; omega)
        | (refine (HS _).mono ?_; rintro e w6 ⟨rfl, rfl⟩; go_wp2; go_ret; refine ⟨ret_b ?_, B4⟩; simp; omega)
    | false =>
      rw [hni] at c3
      clear t5 hni
      go_wp2_with fail
      refine (HRn _).mono ?_
      rintro e w5 ⟨rfl, rfl⟩
      clear HRn
      go_wp2_with fail
      all_goals first
        | (go_ret; exact ⟨rfl, B4⟩)
        | (go_ret; exfalso; omega)
        | (refine (HS _).mono ?_; rintro e w6 ⟨rfl, rfl⟩; go_wp2; go_ret; refine ⟨ret_b ?_, B4⟩; simp; omega)
end Go.Proofs.Ytfkikbnokjbnhaa
