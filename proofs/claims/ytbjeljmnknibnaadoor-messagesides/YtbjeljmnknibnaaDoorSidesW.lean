/- Proved here: the law MessageSides' walk. Conditions: as each theorem states them. -/
import Derived.Test.YtbjeljmnknibnaaDoorAw
import Derived.Test.YtbjeljmnknibnaaDoorMsm
import Derived.Deep.DeepCutAuto
namespace Go.Proofs.YtbjeljmnknibnaaDoor
set_option linter.unusedSimpArgs false
set_option linter.unusedVariables false
set_option maxRecDepth 20000
open Go.RowKit Go.Shelf

def wantN (c : Int) : Int := if 1 ≤ c ∧ c ≤ 127 then c else 0
theorem caN_anL (c : Int) : caN (anL c) = wantN c := by
  unfold wantN
  by_cases h : 1 ≤ c ∧ c ≤ 127
  · obtain ⟨n, rfl⟩ : ∃ n : Nat, c = n := ⟨c.toNat, by omega⟩
    rw [if_pos h, anL_yes (by omega) (by omega)]
    have hb : (UInt8.ofNat n).toNat = n := by rw [byteN]; omega
    simp [caN, fdX, causeE, idB, rcN, hb]
    rw [if_pos (by omega)]
  · rw [if_neg h, anL_no h]
    rfl
theorem caN_zero : caN (anL 0) = 0 := by decide
theorem anL_zero : anL 0 = [] := by decide

set_option maxHeartbeats 4000000 in
theorem sides_walk (r : Int) (b : Bool) (k : Int) (a : Option Addr) (n c : Nat) (L : List El) (kind cause : Int) (w : World) (hv : IsI w.heap.size w a n L) (hn : n ≤ maxLen) (ht : Tab w) :
    Calls Tryd.prog 6 #[meV r b k a n c, .int .i64 kind, .int .i64 cause] w fun e w' => e = .returned (.bool true) ∧ Below w.heap.size w w' := by
  have A0 := me_below (w := w) (r := r) (b := b) (k := k) (a := a) (n := n) (c := c)
  have K0 := me_box (w := w) (r := r) (b := b) (k := k) (a := a) (n := n) (c := c)
  go_enter Tryd.func6, Tryd.ntmps6
  go_wp2_with fail
  refine (awake_calls _ (ht.on A0)).mono ?_
  rintro e w1 ⟨rfl, b1⟩
  have B1 := A0.trans (b1.mono A0.size)
  have K1 := K0.below b1 K0.lt
  have HF := mfew_calls r b k a n c L w1 (hv.below B1 (Nat.le_refl _)) B1.size hn
  clear A0 K0 b1
  go_wp2_with (with_reducible show wpList _ _ _ (Oper.mk _ (Op.load 24 _) _ _ _ _ :: _) _ _; refine wpList_ld rfl rfl rfl (run_ldM (by with_reducible assumption)) ?_; (try simp only [Act.put, List.setIfInBounds_toArray, List.set_cons_zero, List.set_cons_succ, World.size_alloc]))
  refine HF.mono ?_
  rintro e w2 ⟨rfl, b2⟩
  have B2 := B1.trans (b2.mono B1.size)
  have K2 := K1.below b2 K1.lt
  clear HF K1 b2
  cases hf : fewB L
  · go_wp2_with fail
    refine (awake_calls w2 (ht.on B2)).mono ?_
    rintro e w3 ⟨rfl, b3⟩
    go_wp2
    go_ret
    exact ⟨rfl, B2.trans (b3.mono B2.size)⟩
  clear hf hv
  have HA := answer_calls r b k a n c kind cause w2
  go_wp2_with (with_reducible show wpList _ _ _ (Oper.mk _ (Op.load 24 _) _ _ _ _ :: _) _ _; refine wpList_ld rfl rfl rfl (run_ldM (by with_reducible assumption)) ?_; (try simp only [Act.put, List.setIfInBounds_toArray, List.set_cons_zero, List.set_cons_succ, World.size_alloc]))
  refine HA.mono ?_
  rintro e w3 ⟨a3, n3, c3, rfl, I3, hn3, b3⟩
  have B3 := B2.trans (b3.mono B2.size)
  have K3 := K2.below b3 K2.lt
  have A4 := me_below (w := w3) (r := r) (b := !b) (k := kind) (a := a3) (n := n3) (c := c3)
  have M4 := me_box (w := w3) (r := r) (b := !b) (k := kind) (a := a3) (n := n3) (c := c3)
  have K4 := K3.below A4 K3.lt
  have B4 := B3.trans (A4.mono B3.size)
  have I4 := I3.below A4 (Nat.le_refl _)
  have h34 := A4.size
  have HB := answer_calls r (!b) kind a3 n3 c3 kind 0 (w3.alloc (.cells (meC r (!b) kind a3 n3 c3) 24))
  rw [show AnAll r (!b) kind 0 (w3.alloc (.cells (meC r (!b) kind a3 n3 c3) 24)) = fun e w' => ∃ (a : Option Addr) (n c : Nat), e = .returned (meV r b kind a n c) ∧ IsI w'.heap.size w' a n [] ∧ n ≤ 1 ∧ Below (w3.alloc (.cells (meC r (!b) kind a3 n3 c3) 24)).heap.size (w3.alloc (.cells (meC r (!b) kind a3 n3 c3) 24)) w' by unfold AnAll; rw [anL_zero]; simp] at HB
  clear HA b3 K2 K3 A4 I3
  go_wp2_with (with_reducible show wpList _ _ _ (Oper.mk _ (Op.load 24 _) _ _ _ _ :: _) _ _; refine wpList_ld rfl rfl rfl (run_ldM (by with_reducible assumption)) ?_; (try simp only [Act.put, List.setIfInBounds_toArray, List.set_cons_zero, List.set_cons_succ, World.size_alloc]))
  refine HB.mono ?_
  rintro e w5 ⟨a5, n5, c5, rfl, I5, hn5, b5⟩
  obtain rfl : n5 = 0 := I5.1
  have B5 := B4.trans (b5.mono B4.size)
  have K5 := K4.below b5 K4.lt
  have M5 := M4.below b5 M4.lt
  have I45 := I4.below b5 h34
  have h35 := Nat.le_trans h34 b5.size
  have A6 := me_below (w := w5) (r := r) (b := b) (k := kind) (a := a5) (n := 0) (c := c5)
  have N6 := me_box (w := w5) (r := r) (b := b) (k := kind) (a := a5) (n := 0) (c := c5)
  have K6 := K5.below A6 K5.lt
  have M6 := M5.below A6 M5.lt
  have B6 := B5.trans (A6.mono B5.size)
  have I6 := I45.below A6 h35
  have h36 := Nat.le_trans h35 A6.size
  clear HB b5 K4 K5 M4 M5 I4 I45 I5 h34 h35
  go_upto_region 6 with fail
  generalize w5.alloc (.cells (meC r b kind a5 0 c5) 24) = w6 at *
  have HC : ∀ w7, Below w6.heap.size w6 w7 → Calls Tryd.prog 23 #[meV r (!b) kind a3 n3 c3] w7 fun e w' => e = .returned (.int .i64 (wantN cause)) ∧ Below w7.heap.size w7 w' := by
    intro w7 h7
    rw [← caN_anL]
    exact mcause_calls r (!b) kind a3 n3 c3 (anL cause) w7 (I6.below h7 h36) (Nat.le_trans h36 h7.size) (by omega)
  have HD : Hid (∀ w7, Below w6.heap.size w6 w7 → Calls Tryd.prog 23 #[meV r b kind a5 0 c5] w7 fun e w' => e = .returned (.int .i64 0) ∧ Below w7.heap.size w7 w') := fun w7 h7 => mcause_calls r b kind a5 0 c5 [] w7 (isI_nil 0 w7 a5) (Nat.zero_le _) (by decide)
  have HC : Hid (∀ w7, Below w6.heap.size w6 w7 → Calls Tryd.prog 23 #[meV r (!b) kind a3 n3 c3] w7 fun e w' => e = .returned (.int .i64 (wantN cause)) ∧ Below w7.heap.size w7 w') := HC
  have e1 : ((!b) != b) = true := by cases b <;> rfl
  have e2 : (b == b) = true := by cases b <;> rfl
  have p0 := K6.cell 0 _ rfl
  have p1 := K6.cell 1 _ rfl
  have m0 := M6.cell 0 _ rfl
  have m1 := M6.cell 1 _ rfl
  have m2 := M6.cell 2 _ rfl
  have s0 := N6.cell 0 _ rfl
  have s1 := N6.cell 1 _ rfl
  clear I6 h36
  rcases Classical.em (1 ≤ cause) with h1 | h1
  · rcases Classical.em (cause ≤ 127) with h2 | h2
    · have q1 : decide (1 ≤ cause) = true := by simpa using h1
      have q2 : decide (cause ≤ 127) = true := by simpa using h2
      have HW : Hid (wantN cause = cause) := if_pos ⟨h1, h2⟩
      clear h1 h2
      go_wp2_with (with_reducible show wpList _ _ _ (Oper.mk _ (Op.load 24 _) _ _ _ _ :: _) _ _; refine wpList_ld rfl rfl rfl (run_ldM (by with_reducible assumption)) ?_; (try simp only [Act.put, List.setIfInBounds_toArray, List.set_cons_zero, List.set_cons_succ, World.size_alloc]))
      refine (HC.out w6 (Below.refl _ _)).mono ?_
      rintro e w7 ⟨rfl, b7⟩
      rw [HW.out]
      have B7 := B6.trans (b7.mono B6.size)
      have N7 := N6.below b7 N6.lt
      clear p0 p1 m0 m1 m2 s0 s1
      go_wp2_with (with_reducible show wpList _ _ _ (Oper.mk _ (Op.load 24 _) _ _ _ _ :: _) _ _; refine wpList_ld rfl rfl rfl (run_ldM (by with_reducible assumption)) ?_; (try simp only [Act.put, List.setIfInBounds_toArray, List.set_cons_zero, List.set_cons_succ, World.size_alloc]))
      refine (HD.out w7 b7).mono ?_
      rintro e w8 ⟨rfl, b8⟩
      have N8 := N7.below b8 N7.lt
      have s3 := N8.cell 3 _ rfl
      go_wp2
      go_ret
      exact ⟨rfl, B7.trans (b8.mono B7.size)⟩
    · have q1 : decide (1 ≤ cause) = true := by simpa using h1
      have q2 : decide (cause ≤ 127) = false := by simpa using h2
      have HW : Hid (wantN cause = 0) := if_neg (by omega)
      clear h1 h2
      go_wp2_with (with_reducible show wpList _ _ _ (Oper.mk _ (Op.load 24 _) _ _ _ _ :: _) _ _; refine wpList_ld rfl rfl rfl (run_ldM (by with_reducible assumption)) ?_; (try simp only [Act.put, List.setIfInBounds_toArray, List.set_cons_zero, List.set_cons_succ, World.size_alloc]))
      refine (HC.out w6 (Below.refl _ _)).mono ?_
      rintro e w7 ⟨rfl, b7⟩
      rw [HW.out]
      have B7 := B6.trans (b7.mono B6.size)
      have N7 := N6.below b7 N6.lt
      clear p0 p1 m0 m1 m2 s0 s1
      go_wp2_with (with_reducible show wpList _ _ _ (Oper.mk _ (Op.load 24 _) _ _ _ _ :: _) _ _; refine wpList_ld rfl rfl rfl (run_ldM (by with_reducible assumption)) ?_; (try simp only [Act.put, List.setIfInBounds_toArray, List.set_cons_zero, List.set_cons_succ, World.size_alloc]))
      refine (HD.out w7 b7).mono ?_
      rintro e w8 ⟨rfl, b8⟩
      have N8 := N7.below b8 N7.lt
      have s3 := N8.cell 3 _ rfl
      go_wp2
      go_ret
      exact ⟨rfl, B7.trans (b8.mono B7.size)⟩
  · have q1 : decide (1 ≤ cause) = false := by simpa using h1
    have HW : Hid (wantN cause = 0) := if_neg (by omega)
    clear h1
    go_wp2_with (with_reducible show wpList _ _ _ (Oper.mk _ (Op.load 24 _) _ _ _ _ :: _) _ _; refine wpList_ld rfl rfl rfl (run_ldM (by with_reducible assumption)) ?_; (try simp only [Act.put, List.setIfInBounds_toArray, List.set_cons_zero, List.set_cons_succ, World.size_alloc]))
    refine (HC.out w6 (Below.refl _ _)).mono ?_
    rintro e w7 ⟨rfl, b7⟩
    rw [HW.out]
    have B7 := B6.trans (b7.mono B6.size)
    have N7 := N6.below b7 N6.lt
    clear p0 p1 m0 m1 m2 s0 s1
    go_wp2_with (with_reducible show wpList _ _ _ (Oper.mk _ (Op.load 24 _) _ _ _ _ :: _) _ _; refine wpList_ld rfl rfl rfl (run_ldM (by with_reducible assumption)) ?_; (try simp only [Act.put, List.setIfInBounds_toArray, List.set_cons_zero, List.set_cons_succ, World.size_alloc]))
    refine (HD.out w7 b7).mono ?_
    rintro e w8 ⟨rfl, b8⟩
    have N8 := N7.below b8 N7.lt
    have s3 := N8.cell 3 _ rfl
    go_wp2
    go_ret
    exact ⟨rfl, B7.trans (b8.mono B7.size)⟩
end Go.Proofs.YtbjeljmnknibnaaDoor
