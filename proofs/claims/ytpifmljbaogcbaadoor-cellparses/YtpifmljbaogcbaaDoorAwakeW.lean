/- Proved here: the question with which each statement of layer 4 begins is answered by true. Condition: the two tables lie in memory. -/
import Derived.Test.YtpifmljbaogcbaaDoorCParseY
import Derived.Test.YtpifmljbaogcbaaDoorCBuild
import Derived.Test.YtpifmljbaogcbaaDoorCSeal
import Derived.Test.YtpifmljbaogcbaaDoorCEmpty
namespace Go.Proofs.YtpifmljbaogcbaaDoor
set_option linter.unusedSimpArgs false
set_option linter.unusedVariables false
open Go.RowKit
open H (Tab rightB bytesN numN dG dP dV dT dC)

theorem zeal : decide (sealN (zer 48) = zer 48) = true := by
  rw [decide_eq_true_eq, sealed_iff _ rfl]
  have e : bitsOf (zer 48) = zeros 384 := by decide +kernel
  unfold tenN
  rw [e]
  exact feed_zeros _ _ _ (by decide)
theorem chk0 : (chk 0 0 0 0).toNat = 85 := by rw [chk_nat]; decide +kernel
theorem res0 : res false [0, 0, 0, 0, chk 0 0 0 0] = .right := by unfold res; rw [if_pos (syn_chk 0 0 0 0)]

set_option maxRecDepth 20000 in
set_option maxHeartbeats 4000000 in
theorem awake_calls (w : World) (tab : Tab w) : Calls Tryd.prog 10 #[] w fun e w' => e = .returned (.bool true) ∧ Below w.heap.size w w' := by
  have T := tab.1
  go_enter Tryd.func10, Tryd.ntmps10
  go_wp2_with (first | (with_reducible show wpList _ _ _ (Oper.mk _ (Op.build 27 _) _ _ _ _ :: _) _ _; refine wpList_bldz rfl rfl ?_; (try simp only [Act.put, List.setIfInBounds_toArray, List.set_cons_zero, List.set_cons_succ, World.size_alloc])))
  refine (build_yes false 0 0 0 0 0 0 0 0 0 0 (zer 48) rfl _ tab (by decide) (by decide) (by decide)).mono ?_
  rintro e w1 ⟨a1, c1, rfl, o1, b1⟩
  obtain ⟨g, cur, rfl, hg1, hg2, hg3⟩ := o1.block (by decide)
  obtain ⟨I1, _, hc1⟩ := o1.isB
  have T1 := tab.below b1 tab.1
  have Ra := bk_new w1 #[.int .i64 ((0 : Nat) : Int), .int .i64 ((0 : Nat) : Int), .bool false] 46
  have A1 := (Below.refl w1.heap.size w1).alloc (Nat.le_refl _) (.cells #[.int .i64 ((0 : Nat) : Int), .int .i64 ((0 : Nat) : Int), .bool false] 46)
  have z1 := b1.size
  clear hg3 o1
  go_wp2_with fail
  refine (parse_yes false w1.heap.size 0 0 false g 0 c1 0 0 0 0 (chk 0 0 0 0) 0 0 0 0 (zer 48) rfl _ (I1.below A1 (Nat.le_refl _)) (by simp) hc1 (by omega) (by omega) (T1.below A1 T1.1) Ra (by decide) (by decide) (by rw [res0]; rfl) (by rw [res0]; rfl) 0 0 0 0 0 (by decide) (by decide) (by decide) (by decide) (by decide)).mono ?_
  rintro e w2 ⟨rfl, R2, b2⟩
  have B2 : Below w1.heap.size w1 w2 := A1.trans (b2.below (m := w1.heap.size) (by simp) (Nat.le_refl _))
  have I2 := I1.below B2 (Nat.le_refl _)
  have B2' : Below w.heap.size w w2 := b1.trans (B2.mono z1)
  have z2 := B2.size
  have K3 := bk_new w2 (cellV 0 0 0 0 0 (zer 48)) 27
  have I3 := I2.below ((Below.refl w2.heap.size w2).alloc (Nat.le_refl _) (.cells (cellV 0 0 0 0 0 (zer 48)) 27)) B2.size
  have k4 : (w2.alloc (.cells (cellV 0 0 0 0 0 (zer 48)) 27)).cell? ⟨g, 4, none⟩ = some (.int .u8 85) := by
    obtain ⟨b', off', e, _, hcc⟩ := I3.cell (k := 4) (x := chk 0 0 0 0) rfl
    cases e
    have := hcc 4 (chk 0 0 0 0) rfl
    rwa [Nat.zero_add, chk0] at this
  have he : ∀ w, (binOp .eql 27 (.agg (cellV 0 0 0 0 0 (zer 48))) (.agg (cellV 0 0 0 0 0 (zer 48)))).run Tryd.prog w = .ok (.bool true) w := fun w => by
    rw [eql27 _ _ _ _ _ _ _ _ _ _ _ _ rfl rfl w]; simp [hdrB_self]
  have HL : Hid ((zer 48).length = 48) := rfl
  have hE : emptyB 0 0 0 0 = true := by decide
  have HE : Hid (emptyB 0 0 0 0 = true) := hE
  have HZ : Hid (decide (sealN (zer 48) = zer 48) = true) := zeal
  clear R2 b2 B2 I2 I3 A1 Ra hE I1
  go_wp2_with (first | (with_reducible show wpList _ _ _ (Oper.mk _ (Op.alloc 27) _ _ _ _ :: Oper.mk _ (Op.store 27 _ _) _ _ _ _ :: _) _ _; refine wpList_def rfl rfl rfl rfl rfl zero27 (by rw [size27, cellV_size]; (try simp only [Option.some.injEq, zer, List.length_replicate]) <;> first | rfl | (have := HL.out; omega) | (have := HM.out; omega)) (by first | rfl | (simp only [cellV_size]; done) | (rw [cellV_size, cellV_size]; (try simp only [zer, List.length_replicate]) <;> first | rfl | (have := HL.out; omega) | (have := HM.out; omega) | (have := HL.out; have := HM.out; omega))) (cellV_one _ _ _ _ _ _) rfl ?_; (try simp only [Act.put, List.setIfInBounds_toArray, List.set_cons_zero, List.set_cons_succ, World.size_alloc])) | (with_reducible show wpList _ _ _ (Oper.mk _ (Op.load 27 _) _ _ _ _ :: _) _ _; refine wpList_ld rfl rfl rfl (run_ld27 _ _ _ _ _ _ _ _ _ (by assumption) (by first | exact HL.out | exact HM.out)) ?_; (try simp only [Act.put, List.setIfInBounds_toArray, List.set_cons_zero, List.set_cons_succ, World.size_alloc])) | (with_reducible show wpList _ _ _ (Oper.mk _ (Op.build 27 _) _ _ _ _ :: _) _ _; refine wpList_bldz rfl rfl ?_; (try simp only [Act.put, List.setIfInBounds_toArray, List.set_cons_zero, List.set_cons_succ, World.size_alloc])) | (with_reducible show wpList _ _ _ (Oper.mk _ (Op.load 24 _) _ _ _ _ :: _) _ _; refine wpList_ld rfl rfl rfl (run_ldP _ _ _ _ _ _ _ _ _ (by assumption) (by first | exact HL.out | exact HM.out)) ?_; (try simp only [Act.put, List.setIfInBounds_toArray, List.set_cons_zero, List.set_cons_succ, World.size_alloc])))
  refine (empty_calls 0 0 0 0 0 (zer 48) _).mono ?_
  rintro e w3 ⟨rfl, b3⟩
  rw [HE.out]
  have K4 := K3.below b3 K3.lt
  clear K3 k4
  go_wp2_with (first | (with_reducible show wpList _ _ _ (Oper.mk _ (Op.load 27 _) _ _ _ _ :: _) _ _; refine wpList_ld rfl rfl rfl (run_ld27 _ _ _ _ _ _ _ _ _ (by assumption) (by first | exact HL.out | exact HM.out)) ?_; (try simp only [Act.put, List.setIfInBounds_toArray, List.set_cons_zero, List.set_cons_succ, World.size_alloc])) | (with_reducible show wpList _ _ _ (Oper.mk _ (Op.build 27 _) _ _ _ _ :: _) _ _; refine wpList_bldz rfl rfl ?_; (try simp only [Act.put, List.setIfInBounds_toArray, List.set_cons_zero, List.set_cons_succ, World.size_alloc])) | (with_reducible show wpList _ _ _ (Oper.mk _ (Op.load 24 _) _ _ _ _ :: _) _ _; refine wpList_ld rfl rfl rfl (run_ldP _ _ _ _ _ _ _ _ _ (by assumption) (by first | exact HL.out | exact HM.out)) ?_; (try simp only [Act.put, List.setIfInBounds_toArray, List.set_cons_zero, List.set_cons_succ, World.size_alloc])))
  refine (sealed_calls (zer 48) rfl _).mono ?_
  rintro e w4 ⟨rfl, b4⟩
  rw [HZ.out]
  go_wp2
  go_ret
  exact ⟨rfl, ((B2'.alloc B2'.size _).trans (b3.mono (by have := B2'.size; simp; omega))).trans (b4.mono (by have := B2'.size; have := b3.size; simp at this; omega))⟩
end Go.Proofs.YtpifmljbaogcbaaDoor
