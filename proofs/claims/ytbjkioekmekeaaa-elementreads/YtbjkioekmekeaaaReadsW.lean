/- Proved here: the walk of ElementReads. Conditions: as the theorem states them. -/
import Derived.Test.YtbjkioekmekeaaaAw
import Derived.Test.YtbjkioekmekeaaaRTr
import Derived.Test.YtbjkioekmekeaaaRRt
import Derived.Test.YtbjkioekmekeaaaRRk
namespace Go.Proofs.Ytbjkioekmekeaaa
set_option linter.unusedSimpArgs false
set_option linter.unusedVariables false
open Go.RowKit Go.Shelf

theorem rtC_six (x : El) : ∃ a b c d e f : Int, rtC x = cC a b c d e f := by
  unfold rtC
  split
  · exact ⟨_, _, _, _, _, _, rfl⟩
  · exact ⟨_, _, _, _, _, _, rfl⟩
theorem trX_id {k p e v b l : Int} (h : errN k p e v b l = 0) : (trX k p e v b l).id = 89 := by unfold trX; rw [if_pos h]; rfl

set_option maxHeartbeats 8000000 in
set_option maxRecDepth 100000 in
theorem reads_walk (k p e v b l : Int) (y : Ky) (m : Int) (x : El) (a : Option Addr) (lx cx : Nat) (w : World) (I : IsB w.heap.size w a lx x.body) (hlc : lx ≤ cx) :
    Calls Try.prog 4 #[.agg (cC k p e v b l), .agg (kC y), .int .i64 m, ieV x.id a lx cx] w fun e w' => e = .returned (.bool true) ∧ Below w.heap.size w w' := by
  have CA := ((bk_new w (cC k p e v b l) 43).alloc (.cells (kC y) 45)).alloc (.cells #[.int .u8 (x.id.toNat : Int), .slice a lx cx] 36)
  have KY := (bk_new (w.alloc (.cells (cC k p e v b l) 43)) (kC y) 45).alloc (.cells #[.int .u8 (x.id.toNat : Int), .slice a lx cx] 36)
  have TX := bk_new ((w.alloc (.cells (cC k p e v b l) 43)).alloc (.cells (kC y) 45)) #[.int .u8 (x.id.toNat : Int), .slice a lx cx] 36
  have B1 : Below w.heap.size w (((w.alloc (.cells (cC k p e v b l) 43)).alloc (.cells (kC y) 45)).alloc (.cells #[.int .u8 (x.id.toNat : Int), .slice a lx cx] 36)) := (((Below.refl _ w).alloc (Nat.le_refl _) _).alloc (by simp) _).alloc (by simp; omega) _
  simp only [World.size_alloc] at KY TX
  have HA := fun w => awake_calls w
  have HTA := fun w => traf_all k p e v b l w
  have HTR := fun w => reftraf_all k p e v b l w
  have htb := tr_body k p e v b l
  have HX1 := fun w1 (d : Below w.heap.size w w1) => rt_calls x a lx cx w1 (I.below d (Nat.le_refl _)) d.size hlc
  have HX2 := fun w1 (d : Below w.heap.size w w1) => refrt_calls x a lx cx w1 (I.below d (Nat.le_refl _)) d.size hlc
  have HX3 := fun w1 (d : Below w.heap.size w w1) => rk_calls x a lx cx w1 (I.below d (Nat.le_refl _)) d.size hlc
  have HX4 := fun w1 (d : Below w.heap.size w w1) => refrk_calls x a lx cx w1 (I.below d (Nat.le_refl _)) d.size hlc
  have HX5 := fun w1 (d : Below w.heap.size w w1) => rc_calls x a lx cx w1 (I.below d (Nat.le_refl _)) d.size
  have HX6 := fun w1 (d : Below w.heap.size w w1) => refrc_calls x a lx cx w1 (I.below d (Nat.le_refl _)) d.size
  obtain ⟨s0, s1, s2, s3, s4, s5, hs⟩ := rtC_six x
  rw [hs] at HX1 HX2
  have hnC := fun w => neq_C s0 s1 s2 s3 s4 s5 w
  generalize rtE x = E3 at *
  generalize rkN x = kk at *
  obtain ⟨kk, E4⟩ := kk
  generalize rcN x = cc at *
  obtain ⟨c1, E5⟩ := cc
  have heK := fun w => eql_K kk kk w
  rw [eqK_iff.2 rfl] at heK
  have HK1 := fun w => key_all y w
  have HK2 := fun w => rright_calls y w
  have HC1 := fun w => cause_all m w
  have hid := fun (h : errN k p e v b l = 0) => trX_id h
  clear hs
  replace HX3 : ∀ w1, Below w.heap.size w w1 → Calls Try.prog 22 #[ieV x.id a lx cx] w1 fun e w' => e = .returned (.tuple #[.agg (kC kk), .int .i64 E4]) ∧ Below w1.heap.size w1 w' := HX3
  replace HX4 : ∀ w1, Below w.heap.size w w1 → Calls Try.prog 23 #[ieV x.id a lx cx] w1 fun e w' => e = .returned (.tuple #[.agg (kC kk), .int .i64 E4]) ∧ Below w1.heap.size w1 w' := HX4
  replace HX5 : ∀ w1, Below w.heap.size w w1 → Calls Try.prog 24 #[ieV x.id a lx cx] w1 fun e w' => e = .returned (.tuple #[.int .i64 c1, .int .i64 E5]) ∧ Below w1.heap.size w1 w' := HX5
  replace HX6 : ∀ w1, Below w.heap.size w w1 → Calls Try.prog 25 #[ieV x.id a lx cx] w1 fun e w' => e = .returned (.tuple #[.int .i64 c1, .int .i64 E5]) ∧ Below w1.heap.size w1 w' := HX6
  generalize errN k p e v b l = E1 at *
  generalize trX k p e v b l = X at *
  have hid' : Hid (E1 = 0 → X.id = 89) := hid
  clear hid
  go_enter Try.func4, Try.ntmps4
  go_wp2_with fail
  refine (HA _).mono ?_
  rintro e' w2 ⟨rfl, b2_⟩
  have B2 := B1.trans (b2_.mono B1.size)
  replace CA := CA.below b2_ CA.lt
  replace KY := KY.below b2_ KY.lt
  replace TX := TX.below b2_ TX.lt
  clear B1 b2_
  have tx1 := TX.cell 1 _ rfl
  have txl := TX.lt
  by_cases h300 : 300 < lx
  · have q1 : decide (300 < (lx : Int)) = true := by simp; omega
    clear h300
    go_wp2_with fail
    refine (HA _).mono ?_
    rintro e' w3 ⟨rfl, b3_⟩
    have B3 := B2.trans (b3_.mono B2.size)
    replace CA := CA.below b3_ CA.lt
    replace KY := KY.below b3_ KY.lt
    replace TX := TX.below b3_ TX.lt
    clear B2 b3_
    go_wp2
    go_ret
    exact ⟨rfl, B3⟩
  have q1 : decide (300 < (lx : Int)) = false := by simp; omega
  clear h300 HA
  go_wp2_with (first | (with_reducible show wpList _ _ _ (Oper.mk _ (Op.load 36 _) _ _ _ _ :: _) _ _; refine wpList_ld rfl rfl rfl (run_ldI (by with_reducible assumption)) ?_; (try simp only [Act.put, List.setIfInBounds_toArray, List.set_cons_zero, List.set_cons_succ, World.size_alloc])) | (with_reducible show wpList _ _ _ (Oper.mk _ (Op.load 43 _) _ _ _ _ :: _) _ _; refine wpList_ld rfl rfl rfl (run_ldC (by with_reducible assumption)) ?_; (try simp only [Act.put, List.setIfInBounds_toArray, List.set_cons_zero, List.set_cons_succ, World.size_alloc])) | (with_reducible show wpList _ _ _ (Oper.mk _ (Op.load 45 _) _ _ _ _ :: _) _ _; refine wpList_ld rfl rfl rfl (run_ldK (by with_reducible assumption)) ?_; (try simp only [Act.put, List.setIfInBounds_toArray, List.set_cons_zero, List.set_cons_succ, World.size_alloc])))
  refine (HTA _).mono ?_
  rintro e' w3 ⟨ax, nx, cx2, rfl, IX, _, qx, b3_⟩
  have B3 := B2.trans (b3_.mono B2.size)
  replace CA := CA.below b3_ CA.lt
  replace KY := KY.below b3_ KY.lt
  replace TX := TX.below b3_ TX.lt
  clear B2 b3_
  clear HTA tx1 txl q1
  have DX := Below.refl w3.heap.size w3
  have A_ : Below w3.heap.size w3 (w3.alloc (.cells #[.int .u8 (X.id.toNat : Int), .slice ax nx cx2] 36)) := (Below.refl _ w3).alloc (Nat.le_refl _) _
  have TA := bk_new w3 #[.int .u8 (X.id.toNat : Int), .slice ax nx cx2] 36
  have AB3 := B3.trans (A_.mono B3.size)
  replace CA := CA.below A_ CA.lt
  replace KY := KY.below A_ KY.lt
  replace TX := TX.below A_ TX.lt
  replace DX := DX.trans (A_.mono DX.size)
  clear B3 A_
  go_wp2_with (first | (with_reducible show wpList _ _ _ (Oper.mk _ (Op.load 36 _) _ _ _ _ :: _) _ _; refine wpList_ld rfl rfl rfl (run_ldI (by with_reducible assumption)) ?_; (try simp only [Act.put, List.setIfInBounds_toArray, List.set_cons_zero, List.set_cons_succ, World.size_alloc])) | (with_reducible show wpList _ _ _ (Oper.mk _ (Op.load 43 _) _ _ _ _ :: _) _ _; refine wpList_ld rfl rfl rfl (run_ldC (by with_reducible assumption)) ?_; (try simp only [Act.put, List.setIfInBounds_toArray, List.set_cons_zero, List.set_cons_succ, World.size_alloc])) | (with_reducible show wpList _ _ _ (Oper.mk _ (Op.load 45 _) _ _ _ _ :: _) _ _; refine wpList_ld rfl rfl rfl (run_ldK (by with_reducible assumption)) ?_; (try simp only [Act.put, List.setIfInBounds_toArray, List.set_cons_zero, List.set_cons_succ, World.size_alloc])))
  refine (HTR _).mono ?_
  rintro e' w4 ⟨ab, nb, cb, rfl, IB, b4_⟩
  have B4 := AB3.trans (b4_.mono AB3.size)
  replace CA := CA.below b4_ CA.lt
  replace KY := KY.below b4_ KY.lt
  replace TX := TX.below b4_ TX.lt
  replace TA := TA.below b4_ TA.lt
  replace DX := DX.trans (b4_.mono DX.size)
  clear AB3 b4_
  clear HTR
  have DB := Below.refl w4.heap.size w4
  go_wp2_with (first | (with_reducible show wpList _ _ _ (Oper.mk _ (Op.load 36 _) _ _ _ _ :: _) _ _; refine wpList_ld rfl rfl rfl (run_ldI (by with_reducible assumption)) ?_; (try simp only [Act.put, List.setIfInBounds_toArray, List.set_cons_zero, List.set_cons_succ, World.size_alloc])) | (with_reducible show wpList _ _ _ (Oper.mk _ (Op.load 43 _) _ _ _ _ :: _) _ _; refine wpList_ld rfl rfl rfl (run_ldC (by with_reducible assumption)) ?_; (try simp only [Act.put, List.setIfInBounds_toArray, List.set_cons_zero, List.set_cons_succ, World.size_alloc])) | (with_reducible show wpList _ _ _ (Oper.mk _ (Op.load 45 _) _ _ _ _ :: _) _ _; refine wpList_ld rfl rfl rfl (run_ldK (by with_reducible assumption)) ?_; (try simp only [Act.put, List.setIfInBounds_toArray, List.set_cons_zero, List.set_cons_succ, World.size_alloc])))
  refine (HX1 _ B4).mono ?_
  rintro e' w5 ⟨rfl, b5_⟩
  have B5 := B4.trans (b5_.mono B4.size)
  replace CA := CA.below b5_ CA.lt
  replace KY := KY.below b5_ KY.lt
  replace TX := TX.below b5_ TX.lt
  replace TA := TA.below b5_ TA.lt
  replace DX := DX.trans (b5_.mono DX.size)
  replace DB := DB.trans (b5_.mono DB.size)
  clear B4 b5_
  have A_ : Below w5.heap.size w5 (w5.alloc (.cells (cC s0 s1 s2 s3 s4 s5) 43)) := (Below.refl _ w5).alloc (Nat.le_refl _) _
  have TD := bk_new w5 (cC s0 s1 s2 s3 s4 s5) 43
  have AB5 := B5.trans (A_.mono B5.size)
  replace CA := CA.below A_ CA.lt
  replace KY := KY.below A_ KY.lt
  replace TX := TX.below A_ TX.lt
  replace TA := TA.below A_ TA.lt
  replace DX := DX.trans (A_.mono DX.size)
  replace DB := DB.trans (A_.mono DB.size)
  clear B5 A_
  go_wp2_with (first | (with_reducible show wpList _ _ _ (Oper.mk _ (Op.load 36 _) _ _ _ _ :: _) _ _; refine wpList_ld rfl rfl rfl (run_ldI (by with_reducible assumption)) ?_; (try simp only [Act.put, List.setIfInBounds_toArray, List.set_cons_zero, List.set_cons_succ, World.size_alloc])) | (with_reducible show wpList _ _ _ (Oper.mk _ (Op.load 43 _) _ _ _ _ :: _) _ _; refine wpList_ld rfl rfl rfl (run_ldC (by with_reducible assumption)) ?_; (try simp only [Act.put, List.setIfInBounds_toArray, List.set_cons_zero, List.set_cons_succ, World.size_alloc])) | (with_reducible show wpList _ _ _ (Oper.mk _ (Op.load 45 _) _ _ _ _ :: _) _ _; refine wpList_ld rfl rfl rfl (run_ldK (by with_reducible assumption)) ?_; (try simp only [Act.put, List.setIfInBounds_toArray, List.set_cons_zero, List.set_cons_succ, World.size_alloc])))
  refine (HX2 _ AB5).mono ?_
  rintro e' w6 ⟨rfl, b6_⟩
  have B6 := AB5.trans (b6_.mono AB5.size)
  replace CA := CA.below b6_ CA.lt
  replace KY := KY.below b6_ KY.lt
  replace TX := TX.below b6_ TX.lt
  replace TA := TA.below b6_ TA.lt
  replace TD := TD.below b6_ TD.lt
  replace DX := DX.trans (b6_.mono DX.size)
  replace DB := DB.trans (b6_.mono DB.size)
  clear AB5 b6_
  have A_ : Below w6.heap.size w6 (w6.alloc (.cells (cC s0 s1 s2 s3 s4 s5) 43)) := (Below.refl _ w6).alloc (Nat.le_refl _) _
  have TE := bk_new w6 (cC s0 s1 s2 s3 s4 s5) 43
  have AB6 := B6.trans (A_.mono B6.size)
  replace CA := CA.below A_ CA.lt
  replace KY := KY.below A_ KY.lt
  replace TX := TX.below A_ TX.lt
  replace TA := TA.below A_ TA.lt
  replace TD := TD.below A_ TD.lt
  replace DX := DX.trans (A_.mono DX.size)
  replace DB := DB.trans (A_.mono DB.size)
  clear B6 A_
  clear HX1 HX2
  have hnx : nx ≤ 100000 := by have := IX.1; omega
  have HS := fun w1 (d1 : Below w3.heap.size w3 w1) (d2 : Below w4.heap.size w4 w1) => same_calls ax ab nx cx2 nb cb X.body X.body w1 (IX.below d1 (Nat.le_refl _)) (IB.below d2 (Nat.le_refl _)) d1.size d2.size hnx
  simp only [beq_self_eq_true] at HS
  clear IX IB htb hnx
  have ta1 := TA.cell 1 _ rfl
  have tal := TA.lt
  go_wp2_with (first | (with_reducible show wpList _ _ _ (Oper.mk _ (Op.load 36 _) _ _ _ _ :: _) _ _; refine wpList_ld rfl rfl rfl (run_ldI (by with_reducible assumption)) ?_; (try simp only [Act.put, List.setIfInBounds_toArray, List.set_cons_zero, List.set_cons_succ, World.size_alloc])) | (with_reducible show wpList _ _ _ (Oper.mk _ (Op.load 43 _) _ _ _ _ :: _) _ _; refine wpList_ld rfl rfl rfl (run_ldC (by with_reducible assumption)) ?_; (try simp only [Act.put, List.setIfInBounds_toArray, List.set_cons_zero, List.set_cons_succ, World.size_alloc])) | (with_reducible show wpList _ _ _ (Oper.mk _ (Op.load 45 _) _ _ _ _ :: _) _ _; refine wpList_ld rfl rfl rfl (run_ldK (by with_reducible assumption)) ?_; (try simp only [Act.put, List.setIfInBounds_toArray, List.set_cons_zero, List.set_cons_succ, World.size_alloc])))
  refine (HS _ DX DB).mono ?_
  rintro e' w7 ⟨rfl, b7_⟩
  have B7 := AB6.trans (b7_.mono AB6.size)
  replace CA := CA.below b7_ CA.lt
  replace KY := KY.below b7_ KY.lt
  replace TX := TX.below b7_ TX.lt
  replace TA := TA.below b7_ TA.lt
  replace TD := TD.below b7_ TD.lt
  replace TE := TE.below b7_ TE.lt
  replace DX := DX.trans (b7_.mono DX.size)
  replace DB := DB.trans (b7_.mono DB.size)
  clear AB6 b7_
  clear HS ta1 tal
  clear DX
  clear DB
  have ta0 := TA.cell 0 _ rfl
  have tal := TA.lt
  by_cases hE : E1 = 0
  · have hX89 := hid'.out hE
    rw [hX89] at ta0
    subst hE
    clear hid' hX89
    go_wp2_with (first | (with_reducible show wpList _ _ _ (Oper.mk _ (Op.load 36 _) _ _ _ _ :: _) _ _; refine wpList_ld rfl rfl rfl (run_ldI (by with_reducible assumption)) ?_; (try simp only [Act.put, List.setIfInBounds_toArray, List.set_cons_zero, List.set_cons_succ, World.size_alloc])) | (with_reducible show wpList _ _ _ (Oper.mk _ (Op.load 43 _) _ _ _ _ :: _) _ _; refine wpList_ld rfl rfl rfl (run_ldC (by with_reducible assumption)) ?_; (try simp only [Act.put, List.setIfInBounds_toArray, List.set_cons_zero, List.set_cons_succ, World.size_alloc])) | (with_reducible show wpList _ _ _ (Oper.mk _ (Op.load 45 _) _ _ _ _ :: _) _ _; refine wpList_ld rfl rfl rfl (run_ldK (by with_reducible assumption)) ?_; (try simp only [Act.put, List.setIfInBounds_toArray, List.set_cons_zero, List.set_cons_succ, World.size_alloc])))
    refine (HX3 _ B7).mono ?_
    rintro e' w8 ⟨rfl, b8_⟩
    have B8 := B7.trans (b8_.mono B7.size)
    replace CA := CA.below b8_ CA.lt
    replace KY := KY.below b8_ KY.lt
    replace TX := TX.below b8_ TX.lt
    replace TA := TA.below b8_ TA.lt
    replace TD := TD.below b8_ TD.lt
    replace TE := TE.below b8_ TE.lt
    clear B7 b8_
    clear HX3 ta0 tal
    clear TA
    clear TD
    clear TE
    clear CA
    have A_ : Below w8.heap.size w8 (w8.alloc (.cells (kC kk) 45)) := (Below.refl _ w8).alloc (Nat.le_refl _) _
    have TG := bk_new w8 (kC kk) 45
    have AB8 := B8.trans (A_.mono B8.size)
    replace KY := KY.below A_ KY.lt
    replace TX := TX.below A_ TX.lt
    clear B8 A_
    go_wp2_with (first | (with_reducible show wpList _ _ _ (Oper.mk _ (Op.load 36 _) _ _ _ _ :: _) _ _; refine wpList_ld rfl rfl rfl (run_ldI (by with_reducible assumption)) ?_; (try simp only [Act.put, List.setIfInBounds_toArray, List.set_cons_zero, List.set_cons_succ, World.size_alloc])) | (with_reducible show wpList _ _ _ (Oper.mk _ (Op.load 43 _) _ _ _ _ :: _) _ _; refine wpList_ld rfl rfl rfl (run_ldC (by with_reducible assumption)) ?_; (try simp only [Act.put, List.setIfInBounds_toArray, List.set_cons_zero, List.set_cons_succ, World.size_alloc])) | (with_reducible show wpList _ _ _ (Oper.mk _ (Op.load 45 _) _ _ _ _ :: _) _ _; refine wpList_ld rfl rfl rfl (run_ldK (by with_reducible assumption)) ?_; (try simp only [Act.put, List.setIfInBounds_toArray, List.set_cons_zero, List.set_cons_succ, World.size_alloc])))
    refine (HX4 _ AB8).mono ?_
    rintro e' w9 ⟨rfl, b9_⟩
    have B9 := AB8.trans (b9_.mono AB8.size)
    replace KY := KY.below b9_ KY.lt
    replace TX := TX.below b9_ TX.lt
    replace TG := TG.below b9_ TG.lt
    clear AB8 b9_
    have A_ : Below w9.heap.size w9 (w9.alloc (.cells (kC kk) 45)) := (Below.refl _ w9).alloc (Nat.le_refl _) _
    have TH := bk_new w9 (kC kk) 45
    have AB9 := B9.trans (A_.mono B9.size)
    replace KY := KY.below A_ KY.lt
    replace TX := TX.below A_ TX.lt
    replace TG := TG.below A_ TG.lt
    clear B9 A_
    go_wp2_with (first | (with_reducible show wpList _ _ _ (Oper.mk _ (Op.load 36 _) _ _ _ _ :: _) _ _; refine wpList_ld rfl rfl rfl (run_ldI (by with_reducible assumption)) ?_; (try simp only [Act.put, List.setIfInBounds_toArray, List.set_cons_zero, List.set_cons_succ, World.size_alloc])) | (with_reducible show wpList _ _ _ (Oper.mk _ (Op.load 43 _) _ _ _ _ :: _) _ _; refine wpList_ld rfl rfl rfl (run_ldC (by with_reducible assumption)) ?_; (try simp only [Act.put, List.setIfInBounds_toArray, List.set_cons_zero, List.set_cons_succ, World.size_alloc])) | (with_reducible show wpList _ _ _ (Oper.mk _ (Op.load 45 _) _ _ _ _ :: _) _ _; refine wpList_ld rfl rfl rfl (run_ldK (by with_reducible assumption)) ?_; (try simp only [Act.put, List.setIfInBounds_toArray, List.set_cons_zero, List.set_cons_succ, World.size_alloc])))
    refine (HX5 _ AB9).mono ?_
    rintro e' w10 ⟨rfl, b10_⟩
    have B10 := AB9.trans (b10_.mono AB9.size)
    replace KY := KY.below b10_ KY.lt
    replace TX := TX.below b10_ TX.lt
    replace TG := TG.below b10_ TG.lt
    replace TH := TH.below b10_ TH.lt
    clear AB9 b10_
    go_wp2_with (first | (with_reducible show wpList _ _ _ (Oper.mk _ (Op.load 36 _) _ _ _ _ :: _) _ _; refine wpList_ld rfl rfl rfl (run_ldI (by with_reducible assumption)) ?_; (try simp only [Act.put, List.setIfInBounds_toArray, List.set_cons_zero, List.set_cons_succ, World.size_alloc])) | (with_reducible show wpList _ _ _ (Oper.mk _ (Op.load 43 _) _ _ _ _ :: _) _ _; refine wpList_ld rfl rfl rfl (run_ldC (by with_reducible assumption)) ?_; (try simp only [Act.put, List.setIfInBounds_toArray, List.set_cons_zero, List.set_cons_succ, World.size_alloc])) | (with_reducible show wpList _ _ _ (Oper.mk _ (Op.load 45 _) _ _ _ _ :: _) _ _; refine wpList_ld rfl rfl rfl (run_ldK (by with_reducible assumption)) ?_; (try simp only [Act.put, List.setIfInBounds_toArray, List.set_cons_zero, List.set_cons_succ, World.size_alloc])))
    refine (HX6 _ B10).mono ?_
    rintro e' w11 ⟨rfl, b11_⟩
    have B11 := B10.trans (b11_.mono B10.size)
    replace KY := KY.below b11_ KY.lt
    replace TX := TX.below b11_ TX.lt
    replace TG := TG.below b11_ TG.lt
    replace TH := TH.below b11_ TH.lt
    clear B10 b11_
    clear HX4 HX5 HX6
    clear TX
    go_wp2_with (first | (with_reducible show wpList _ _ _ (Oper.mk _ (Op.load 36 _) _ _ _ _ :: _) _ _; refine wpList_ld rfl rfl rfl (run_ldI (by with_reducible assumption)) ?_; (try simp only [Act.put, List.setIfInBounds_toArray, List.set_cons_zero, List.set_cons_succ, World.size_alloc])) | (with_reducible show wpList _ _ _ (Oper.mk _ (Op.load 43 _) _ _ _ _ :: _) _ _; refine wpList_ld rfl rfl rfl (run_ldC (by with_reducible assumption)) ?_; (try simp only [Act.put, List.setIfInBounds_toArray, List.set_cons_zero, List.set_cons_succ, World.size_alloc])) | (with_reducible show wpList _ _ _ (Oper.mk _ (Op.load 45 _) _ _ _ _ :: _) _ _; refine wpList_ld rfl rfl rfl (run_ldK (by with_reducible assumption)) ?_; (try simp only [Act.put, List.setIfInBounds_toArray, List.set_cons_zero, List.set_cons_succ, World.size_alloc])))
    refine (HK1 _).mono ?_
    rintro e' w12 ⟨ay, ny, cy, rfl, _, _, _, b12_⟩
    have B12 := B11.trans (b12_.mono B11.size)
    replace KY := KY.below b12_ KY.lt
    replace TG := TG.below b12_ TG.lt
    replace TH := TH.below b12_ TH.lt
    clear B11 b12_
    clear HK1
    have A_ : Below w12.heap.size w12 (w12.alloc (.cells #[.int .u8 ((keX y).id.toNat : Int), .slice ay ny cy] 36)) := (Below.refl _ w12).alloc (Nat.le_refl _) _
    have TI := bk_new w12 #[.int .u8 ((keX y).id.toNat : Int), .slice ay ny cy] 36
    have AB12 := B12.trans (A_.mono B12.size)
    replace KY := KY.below A_ KY.lt
    replace TG := TG.below A_ TG.lt
    replace TH := TH.below A_ TH.lt
    clear B12 A_
    go_wp2_with (first | (with_reducible show wpList _ _ _ (Oper.mk _ (Op.load 36 _) _ _ _ _ :: _) _ _; refine wpList_ld rfl rfl rfl (run_ldI (by with_reducible assumption)) ?_; (try simp only [Act.put, List.setIfInBounds_toArray, List.set_cons_zero, List.set_cons_succ, World.size_alloc])) | (with_reducible show wpList _ _ _ (Oper.mk _ (Op.load 43 _) _ _ _ _ :: _) _ _; refine wpList_ld rfl rfl rfl (run_ldC (by with_reducible assumption)) ?_; (try simp only [Act.put, List.setIfInBounds_toArray, List.set_cons_zero, List.set_cons_succ, World.size_alloc])) | (with_reducible show wpList _ _ _ (Oper.mk _ (Op.load 45 _) _ _ _ _ :: _) _ _; refine wpList_ld rfl rfl rfl (run_ldK (by with_reducible assumption)) ?_; (try simp only [Act.put, List.setIfInBounds_toArray, List.set_cons_zero, List.set_cons_succ, World.size_alloc])))
    refine (HC1 _).mono ?_
    rintro e' w13 ⟨az, nz, cz, rfl, _, _, _, b13_⟩
    have B13 := AB12.trans (b13_.mono AB12.size)
    replace KY := KY.below b13_ KY.lt
    replace TG := TG.below b13_ TG.lt
    replace TH := TH.below b13_ TH.lt
    replace TI := TI.below b13_ TI.lt
    clear AB12 b13_
    clear HC1
    have A_ : Below w13.heap.size w13 (w13.alloc (.cells #[.int .u8 ((caX m).id.toNat : Int), .slice az nz cz] 36)) := (Below.refl _ w13).alloc (Nat.le_refl _) _
    have TJ := bk_new w13 #[.int .u8 ((caX m).id.toNat : Int), .slice az nz cz] 36
    have AB13 := B13.trans (A_.mono B13.size)
    replace KY := KY.below A_ KY.lt
    replace TG := TG.below A_ TG.lt
    replace TH := TH.below A_ TH.lt
    replace TI := TI.below A_ TI.lt
    clear B13 A_
    clear TI
    clear TJ
    have hkx : kyX y = if rightK y = true then 0 else 1 := rfl
    have hcx2 : cuX m = if 0 ≤ m ∧ m ≤ 127 then 0 else 1 := rfl
    cases hK : rightK y
    · rw [hK, if_neg (by simp)] at hkx
      rw [hkx]
      rw [hK] at HK2
      clear hkx hK
      rcases (show m < 0 ∨ (0 ≤ m ∧ m ≤ 127) ∨ 127 < m by omega) with hm | hm | hm
      · rw [if_neg (by omega)] at hcx2
        have m1 : decide (0 ≤ m) = false := decide_eq_false (by omega)
        rw [hcx2]
        clear hcx2 hm
        go_wp2_with (first | (with_reducible show wpList _ _ _ (Oper.mk _ (Op.load 36 _) _ _ _ _ :: _) _ _; refine wpList_ld rfl rfl rfl (run_ldI (by with_reducible assumption)) ?_; (try simp only [Act.put, List.setIfInBounds_toArray, List.set_cons_zero, List.set_cons_succ, World.size_alloc])) | (with_reducible show wpList _ _ _ (Oper.mk _ (Op.load 43 _) _ _ _ _ :: _) _ _; refine wpList_ld rfl rfl rfl (run_ldC (by with_reducible assumption)) ?_; (try simp only [Act.put, List.setIfInBounds_toArray, List.set_cons_zero, List.set_cons_succ, World.size_alloc])) | (with_reducible show wpList _ _ _ (Oper.mk _ (Op.load 45 _) _ _ _ _ :: _) _ _; refine wpList_ld rfl rfl rfl (run_ldK (by with_reducible assumption)) ?_; (try simp only [Act.put, List.setIfInBounds_toArray, List.set_cons_zero, List.set_cons_succ, World.size_alloc])))
        refine (HK2 _).mono ?_
        rintro e' w14 ⟨rfl, b14_⟩
        have B14 := AB13.trans (b14_.mono AB13.size)
        replace KY := KY.below b14_ KY.lt
        replace TG := TG.below b14_ TG.lt
        replace TH := TH.below b14_ TH.lt
        clear AB13 b14_
        go_wp2
        go_ret
        exact ⟨rfl, B14⟩
      · rw [if_pos hm] at hcx2
        have m1 : decide (0 ≤ m) = true := decide_eq_true hm.1
        have m2 : decide (m < 128) = true := decide_eq_true (by omega)
        rw [hcx2]
        clear hcx2 hm
        go_wp2_with (first | (with_reducible show wpList _ _ _ (Oper.mk _ (Op.load 36 _) _ _ _ _ :: _) _ _; refine wpList_ld rfl rfl rfl (run_ldI (by with_reducible assumption)) ?_; (try simp only [Act.put, List.setIfInBounds_toArray, List.set_cons_zero, List.set_cons_succ, World.size_alloc])) | (with_reducible show wpList _ _ _ (Oper.mk _ (Op.load 43 _) _ _ _ _ :: _) _ _; refine wpList_ld rfl rfl rfl (run_ldC (by with_reducible assumption)) ?_; (try simp only [Act.put, List.setIfInBounds_toArray, List.set_cons_zero, List.set_cons_succ, World.size_alloc])) | (with_reducible show wpList _ _ _ (Oper.mk _ (Op.load 45 _) _ _ _ _ :: _) _ _; refine wpList_ld rfl rfl rfl (run_ldK (by with_reducible assumption)) ?_; (try simp only [Act.put, List.setIfInBounds_toArray, List.set_cons_zero, List.set_cons_succ, World.size_alloc])))
        refine (HK2 _).mono ?_
        rintro e' w14 ⟨rfl, b14_⟩
        have B14 := AB13.trans (b14_.mono AB13.size)
        replace KY := KY.below b14_ KY.lt
        replace TG := TG.below b14_ TG.lt
        replace TH := TH.below b14_ TH.lt
        clear AB13 b14_
        go_wp2
        go_ret
        exact ⟨rfl, B14⟩
      · rw [if_neg (by omega)] at hcx2
        have m1 : decide (0 ≤ m) = true := decide_eq_true (by omega)
        have m2 : decide (m < 128) = false := decide_eq_false (by omega)
        rw [hcx2]
        clear hcx2 hm
        go_wp2_with (first | (with_reducible show wpList _ _ _ (Oper.mk _ (Op.load 36 _) _ _ _ _ :: _) _ _; refine wpList_ld rfl rfl rfl (run_ldI (by with_reducible assumption)) ?_; (try simp only [Act.put, List.setIfInBounds_toArray, List.set_cons_zero, List.set_cons_succ, World.size_alloc])) | (with_reducible show wpList _ _ _ (Oper.mk _ (Op.load 43 _) _ _ _ _ :: _) _ _; refine wpList_ld rfl rfl rfl (run_ldC (by with_reducible assumption)) ?_; (try simp only [Act.put, List.setIfInBounds_toArray, List.set_cons_zero, List.set_cons_succ, World.size_alloc])) | (with_reducible show wpList _ _ _ (Oper.mk _ (Op.load 45 _) _ _ _ _ :: _) _ _; refine wpList_ld rfl rfl rfl (run_ldK (by with_reducible assumption)) ?_; (try simp only [Act.put, List.setIfInBounds_toArray, List.set_cons_zero, List.set_cons_succ, World.size_alloc])))
        refine (HK2 _).mono ?_
        rintro e' w14 ⟨rfl, b14_⟩
        have B14 := AB13.trans (b14_.mono AB13.size)
        replace KY := KY.below b14_ KY.lt
        replace TG := TG.below b14_ TG.lt
        replace TH := TH.below b14_ TH.lt
        clear AB13 b14_
        go_wp2
        go_ret
        exact ⟨rfl, B14⟩
    · rw [hK, if_pos rfl] at hkx
      rw [hkx]
      rw [hK] at HK2
      clear hkx hK
      rcases (show m < 0 ∨ (0 ≤ m ∧ m ≤ 127) ∨ 127 < m by omega) with hm | hm | hm
      · rw [if_neg (by omega)] at hcx2
        have m1 : decide (0 ≤ m) = false := decide_eq_false (by omega)
        rw [hcx2]
        clear hcx2 hm
        go_wp2_with (first | (with_reducible show wpList _ _ _ (Oper.mk _ (Op.load 36 _) _ _ _ _ :: _) _ _; refine wpList_ld rfl rfl rfl (run_ldI (by with_reducible assumption)) ?_; (try simp only [Act.put, List.setIfInBounds_toArray, List.set_cons_zero, List.set_cons_succ, World.size_alloc])) | (with_reducible show wpList _ _ _ (Oper.mk _ (Op.load 43 _) _ _ _ _ :: _) _ _; refine wpList_ld rfl rfl rfl (run_ldC (by with_reducible assumption)) ?_; (try simp only [Act.put, List.setIfInBounds_toArray, List.set_cons_zero, List.set_cons_succ, World.size_alloc])) | (with_reducible show wpList _ _ _ (Oper.mk _ (Op.load 45 _) _ _ _ _ :: _) _ _; refine wpList_ld rfl rfl rfl (run_ldK (by with_reducible assumption)) ?_; (try simp only [Act.put, List.setIfInBounds_toArray, List.set_cons_zero, List.set_cons_succ, World.size_alloc])))
        refine (HK2 _).mono ?_
        rintro e' w14 ⟨rfl, b14_⟩
        have B14 := AB13.trans (b14_.mono AB13.size)
        replace KY := KY.below b14_ KY.lt
        replace TG := TG.below b14_ TG.lt
        replace TH := TH.below b14_ TH.lt
        clear AB13 b14_
        go_wp2
        go_ret
        exact ⟨rfl, B14⟩
      · rw [if_pos hm] at hcx2
        have m1 : decide (0 ≤ m) = true := decide_eq_true hm.1
        have m2 : decide (m < 128) = true := decide_eq_true (by omega)
        rw [hcx2]
        clear hcx2 hm
        go_wp2_with (first | (with_reducible show wpList _ _ _ (Oper.mk _ (Op.load 36 _) _ _ _ _ :: _) _ _; refine wpList_ld rfl rfl rfl (run_ldI (by with_reducible assumption)) ?_; (try simp only [Act.put, List.setIfInBounds_toArray, List.set_cons_zero, List.set_cons_succ, World.size_alloc])) | (with_reducible show wpList _ _ _ (Oper.mk _ (Op.load 43 _) _ _ _ _ :: _) _ _; refine wpList_ld rfl rfl rfl (run_ldC (by with_reducible assumption)) ?_; (try simp only [Act.put, List.setIfInBounds_toArray, List.set_cons_zero, List.set_cons_succ, World.size_alloc])) | (with_reducible show wpList _ _ _ (Oper.mk _ (Op.load 45 _) _ _ _ _ :: _) _ _; refine wpList_ld rfl rfl rfl (run_ldK (by with_reducible assumption)) ?_; (try simp only [Act.put, List.setIfInBounds_toArray, List.set_cons_zero, List.set_cons_succ, World.size_alloc])))
        refine (HK2 _).mono ?_
        rintro e' w14 ⟨rfl, b14_⟩
        have B14 := AB13.trans (b14_.mono AB13.size)
        replace KY := KY.below b14_ KY.lt
        replace TG := TG.below b14_ TG.lt
        replace TH := TH.below b14_ TH.lt
        clear AB13 b14_
        go_wp2
        go_ret
        exact ⟨rfl, B14⟩
      · rw [if_neg (by omega)] at hcx2
        have m1 : decide (0 ≤ m) = true := decide_eq_true (by omega)
        have m2 : decide (m < 128) = false := decide_eq_false (by omega)
        rw [hcx2]
        clear hcx2 hm
        go_wp2_with (first | (with_reducible show wpList _ _ _ (Oper.mk _ (Op.load 36 _) _ _ _ _ :: _) _ _; refine wpList_ld rfl rfl rfl (run_ldI (by with_reducible assumption)) ?_; (try simp only [Act.put, List.setIfInBounds_toArray, List.set_cons_zero, List.set_cons_succ, World.size_alloc])) | (with_reducible show wpList _ _ _ (Oper.mk _ (Op.load 43 _) _ _ _ _ :: _) _ _; refine wpList_ld rfl rfl rfl (run_ldC (by with_reducible assumption)) ?_; (try simp only [Act.put, List.setIfInBounds_toArray, List.set_cons_zero, List.set_cons_succ, World.size_alloc])) | (with_reducible show wpList _ _ _ (Oper.mk _ (Op.load 45 _) _ _ _ _ :: _) _ _; refine wpList_ld rfl rfl rfl (run_ldK (by with_reducible assumption)) ?_; (try simp only [Act.put, List.setIfInBounds_toArray, List.set_cons_zero, List.set_cons_succ, World.size_alloc])))
        refine (HK2 _).mono ?_
        rintro e' w14 ⟨rfl, b14_⟩
        have B14 := AB13.trans (b14_.mono AB13.size)
        replace KY := KY.below b14_ KY.lt
        replace TG := TG.below b14_ TG.lt
        replace TH := TH.below b14_ TH.lt
        clear AB13 b14_
        go_wp2
        go_ret
        exact ⟨rfl, B14⟩
  · have qE : (E1 == 0) = false := beq_eq_false_iff_ne.2 hE
    clear hE hid'
    go_wp2_with (first | (with_reducible show wpList _ _ _ (Oper.mk _ (Op.load 36 _) _ _ _ _ :: _) _ _; refine wpList_ld rfl rfl rfl (run_ldI (by with_reducible assumption)) ?_; (try simp only [Act.put, List.setIfInBounds_toArray, List.set_cons_zero, List.set_cons_succ, World.size_alloc])) | (with_reducible show wpList _ _ _ (Oper.mk _ (Op.load 43 _) _ _ _ _ :: _) _ _; refine wpList_ld rfl rfl rfl (run_ldC (by with_reducible assumption)) ?_; (try simp only [Act.put, List.setIfInBounds_toArray, List.set_cons_zero, List.set_cons_succ, World.size_alloc])) | (with_reducible show wpList _ _ _ (Oper.mk _ (Op.load 45 _) _ _ _ _ :: _) _ _; refine wpList_ld rfl rfl rfl (run_ldK (by with_reducible assumption)) ?_; (try simp only [Act.put, List.setIfInBounds_toArray, List.set_cons_zero, List.set_cons_succ, World.size_alloc])))
    refine (HX3 _ B7).mono ?_
    rintro e' w8 ⟨rfl, b8_⟩
    have B8 := B7.trans (b8_.mono B7.size)
    replace CA := CA.below b8_ CA.lt
    replace KY := KY.below b8_ KY.lt
    replace TX := TX.below b8_ TX.lt
    replace TA := TA.below b8_ TA.lt
    replace TD := TD.below b8_ TD.lt
    replace TE := TE.below b8_ TE.lt
    clear B7 b8_
    clear HX3 ta0 tal
    clear TA
    clear TD
    clear TE
    clear CA
    have A_ : Below w8.heap.size w8 (w8.alloc (.cells (kC kk) 45)) := (Below.refl _ w8).alloc (Nat.le_refl _) _
    have TG := bk_new w8 (kC kk) 45
    have AB8 := B8.trans (A_.mono B8.size)
    replace KY := KY.below A_ KY.lt
    replace TX := TX.below A_ TX.lt
    clear B8 A_
    go_wp2_with (first | (with_reducible show wpList _ _ _ (Oper.mk _ (Op.load 36 _) _ _ _ _ :: _) _ _; refine wpList_ld rfl rfl rfl (run_ldI (by with_reducible assumption)) ?_; (try simp only [Act.put, List.setIfInBounds_toArray, List.set_cons_zero, List.set_cons_succ, World.size_alloc])) | (with_reducible show wpList _ _ _ (Oper.mk _ (Op.load 43 _) _ _ _ _ :: _) _ _; refine wpList_ld rfl rfl rfl (run_ldC (by with_reducible assumption)) ?_; (try simp only [Act.put, List.setIfInBounds_toArray, List.set_cons_zero, List.set_cons_succ, World.size_alloc])) | (with_reducible show wpList _ _ _ (Oper.mk _ (Op.load 45 _) _ _ _ _ :: _) _ _; refine wpList_ld rfl rfl rfl (run_ldK (by with_reducible assumption)) ?_; (try simp only [Act.put, List.setIfInBounds_toArray, List.set_cons_zero, List.set_cons_succ, World.size_alloc])))
    refine (HX4 _ AB8).mono ?_
    rintro e' w9 ⟨rfl, b9_⟩
    have B9 := AB8.trans (b9_.mono AB8.size)
    replace KY := KY.below b9_ KY.lt
    replace TX := TX.below b9_ TX.lt
    replace TG := TG.below b9_ TG.lt
    clear AB8 b9_
    have A_ : Below w9.heap.size w9 (w9.alloc (.cells (kC kk) 45)) := (Below.refl _ w9).alloc (Nat.le_refl _) _
    have TH := bk_new w9 (kC kk) 45
    have AB9 := B9.trans (A_.mono B9.size)
    replace KY := KY.below A_ KY.lt
    replace TX := TX.below A_ TX.lt
    replace TG := TG.below A_ TG.lt
    clear B9 A_
    go_wp2_with (first | (with_reducible show wpList _ _ _ (Oper.mk _ (Op.load 36 _) _ _ _ _ :: _) _ _; refine wpList_ld rfl rfl rfl (run_ldI (by with_reducible assumption)) ?_; (try simp only [Act.put, List.setIfInBounds_toArray, List.set_cons_zero, List.set_cons_succ, World.size_alloc])) | (with_reducible show wpList _ _ _ (Oper.mk _ (Op.load 43 _) _ _ _ _ :: _) _ _; refine wpList_ld rfl rfl rfl (run_ldC (by with_reducible assumption)) ?_; (try simp only [Act.put, List.setIfInBounds_toArray, List.set_cons_zero, List.set_cons_succ, World.size_alloc])) | (with_reducible show wpList _ _ _ (Oper.mk _ (Op.load 45 _) _ _ _ _ :: _) _ _; refine wpList_ld rfl rfl rfl (run_ldK (by with_reducible assumption)) ?_; (try simp only [Act.put, List.setIfInBounds_toArray, List.set_cons_zero, List.set_cons_succ, World.size_alloc])))
    refine (HX5 _ AB9).mono ?_
    rintro e' w10 ⟨rfl, b10_⟩
    have B10 := AB9.trans (b10_.mono AB9.size)
    replace KY := KY.below b10_ KY.lt
    replace TX := TX.below b10_ TX.lt
    replace TG := TG.below b10_ TG.lt
    replace TH := TH.below b10_ TH.lt
    clear AB9 b10_
    go_wp2_with (first | (with_reducible show wpList _ _ _ (Oper.mk _ (Op.load 36 _) _ _ _ _ :: _) _ _; refine wpList_ld rfl rfl rfl (run_ldI (by with_reducible assumption)) ?_; (try simp only [Act.put, List.setIfInBounds_toArray, List.set_cons_zero, List.set_cons_succ, World.size_alloc])) | (with_reducible show wpList _ _ _ (Oper.mk _ (Op.load 43 _) _ _ _ _ :: _) _ _; refine wpList_ld rfl rfl rfl (run_ldC (by with_reducible assumption)) ?_; (try simp only [Act.put, List.setIfInBounds_toArray, List.set_cons_zero, List.set_cons_succ, World.size_alloc])) | (with_reducible show wpList _ _ _ (Oper.mk _ (Op.load 45 _) _ _ _ _ :: _) _ _; refine wpList_ld rfl rfl rfl (run_ldK (by with_reducible assumption)) ?_; (try simp only [Act.put, List.setIfInBounds_toArray, List.set_cons_zero, List.set_cons_succ, World.size_alloc])))
    refine (HX6 _ B10).mono ?_
    rintro e' w11 ⟨rfl, b11_⟩
    have B11 := B10.trans (b11_.mono B10.size)
    replace KY := KY.below b11_ KY.lt
    replace TX := TX.below b11_ TX.lt
    replace TG := TG.below b11_ TG.lt
    replace TH := TH.below b11_ TH.lt
    clear B10 b11_
    clear HX4 HX5 HX6
    clear TX
    go_wp2_with (first | (with_reducible show wpList _ _ _ (Oper.mk _ (Op.load 36 _) _ _ _ _ :: _) _ _; refine wpList_ld rfl rfl rfl (run_ldI (by with_reducible assumption)) ?_; (try simp only [Act.put, List.setIfInBounds_toArray, List.set_cons_zero, List.set_cons_succ, World.size_alloc])) | (with_reducible show wpList _ _ _ (Oper.mk _ (Op.load 43 _) _ _ _ _ :: _) _ _; refine wpList_ld rfl rfl rfl (run_ldC (by with_reducible assumption)) ?_; (try simp only [Act.put, List.setIfInBounds_toArray, List.set_cons_zero, List.set_cons_succ, World.size_alloc])) | (with_reducible show wpList _ _ _ (Oper.mk _ (Op.load 45 _) _ _ _ _ :: _) _ _; refine wpList_ld rfl rfl rfl (run_ldK (by with_reducible assumption)) ?_; (try simp only [Act.put, List.setIfInBounds_toArray, List.set_cons_zero, List.set_cons_succ, World.size_alloc])))
    refine (HK1 _).mono ?_
    rintro e' w12 ⟨ay, ny, cy, rfl, _, _, _, b12_⟩
    have B12 := B11.trans (b12_.mono B11.size)
    replace KY := KY.below b12_ KY.lt
    replace TG := TG.below b12_ TG.lt
    replace TH := TH.below b12_ TH.lt
    clear B11 b12_
    clear HK1
    have A_ : Below w12.heap.size w12 (w12.alloc (.cells #[.int .u8 ((keX y).id.toNat : Int), .slice ay ny cy] 36)) := (Below.refl _ w12).alloc (Nat.le_refl _) _
    have TI := bk_new w12 #[.int .u8 ((keX y).id.toNat : Int), .slice ay ny cy] 36
    have AB12 := B12.trans (A_.mono B12.size)
    replace KY := KY.below A_ KY.lt
    replace TG := TG.below A_ TG.lt
    replace TH := TH.below A_ TH.lt
    clear B12 A_
    go_wp2_with (first | (with_reducible show wpList _ _ _ (Oper.mk _ (Op.load 36 _) _ _ _ _ :: _) _ _; refine wpList_ld rfl rfl rfl (run_ldI (by with_reducible assumption)) ?_; (try simp only [Act.put, List.setIfInBounds_toArray, List.set_cons_zero, List.set_cons_succ, World.size_alloc])) | (with_reducible show wpList _ _ _ (Oper.mk _ (Op.load 43 _) _ _ _ _ :: _) _ _; refine wpList_ld rfl rfl rfl (run_ldC (by with_reducible assumption)) ?_; (try simp only [Act.put, List.setIfInBounds_toArray, List.set_cons_zero, List.set_cons_succ, World.size_alloc])) | (with_reducible show wpList _ _ _ (Oper.mk _ (Op.load 45 _) _ _ _ _ :: _) _ _; refine wpList_ld rfl rfl rfl (run_ldK (by with_reducible assumption)) ?_; (try simp only [Act.put, List.setIfInBounds_toArray, List.set_cons_zero, List.set_cons_succ, World.size_alloc])))
    refine (HC1 _).mono ?_
    rintro e' w13 ⟨az, nz, cz, rfl, _, _, _, b13_⟩
    have B13 := AB12.trans (b13_.mono AB12.size)
    replace KY := KY.below b13_ KY.lt
    replace TG := TG.below b13_ TG.lt
    replace TH := TH.below b13_ TH.lt
    replace TI := TI.below b13_ TI.lt
    clear AB12 b13_
    clear HC1
    have A_ : Below w13.heap.size w13 (w13.alloc (.cells #[.int .u8 ((caX m).id.toNat : Int), .slice az nz cz] 36)) := (Below.refl _ w13).alloc (Nat.le_refl _) _
    have TJ := bk_new w13 #[.int .u8 ((caX m).id.toNat : Int), .slice az nz cz] 36
    have AB13 := B13.trans (A_.mono B13.size)
    replace KY := KY.below A_ KY.lt
    replace TG := TG.below A_ TG.lt
    replace TH := TH.below A_ TH.lt
    replace TI := TI.below A_ TI.lt
    clear B13 A_
    clear TI
    clear TJ
    have hkx : kyX y = if rightK y = true then 0 else 1 := rfl
    have hcx2 : cuX m = if 0 ≤ m ∧ m ≤ 127 then 0 else 1 := rfl
    cases hK : rightK y
    · rw [hK, if_neg (by simp)] at hkx
      rw [hkx]
      rw [hK] at HK2
      clear hkx hK
      rcases (show m < 0 ∨ (0 ≤ m ∧ m ≤ 127) ∨ 127 < m by omega) with hm | hm | hm
      · rw [if_neg (by omega)] at hcx2
        have m1 : decide (0 ≤ m) = false := decide_eq_false (by omega)
        rw [hcx2]
        clear hcx2 hm
        go_wp2_with (first | (with_reducible show wpList _ _ _ (Oper.mk _ (Op.load 36 _) _ _ _ _ :: _) _ _; refine wpList_ld rfl rfl rfl (run_ldI (by with_reducible assumption)) ?_; (try simp only [Act.put, List.setIfInBounds_toArray, List.set_cons_zero, List.set_cons_succ, World.size_alloc])) | (with_reducible show wpList _ _ _ (Oper.mk _ (Op.load 43 _) _ _ _ _ :: _) _ _; refine wpList_ld rfl rfl rfl (run_ldC (by with_reducible assumption)) ?_; (try simp only [Act.put, List.setIfInBounds_toArray, List.set_cons_zero, List.set_cons_succ, World.size_alloc])) | (with_reducible show wpList _ _ _ (Oper.mk _ (Op.load 45 _) _ _ _ _ :: _) _ _; refine wpList_ld rfl rfl rfl (run_ldK (by with_reducible assumption)) ?_; (try simp only [Act.put, List.setIfInBounds_toArray, List.set_cons_zero, List.set_cons_succ, World.size_alloc])))
        refine (HK2 _).mono ?_
        rintro e' w14 ⟨rfl, b14_⟩
        have B14 := AB13.trans (b14_.mono AB13.size)
        replace KY := KY.below b14_ KY.lt
        replace TG := TG.below b14_ TG.lt
        replace TH := TH.below b14_ TH.lt
        clear AB13 b14_
        go_wp2
        go_ret
        exact ⟨rfl, B14⟩
      · rw [if_pos hm] at hcx2
        have m1 : decide (0 ≤ m) = true := decide_eq_true hm.1
        have m2 : decide (m < 128) = true := decide_eq_true (by omega)
        rw [hcx2]
        clear hcx2 hm
        go_wp2_with (first | (with_reducible show wpList _ _ _ (Oper.mk _ (Op.load 36 _) _ _ _ _ :: _) _ _; refine wpList_ld rfl rfl rfl (run_ldI (by with_reducible assumption)) ?_; (try simp only [Act.put, List.setIfInBounds_toArray, List.set_cons_zero, List.set_cons_succ, World.size_alloc])) | (with_reducible show wpList _ _ _ (Oper.mk _ (Op.load 43 _) _ _ _ _ :: _) _ _; refine wpList_ld rfl rfl rfl (run_ldC (by with_reducible assumption)) ?_; (try simp only [Act.put, List.setIfInBounds_toArray, List.set_cons_zero, List.set_cons_succ, World.size_alloc])) | (with_reducible show wpList _ _ _ (Oper.mk _ (Op.load 45 _) _ _ _ _ :: _) _ _; refine wpList_ld rfl rfl rfl (run_ldK (by with_reducible assumption)) ?_; (try simp only [Act.put, List.setIfInBounds_toArray, List.set_cons_zero, List.set_cons_succ, World.size_alloc])))
        refine (HK2 _).mono ?_
        rintro e' w14 ⟨rfl, b14_⟩
        have B14 := AB13.trans (b14_.mono AB13.size)
        replace KY := KY.below b14_ KY.lt
        replace TG := TG.below b14_ TG.lt
        replace TH := TH.below b14_ TH.lt
        clear AB13 b14_
        go_wp2
        go_ret
        exact ⟨rfl, B14⟩
      · rw [if_neg (by omega)] at hcx2
        have m1 : decide (0 ≤ m) = true := decide_eq_true (by omega)
        have m2 : decide (m < 128) = false := decide_eq_false (by omega)
        rw [hcx2]
        clear hcx2 hm
        go_wp2_with (first | (with_reducible show wpList _ _ _ (Oper.mk _ (Op.load 36 _) _ _ _ _ :: _) _ _; refine wpList_ld rfl rfl rfl (run_ldI (by with_reducible assumption)) ?_; (try simp only [Act.put, List.setIfInBounds_toArray, List.set_cons_zero, List.set_cons_succ, World.size_alloc])) | (with_reducible show wpList _ _ _ (Oper.mk _ (Op.load 43 _) _ _ _ _ :: _) _ _; refine wpList_ld rfl rfl rfl (run_ldC (by with_reducible assumption)) ?_; (try simp only [Act.put, List.setIfInBounds_toArray, List.set_cons_zero, List.set_cons_succ, World.size_alloc])) | (with_reducible show wpList _ _ _ (Oper.mk _ (Op.load 45 _) _ _ _ _ :: _) _ _; refine wpList_ld rfl rfl rfl (run_ldK (by with_reducible assumption)) ?_; (try simp only [Act.put, List.setIfInBounds_toArray, List.set_cons_zero, List.set_cons_succ, World.size_alloc])))
        refine (HK2 _).mono ?_
        rintro e' w14 ⟨rfl, b14_⟩
        have B14 := AB13.trans (b14_.mono AB13.size)
        replace KY := KY.below b14_ KY.lt
        replace TG := TG.below b14_ TG.lt
        replace TH := TH.below b14_ TH.lt
        clear AB13 b14_
        go_wp2
        go_ret
        exact ⟨rfl, B14⟩
    · rw [hK, if_pos rfl] at hkx
      rw [hkx]
      rw [hK] at HK2
      clear hkx hK
      rcases (show m < 0 ∨ (0 ≤ m ∧ m ≤ 127) ∨ 127 < m by omega) with hm | hm | hm
      · rw [if_neg (by omega)] at hcx2
        have m1 : decide (0 ≤ m) = false := decide_eq_false (by omega)
        rw [hcx2]
        clear hcx2 hm
        go_wp2_with (first | (with_reducible show wpList _ _ _ (Oper.mk _ (Op.load 36 _) _ _ _ _ :: _) _ _; refine wpList_ld rfl rfl rfl (run_ldI (by with_reducible assumption)) ?_; (try simp only [Act.put, List.setIfInBounds_toArray, List.set_cons_zero, List.set_cons_succ, World.size_alloc])) | (with_reducible show wpList _ _ _ (Oper.mk _ (Op.load 43 _) _ _ _ _ :: _) _ _; refine wpList_ld rfl rfl rfl (run_ldC (by with_reducible assumption)) ?_; (try simp only [Act.put, List.setIfInBounds_toArray, List.set_cons_zero, List.set_cons_succ, World.size_alloc])) | (with_reducible show wpList _ _ _ (Oper.mk _ (Op.load 45 _) _ _ _ _ :: _) _ _; refine wpList_ld rfl rfl rfl (run_ldK (by with_reducible assumption)) ?_; (try simp only [Act.put, List.setIfInBounds_toArray, List.set_cons_zero, List.set_cons_succ, World.size_alloc])))
        refine (HK2 _).mono ?_
        rintro e' w14 ⟨rfl, b14_⟩
        have B14 := AB13.trans (b14_.mono AB13.size)
        replace KY := KY.below b14_ KY.lt
        replace TG := TG.below b14_ TG.lt
        replace TH := TH.below b14_ TH.lt
        clear AB13 b14_
        go_wp2
        go_ret
        exact ⟨rfl, B14⟩
      · rw [if_pos hm] at hcx2
        have m1 : decide (0 ≤ m) = true := decide_eq_true hm.1
        have m2 : decide (m < 128) = true := decide_eq_true (by omega)
        rw [hcx2]
        clear hcx2 hm
        go_wp2_with (first | (with_reducible show wpList _ _ _ (Oper.mk _ (Op.load 36 _) _ _ _ _ :: _) _ _; refine wpList_ld rfl rfl rfl (run_ldI (by with_reducible assumption)) ?_; (try simp only [Act.put, List.setIfInBounds_toArray, List.set_cons_zero, List.set_cons_succ, World.size_alloc])) | (with_reducible show wpList _ _ _ (Oper.mk _ (Op.load 43 _) _ _ _ _ :: _) _ _; refine wpList_ld rfl rfl rfl (run_ldC (by with_reducible assumption)) ?_; (try simp only [Act.put, List.setIfInBounds_toArray, List.set_cons_zero, List.set_cons_succ, World.size_alloc])) | (with_reducible show wpList _ _ _ (Oper.mk _ (Op.load 45 _) _ _ _ _ :: _) _ _; refine wpList_ld rfl rfl rfl (run_ldK (by with_reducible assumption)) ?_; (try simp only [Act.put, List.setIfInBounds_toArray, List.set_cons_zero, List.set_cons_succ, World.size_alloc])))
        refine (HK2 _).mono ?_
        rintro e' w14 ⟨rfl, b14_⟩
        have B14 := AB13.trans (b14_.mono AB13.size)
        replace KY := KY.below b14_ KY.lt
        replace TG := TG.below b14_ TG.lt
        replace TH := TH.below b14_ TH.lt
        clear AB13 b14_
        go_wp2
        go_ret
        exact ⟨rfl, B14⟩
      · rw [if_neg (by omega)] at hcx2
        have m1 : decide (0 ≤ m) = true := decide_eq_true (by omega)
        have m2 : decide (m < 128) = false := decide_eq_false (by omega)
        rw [hcx2]
        clear hcx2 hm
        go_wp2_with (first | (with_reducible show wpList _ _ _ (Oper.mk _ (Op.load 36 _) _ _ _ _ :: _) _ _; refine wpList_ld rfl rfl rfl (run_ldI (by with_reducible assumption)) ?_; (try simp only [Act.put, List.setIfInBounds_toArray, List.set_cons_zero, List.set_cons_succ, World.size_alloc])) | (with_reducible show wpList _ _ _ (Oper.mk _ (Op.load 43 _) _ _ _ _ :: _) _ _; refine wpList_ld rfl rfl rfl (run_ldC (by with_reducible assumption)) ?_; (try simp only [Act.put, List.setIfInBounds_toArray, List.set_cons_zero, List.set_cons_succ, World.size_alloc])) | (with_reducible show wpList _ _ _ (Oper.mk _ (Op.load 45 _) _ _ _ _ :: _) _ _; refine wpList_ld rfl rfl rfl (run_ldK (by with_reducible assumption)) ?_; (try simp only [Act.put, List.setIfInBounds_toArray, List.set_cons_zero, List.set_cons_succ, World.size_alloc])))
        refine (HK2 _).mono ?_
        rintro e' w14 ⟨rfl, b14_⟩
        have B14 := AB13.trans (b14_.mono AB13.size)
        replace KY := KY.below b14_ KY.lt
        replace TG := TG.below b14_ TG.lt
        replace TH := TH.below b14_ TH.lt
        clear AB13 b14_
        go_wp2
        go_ret
        exact ⟨rfl, B14⟩
end Go.Proofs.Ytbjkioekmekeaaa
