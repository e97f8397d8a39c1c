/- Proved here: the walk of ElementKinds. Conditions: as the theorem states them. -/
import Derived.Test.YtbjkioekmekeaaaAw
import Derived.Test.YtbjkioekmekeaaaKd
import Derived.Test.YtbjkioekmekeaaaRefC
namespace Go.Proofs.Ytbjkioekmekeaaa
set_option linter.unusedSimpArgs false
set_option linter.unusedVariables false
open Go.RowKit Go.Shelf

set_option maxHeartbeats 8000000 in
theorem kinds_walk (k p e v b l : Int) (y : Ky) (m : Nat) (hm : m ≤ 255) (w : World) :
    Calls Try.prog 6 #[.agg (cC k p e v b l), .agg (kC y), .int .u8 m] w fun e w' => e = .returned (.bool true) ∧ Below w.heap.size w w' := by
  have CA := (bk_new w (cC k p e v b l) 43).alloc (.cells (kC y) 45)
  have KY := bk_new (w.alloc (.cells (cC k p e v b l) 43)) (kC y) 45
  have B1 : Below w.heap.size w ((w.alloc (.cells (cC k p e v b l) 43)).alloc (.cells (kC y) 45)) := ((Below.refl _ w).alloc (Nat.le_refl _) _).alloc (by simp) _
  rw [World.size_alloc] at KY
  have HA := awake_calls ((w.alloc (.cells (cC k p e v b l) 43)).alloc (.cells (kC y) 45))
  have hcc : ((m : Int) % 128) = ((m % 128 : Nat) : Int) := by omega
  have HCA : ∀ w', Calls Try.prog 27 #[.int .i64 ((m : Int) % 128)] w' fun e w'' => IeAns w'.heap.size (causeE (m % 128)) e w'' ∧ Below w'.heap.size w' w'' := by
    intro w'
    rw [hcc]
    exact cause_ok (m % 128) (by omega) w'
  have HRR := fun w => refright_calls k p e v b l w
  have hnC := fun w => neq_C k p e v b l w
  have hnK := fun w => neq_K y w
  have HTA := fun w => traf_all k p e v b l w
  have htb := tr_body k p e v b l
  clear hcc
  go_enter Try.func6, Try.ntmps6
  go_wp2_with fail
  refine (HA).mono ?_
  rintro e' w2 ⟨rfl, b2_⟩
  have B2 := B1.trans (b2_.mono B1.size)
  replace CA := CA.below b2_ CA.lt
  replace KY := KY.below b2_ KY.lt
  clear B1 b2_
  clear HA
  by_cases hE : errN k p e v b l = 0
  · obtain ⟨t1, t2, t3, t4⟩ := tr_reads hE
    rw [hE] at HTA HRR
    clear hE
    generalize hX : trX k p e v b l = X at *
    clear hX
    go_wp2_with (first | (with_reducible show wpList _ _ _ (Oper.mk _ (Op.load 36 _) _ _ _ _ :: _) _ _; refine wpList_ld rfl rfl rfl (run_ldI (by with_reducible assumption)) ?_; (try simp only [Act.put, List.setIfInBounds_toArray, List.set_cons_zero, List.set_cons_succ, World.size_alloc])) | (with_reducible show wpList _ _ _ (Oper.mk _ (Op.load 43 _) _ _ _ _ :: _) _ _; refine wpList_ld rfl rfl rfl (run_ldC (by with_reducible assumption)) ?_; (try simp only [Act.put, List.setIfInBounds_toArray, List.set_cons_zero, List.set_cons_succ, World.size_alloc])) | (with_reducible show wpList _ _ _ (Oper.mk _ (Op.load 45 _) _ _ _ _ :: _) _ _; refine wpList_ld rfl rfl rfl (run_ldK (by with_reducible assumption)) ?_; (try simp only [Act.put, List.setIfInBounds_toArray, List.set_cons_zero, List.set_cons_succ, World.size_alloc])))
    refine (HTA _).mono ?_
    rintro e' w3 ⟨ax, nx, cx, rfl, IX, _, qx, b3_⟩
    have B3 := B2.trans (b3_.mono B2.size)
    replace CA := CA.below b3_ CA.lt
    replace KY := KY.below b3_ KY.lt
    clear B2 b3_
    have HXT := fun w1 (d : Below w3.heap.size w3 w1) => rt_calls X ax nx cx w1 (IX.below d (Nat.le_refl _)) d.size qx
    have HXK := fun w1 (d : Below w3.heap.size w3 w1) => rk_calls X ax nx cx w1 (IX.below d (Nat.le_refl _)) d.size qx
    have HXC := fun w1 (d : Below w3.heap.size w3 w1) => rc_calls X ax nx cx w1 (IX.below d (Nat.le_refl _)) d.size
    rw [t1, t2] at HXT
    rw [t3] at HXK
    rw [t4] at HXC
    clear t1 t2 t3 t4 htb HTA IX
    have DX := Below.refl w3.heap.size w3
    have A_ : Below w3.heap.size w3 (w3.alloc (.cells #[.int .u8 (X.id.toNat : Int), .slice ax nx cx] 36)) := (Below.refl _ w3).alloc (Nat.le_refl _) _
    have TX := bk_new w3 #[.int .u8 (X.id.toNat : Int), .slice ax nx cx] 36
    have AB3 := B3.trans (A_.mono B3.size)
    replace CA := CA.below A_ CA.lt
    replace KY := KY.below A_ KY.lt
    replace DX := DX.trans (A_.mono DX.size)
    clear B3 A_
    go_wp2_with (first | (with_reducible show wpList _ _ _ (Oper.mk _ (Op.load 36 _) _ _ _ _ :: _) _ _; refine wpList_ld rfl rfl rfl (run_ldI (by with_reducible assumption)) ?_; (try simp only [Act.put, List.setIfInBounds_toArray, List.set_cons_zero, List.set_cons_succ, World.size_alloc])) | (with_reducible show wpList _ _ _ (Oper.mk _ (Op.load 43 _) _ _ _ _ :: _) _ _; refine wpList_ld rfl rfl rfl (run_ldC (by with_reducible assumption)) ?_; (try simp only [Act.put, List.setIfInBounds_toArray, List.set_cons_zero, List.set_cons_succ, World.size_alloc])) | (with_reducible show wpList _ _ _ (Oper.mk _ (Op.load 45 _) _ _ _ _ :: _) _ _; refine wpList_ld rfl rfl rfl (run_ldK (by with_reducible assumption)) ?_; (try simp only [Act.put, List.setIfInBounds_toArray, List.set_cons_zero, List.set_cons_succ, World.size_alloc])))
    refine (HXT _ DX).mono ?_
    rintro e' w4 ⟨rfl, b4_⟩
    have B4 := AB3.trans (b4_.mono AB3.size)
    replace CA := CA.below b4_ CA.lt
    replace KY := KY.below b4_ KY.lt
    replace TX := TX.below b4_ TX.lt
    replace DX := DX.trans (b4_.mono DX.size)
    clear AB3 b4_
    have A_ : Below w4.heap.size w4 (w4.alloc (.cells (cC k p e v b l) 43)) := (Below.refl _ w4).alloc (Nat.le_refl _) _
    have TF := bk_new w4 (cC k p e v b l) 43
    have AB4 := B4.trans (A_.mono B4.size)
    replace CA := CA.below A_ CA.lt
    replace KY := KY.below A_ KY.lt
    replace TX := TX.below A_ TX.lt
    replace DX := DX.trans (A_.mono DX.size)
    clear B4 A_
    go_wp2_with (first | (with_reducible show wpList _ _ _ (Oper.mk _ (Op.load 36 _) _ _ _ _ :: _) _ _; refine wpList_ld rfl rfl rfl (run_ldI (by with_reducible assumption)) ?_; (try simp only [Act.put, List.setIfInBounds_toArray, List.set_cons_zero, List.set_cons_succ, World.size_alloc])) | (with_reducible show wpList _ _ _ (Oper.mk _ (Op.load 43 _) _ _ _ _ :: _) _ _; refine wpList_ld rfl rfl rfl (run_ldC (by with_reducible assumption)) ?_; (try simp only [Act.put, List.setIfInBounds_toArray, List.set_cons_zero, List.set_cons_succ, World.size_alloc])) | (with_reducible show wpList _ _ _ (Oper.mk _ (Op.load 45 _) _ _ _ _ :: _) _ _; refine wpList_ld rfl rfl rfl (run_ldK (by with_reducible assumption)) ?_; (try simp only [Act.put, List.setIfInBounds_toArray, List.set_cons_zero, List.set_cons_succ, World.size_alloc])))
    refine (HXK _ DX).mono ?_
    rintro e' w5 ⟨rfl, b5_⟩
    have B5 := AB4.trans (b5_.mono AB4.size)
    replace CA := CA.below b5_ CA.lt
    replace KY := KY.below b5_ KY.lt
    replace TX := TX.below b5_ TX.lt
    replace TF := TF.below b5_ TF.lt
    replace DX := DX.trans (b5_.mono DX.size)
    clear AB4 b5_
    have A_ : Below w5.heap.size w5 (w5.alloc (.cells (kC (0, 0, 0)) 45)) := (Below.refl _ w5).alloc (Nat.le_refl _) _
    have TG := bk_new w5 (kC (0, 0, 0)) 45
    have AB5 := B5.trans (A_.mono B5.size)
    replace CA := CA.below A_ CA.lt
    replace KY := KY.below A_ KY.lt
    replace TX := TX.below A_ TX.lt
    replace TF := TF.below A_ TF.lt
    replace DX := DX.trans (A_.mono DX.size)
    clear B5 A_
    go_wp2_with (first | (with_reducible show wpList _ _ _ (Oper.mk _ (Op.load 36 _) _ _ _ _ :: _) _ _; refine wpList_ld rfl rfl rfl (run_ldI (by with_reducible assumption)) ?_; (try simp only [Act.put, List.setIfInBounds_toArray, List.set_cons_zero, List.set_cons_succ, World.size_alloc])) | (with_reducible show wpList _ _ _ (Oper.mk _ (Op.load 43 _) _ _ _ _ :: _) _ _; refine wpList_ld rfl rfl rfl (run_ldC (by with_reducible assumption)) ?_; (try simp only [Act.put, List.setIfInBounds_toArray, List.set_cons_zero, List.set_cons_succ, World.size_alloc])) | (with_reducible show wpList _ _ _ (Oper.mk _ (Op.load 45 _) _ _ _ _ :: _) _ _; refine wpList_ld rfl rfl rfl (run_ldK (by with_reducible assumption)) ?_; (try simp only [Act.put, List.setIfInBounds_toArray, List.set_cons_zero, List.set_cons_succ, World.size_alloc])))
    refine (HXC _ DX).mono ?_
    rintro e' w6 ⟨rfl, b6_⟩
    have B6 := AB5.trans (b6_.mono AB5.size)
    replace CA := CA.below b6_ CA.lt
    replace KY := KY.below b6_ KY.lt
    replace TX := TX.below b6_ TX.lt
    replace TF := TF.below b6_ TF.lt
    replace TG := TG.below b6_ TG.lt
    replace DX := DX.trans (b6_.mono DX.size)
    clear AB5 b6_
    clear HXT HXK HXC
    clear DX
    cases hK : rightK y
    · have hk1 : kyX y = 1 := by unfold kyX; rw [hK]; rfl
      have HKA := fun w => key_all y w
      rw [hk1] at HKA
      clear hk1 hK
      generalize hY : keX y = Y at *
      clear hY
      go_wp2_with (first | (with_reducible show wpList _ _ _ (Oper.mk _ (Op.load 36 _) _ _ _ _ :: _) _ _; refine wpList_ld rfl rfl rfl (run_ldI (by with_reducible assumption)) ?_; (try simp only [Act.put, List.setIfInBounds_toArray, List.set_cons_zero, List.set_cons_succ, World.size_alloc])) | (with_reducible show wpList _ _ _ (Oper.mk _ (Op.load 43 _) _ _ _ _ :: _) _ _; refine wpList_ld rfl rfl rfl (run_ldC (by with_reducible assumption)) ?_; (try simp only [Act.put, List.setIfInBounds_toArray, List.set_cons_zero, List.set_cons_succ, World.size_alloc])) | (with_reducible show wpList _ _ _ (Oper.mk _ (Op.load 45 _) _ _ _ _ :: _) _ _; refine wpList_ld rfl rfl rfl (run_ldK (by with_reducible assumption)) ?_; (try simp only [Act.put, List.setIfInBounds_toArray, List.set_cons_zero, List.set_cons_succ, World.size_alloc])))
      refine (HKA _).mono ?_
      rintro e' w7 ⟨ay, ny, cy, rfl, IY, _, qy, b7_⟩
      have B7 := B6.trans (b7_.mono B6.size)
      replace CA := CA.below b7_ CA.lt
      replace KY := KY.below b7_ KY.lt
      replace TX := TX.below b7_ TX.lt
      replace TF := TF.below b7_ TF.lt
      replace TG := TG.below b7_ TG.lt
      clear B6 b7_
      have iyl := IY.1
      clear HKA iyl
      have A_ : Below w7.heap.size w7 (w7.alloc (.cells #[.int .u8 (Y.id.toNat : Int), .slice ay ny cy] 36)) := (Below.refl _ w7).alloc (Nat.le_refl _) _
      have TY := bk_new w7 #[.int .u8 (Y.id.toNat : Int), .slice ay ny cy] 36
      have AB7 := B7.trans (A_.mono B7.size)
      replace CA := CA.below A_ CA.lt
      replace KY := KY.below A_ KY.lt
      replace TX := TX.below A_ TX.lt
      replace TF := TF.below A_ TF.lt
      replace TG := TG.below A_ TG.lt
      clear B7 A_
      go_wp2_with (first | (with_reducible show wpList _ _ _ (Oper.mk _ (Op.load 36 _) _ _ _ _ :: _) _ _; refine wpList_ld rfl rfl rfl (run_ldI (by with_reducible assumption)) ?_; (try simp only [Act.put, List.setIfInBounds_toArray, List.set_cons_zero, List.set_cons_succ, World.size_alloc])) | (with_reducible show wpList _ _ _ (Oper.mk _ (Op.load 43 _) _ _ _ _ :: _) _ _; refine wpList_ld rfl rfl rfl (run_ldC (by with_reducible assumption)) ?_; (try simp only [Act.put, List.setIfInBounds_toArray, List.set_cons_zero, List.set_cons_succ, World.size_alloc])) | (with_reducible show wpList _ _ _ (Oper.mk _ (Op.load 45 _) _ _ _ _ :: _) _ _; refine wpList_ld rfl rfl rfl (run_ldK (by with_reducible assumption)) ?_; (try simp only [Act.put, List.setIfInBounds_toArray, List.set_cons_zero, List.set_cons_succ, World.size_alloc])))
      refine (HCA _).mono ?_
      rintro e' w8 ⟨⟨az, lz, cz, rfl, oz⟩, b8_⟩
      have B8 := AB7.trans (b8_.mono AB7.size)
      replace CA := CA.below b8_ CA.lt
      replace KY := KY.below b8_ KY.lt
      replace TX := TX.below b8_ TX.lt
      replace TF := TF.below b8_ TF.lt
      replace TG := TG.below b8_ TG.lt
      replace TY := TY.below b8_ TY.lt
      clear AB7 b8_
      have hlz : lz = 2 := oz.1
      have HRC := fun w1 (d : Below w8.heap.size w8 w1) => rc_calls (causeE (m % 128)) az lz cz w1 ((oz.isB.1).below d (Nat.le_refl _)) d.size
      rw [ca_reads (by omega)] at HRC
      clear hlz oz
      have DZ := Below.refl w8.heap.size w8
      have A_ : Below w8.heap.size w8 (w8.alloc (.cells #[.int .u8 ((causeE (m % 128)).id.toNat : Int), .slice az lz cz] 36)) := (Below.refl _ w8).alloc (Nat.le_refl _) _
      have TZ := bk_new w8 #[.int .u8 ((causeE (m % 128)).id.toNat : Int), .slice az lz cz] 36
      have AB8 := B8.trans (A_.mono B8.size)
      replace CA := CA.below A_ CA.lt
      replace KY := KY.below A_ KY.lt
      replace TX := TX.below A_ TX.lt
      replace TF := TF.below A_ TF.lt
      replace TG := TG.below A_ TG.lt
      replace TY := TY.below A_ TY.lt
      replace DZ := DZ.trans (A_.mono DZ.size)
      clear B8 A_
      go_wp2_with (first | (with_reducible show wpList _ _ _ (Oper.mk _ (Op.load 36 _) _ _ _ _ :: _) _ _; refine wpList_ld rfl rfl rfl (run_ldI (by with_reducible assumption)) ?_; (try simp only [Act.put, List.setIfInBounds_toArray, List.set_cons_zero, List.set_cons_succ, World.size_alloc])) | (with_reducible show wpList _ _ _ (Oper.mk _ (Op.load 43 _) _ _ _ _ :: _) _ _; refine wpList_ld rfl rfl rfl (run_ldC (by with_reducible assumption)) ?_; (try simp only [Act.put, List.setIfInBounds_toArray, List.set_cons_zero, List.set_cons_succ, World.size_alloc])) | (with_reducible show wpList _ _ _ (Oper.mk _ (Op.load 45 _) _ _ _ _ :: _) _ _; refine wpList_ld rfl rfl rfl (run_ldK (by with_reducible assumption)) ?_; (try simp only [Act.put, List.setIfInBounds_toArray, List.set_cons_zero, List.set_cons_succ, World.size_alloc])))
      refine (HRC _ DZ).mono ?_
      rintro e' w9 ⟨rfl, b9_⟩
      have B9 := AB8.trans (b9_.mono AB8.size)
      replace CA := CA.below b9_ CA.lt
      replace KY := KY.below b9_ KY.lt
      replace TX := TX.below b9_ TX.lt
      replace TF := TF.below b9_ TF.lt
      replace TG := TG.below b9_ TG.lt
      replace TY := TY.below b9_ TY.lt
      replace TZ := TZ.below b9_ TZ.lt
      replace DZ := DZ.trans (b9_.mono DZ.size)
      clear AB8 b9_
      clear HRC
      clear DZ
      clear TZ
      clear TY
      go_wp2_with (first | (with_reducible show wpList _ _ _ (Oper.mk _ (Op.load 36 _) _ _ _ _ :: _) _ _; refine wpList_ld rfl rfl rfl (run_ldI (by with_reducible assumption)) ?_; (try simp only [Act.put, List.setIfInBounds_toArray, List.set_cons_zero, List.set_cons_succ, World.size_alloc])) | (with_reducible show wpList _ _ _ (Oper.mk _ (Op.load 43 _) _ _ _ _ :: _) _ _; refine wpList_ld rfl rfl rfl (run_ldC (by with_reducible assumption)) ?_; (try simp only [Act.put, List.setIfInBounds_toArray, List.set_cons_zero, List.set_cons_succ, World.size_alloc])) | (with_reducible show wpList _ _ _ (Oper.mk _ (Op.load 45 _) _ _ _ _ :: _) _ _; refine wpList_ld rfl rfl rfl (run_ldK (by with_reducible assumption)) ?_; (try simp only [Act.put, List.setIfInBounds_toArray, List.set_cons_zero, List.set_cons_succ, World.size_alloc])))
      refine (HRR _).mono ?_
      rintro e' w10 ⟨rfl, b10_⟩
      have B10 := B9.trans (b10_.mono B9.size)
      replace CA := CA.below b10_ CA.lt
      replace KY := KY.below b10_ KY.lt
      replace TX := TX.below b10_ TX.lt
      replace TF := TF.below b10_ TF.lt
      replace TG := TG.below b10_ TG.lt
      clear B9 b10_
      go_wp2
      go_ret
      exact ⟨rfl, B10⟩
    · have hk1 : kyX y = 0 := by unfold kyX; rw [hK]; rfl
      have HKA := fun w => key_all y w
      obtain ⟨r1, r2, r3⟩ := ke_reads hK
      have hyb := ke_body y
      rw [hk1] at HKA
      clear hk1 hK
      generalize hY : keX y = Y at *
      clear hY
      go_wp2_with (first | (with_reducible show wpList _ _ _ (Oper.mk _ (Op.load 36 _) _ _ _ _ :: _) _ _; refine wpList_ld rfl rfl rfl (run_ldI (by with_reducible assumption)) ?_; (try simp only [Act.put, List.setIfInBounds_toArray, List.set_cons_zero, List.set_cons_succ, World.size_alloc])) | (with_reducible show wpList _ _ _ (Oper.mk _ (Op.load 43 _) _ _ _ _ :: _) _ _; refine wpList_ld rfl rfl rfl (run_ldC (by with_reducible assumption)) ?_; (try simp only [Act.put, List.setIfInBounds_toArray, List.set_cons_zero, List.set_cons_succ, World.size_alloc])) | (with_reducible show wpList _ _ _ (Oper.mk _ (Op.load 45 _) _ _ _ _ :: _) _ _; refine wpList_ld rfl rfl rfl (run_ldK (by with_reducible assumption)) ?_; (try simp only [Act.put, List.setIfInBounds_toArray, List.set_cons_zero, List.set_cons_succ, World.size_alloc])))
      refine (HKA _).mono ?_
      rintro e' w7 ⟨ay, ny, cy, rfl, IY, _, qy, b7_⟩
      have B7 := B6.trans (b7_.mono B6.size)
      replace CA := CA.below b7_ CA.lt
      replace KY := KY.below b7_ KY.lt
      replace TX := TX.below b7_ TX.lt
      replace TF := TF.below b7_ TF.lt
      replace TG := TG.below b7_ TG.lt
      clear B6 b7_
      have iyl := IY.1
      have HRK := fun w1 (d : Below w7.heap.size w7 w1) (q : ny ≤ cy) => rk_calls Y ay ny cy w1 (IY.below d (Nat.le_refl _)) d.size q
      have HRT := fun w1 (d : Below w7.heap.size w7 w1) (q : ny ≤ cy) => rt_calls Y ay ny cy w1 (IY.below d (Nat.le_refl _)) d.size q
      rw [r1] at HRK
      rw [r2, r3] at HRT
      have DY := Below.refl w7.heap.size w7
      clear HKA r1 r2 r3 hyb iyl
      have A_ : Below w7.heap.size w7 (w7.alloc (.cells #[.int .u8 (Y.id.toNat : Int), .slice ay ny cy] 36)) := (Below.refl _ w7).alloc (Nat.le_refl _) _
      have TY := bk_new w7 #[.int .u8 (Y.id.toNat : Int), .slice ay ny cy] 36
      have AB7 := B7.trans (A_.mono B7.size)
      replace CA := CA.below A_ CA.lt
      replace KY := KY.below A_ KY.lt
      replace TX := TX.below A_ TX.lt
      replace TF := TF.below A_ TF.lt
      replace TG := TG.below A_ TG.lt
      replace DY := DY.trans (A_.mono DY.size)
      clear B7 A_
      go_wp2_with (first | (with_reducible show wpList _ _ _ (Oper.mk _ (Op.load 36 _) _ _ _ _ :: _) _ _; refine wpList_ld rfl rfl rfl (run_ldI (by with_reducible assumption)) ?_; (try simp only [Act.put, List.setIfInBounds_toArray, List.set_cons_zero, List.set_cons_succ, World.size_alloc])) | (with_reducible show wpList _ _ _ (Oper.mk _ (Op.load 43 _) _ _ _ _ :: _) _ _; refine wpList_ld rfl rfl rfl (run_ldC (by with_reducible assumption)) ?_; (try simp only [Act.put, List.setIfInBounds_toArray, List.set_cons_zero, List.set_cons_succ, World.size_alloc])) | (with_reducible show wpList _ _ _ (Oper.mk _ (Op.load 45 _) _ _ _ _ :: _) _ _; refine wpList_ld rfl rfl rfl (run_ldK (by with_reducible assumption)) ?_; (try simp only [Act.put, List.setIfInBounds_toArray, List.set_cons_zero, List.set_cons_succ, World.size_alloc])))
      refine (HRK _ DY qy).mono ?_
      rintro e' w8 ⟨rfl, b8_⟩
      have B8 := AB7.trans (b8_.mono AB7.size)
      replace CA := CA.below b8_ CA.lt
      replace KY := KY.below b8_ KY.lt
      replace TX := TX.below b8_ TX.lt
      replace TF := TF.below b8_ TF.lt
      replace TG := TG.below b8_ TG.lt
      replace TY := TY.below b8_ TY.lt
      replace DY := DY.trans (b8_.mono DY.size)
      clear AB7 b8_
      have A_ : Below w8.heap.size w8 (w8.alloc (.cells (kC y) 45)) := (Below.refl _ w8).alloc (Nat.le_refl _) _
      have TK := bk_new w8 (kC y) 45
      have AB8 := B8.trans (A_.mono B8.size)
      replace CA := CA.below A_ CA.lt
      replace KY := KY.below A_ KY.lt
      replace TX := TX.below A_ TX.lt
      replace TF := TF.below A_ TF.lt
      replace TG := TG.below A_ TG.lt
      replace TY := TY.below A_ TY.lt
      replace DY := DY.trans (A_.mono DY.size)
      clear B8 A_
      go_wp2_with (first | (with_reducible show wpList _ _ _ (Oper.mk _ (Op.load 36 _) _ _ _ _ :: _) _ _; refine wpList_ld rfl rfl rfl (run_ldI (by with_reducible assumption)) ?_; (try simp only [Act.put, List.setIfInBounds_toArray, List.set_cons_zero, List.set_cons_succ, World.size_alloc])) | (with_reducible show wpList _ _ _ (Oper.mk _ (Op.load 43 _) _ _ _ _ :: _) _ _; refine wpList_ld rfl rfl rfl (run_ldC (by with_reducible assumption)) ?_; (try simp only [Act.put, List.setIfInBounds_toArray, List.set_cons_zero, List.set_cons_succ, World.size_alloc])) | (with_reducible show wpList _ _ _ (Oper.mk _ (Op.load 45 _) _ _ _ _ :: _) _ _; refine wpList_ld rfl rfl rfl (run_ldK (by with_reducible assumption)) ?_; (try simp only [Act.put, List.setIfInBounds_toArray, List.set_cons_zero, List.set_cons_succ, World.size_alloc])))
      refine (HRT _ DY qy).mono ?_
      rintro e' w9 ⟨rfl, b9_⟩
      have B9 := AB8.trans (b9_.mono AB8.size)
      replace CA := CA.below b9_ CA.lt
      replace KY := KY.below b9_ KY.lt
      replace TX := TX.below b9_ TX.lt
      replace TF := TF.below b9_ TF.lt
      replace TG := TG.below b9_ TG.lt
      replace TY := TY.below b9_ TY.lt
      replace TK := TK.below b9_ TK.lt
      replace DY := DY.trans (b9_.mono DY.size)
      clear AB8 b9_
      have A_ : Below w9.heap.size w9 (w9.alloc (.cells (cC 0 0 0 0 0 0) 43)) := (Below.refl _ w9).alloc (Nat.le_refl _) _
      have TC := bk_new w9 (cC 0 0 0 0 0 0) 43
      have AB9 := B9.trans (A_.mono B9.size)
      replace CA := CA.below A_ CA.lt
      replace KY := KY.below A_ KY.lt
      replace TX := TX.below A_ TX.lt
      replace TF := TF.below A_ TF.lt
      replace TG := TG.below A_ TG.lt
      replace TY := TY.below A_ TY.lt
      replace TK := TK.below A_ TK.lt
      replace DY := DY.trans (A_.mono DY.size)
      clear B9 A_
      clear HRK HRT
      clear DY
      go_wp2_with (first | (with_reducible show wpList _ _ _ (Oper.mk _ (Op.load 36 _) _ _ _ _ :: _) _ _; refine wpList_ld rfl rfl rfl (run_ldI (by with_reducible assumption)) ?_; (try simp only [Act.put, List.setIfInBounds_toArray, List.set_cons_zero, List.set_cons_succ, World.size_alloc])) | (with_reducible show wpList _ _ _ (Oper.mk _ (Op.load 43 _) _ _ _ _ :: _) _ _; refine wpList_ld rfl rfl rfl (run_ldC (by with_reducible assumption)) ?_; (try simp only [Act.put, List.setIfInBounds_toArray, List.set_cons_zero, List.set_cons_succ, World.size_alloc])) | (with_reducible show wpList _ _ _ (Oper.mk _ (Op.load 45 _) _ _ _ _ :: _) _ _; refine wpList_ld rfl rfl rfl (run_ldK (by with_reducible assumption)) ?_; (try simp only [Act.put, List.setIfInBounds_toArray, List.set_cons_zero, List.set_cons_succ, World.size_alloc])))
      refine (HCA _).mono ?_
      rintro e' w10 ⟨⟨az, lz, cz, rfl, oz⟩, b10_⟩
      have B10 := AB9.trans (b10_.mono AB9.size)
      replace CA := CA.below b10_ CA.lt
      replace KY := KY.below b10_ KY.lt
      replace TX := TX.below b10_ TX.lt
      replace TF := TF.below b10_ TF.lt
      replace TG := TG.below b10_ TG.lt
      replace TY := TY.below b10_ TY.lt
      replace TK := TK.below b10_ TK.lt
      replace TC := TC.below b10_ TC.lt
      clear AB9 b10_
      have hlz : lz = 2 := oz.1
      have HRC := fun w1 (d : Below w10.heap.size w10 w1) => rc_calls (causeE (m % 128)) az lz cz w1 ((oz.isB.1).below d (Nat.le_refl _)) d.size
      rw [ca_reads (by omega)] at HRC
      clear hlz oz
      have DZ := Below.refl w10.heap.size w10
      have A_ : Below w10.heap.size w10 (w10.alloc (.cells #[.int .u8 ((causeE (m % 128)).id.toNat : Int), .slice az lz cz] 36)) := (Below.refl _ w10).alloc (Nat.le_refl _) _
      have TZ := bk_new w10 #[.int .u8 ((causeE (m % 128)).id.toNat : Int), .slice az lz cz] 36
      have AB10 := B10.trans (A_.mono B10.size)
      replace CA := CA.below A_ CA.lt
      replace KY := KY.below A_ KY.lt
      replace TX := TX.below A_ TX.lt
      replace TF := TF.below A_ TF.lt
      replace TG := TG.below A_ TG.lt
      replace TY := TY.below A_ TY.lt
      replace TK := TK.below A_ TK.lt
      replace TC := TC.below A_ TC.lt
      replace DZ := DZ.trans (A_.mono DZ.size)
      clear B10 A_
      go_wp2_with (first | (with_reducible show wpList _ _ _ (Oper.mk _ (Op.load 36 _) _ _ _ _ :: _) _ _; refine wpList_ld rfl rfl rfl (run_ldI (by with_reducible assumption)) ?_; (try simp only [Act.put, List.setIfInBounds_toArray, List.set_cons_zero, List.set_cons_succ, World.size_alloc])) | (with_reducible show wpList _ _ _ (Oper.mk _ (Op.load 43 _) _ _ _ _ :: _) _ _; refine wpList_ld rfl rfl rfl (run_ldC (by with_reducible assumption)) ?_; (try simp only [Act.put, List.setIfInBounds_toArray, List.set_cons_zero, List.set_cons_succ, World.size_alloc])) | (with_reducible show wpList _ _ _ (Oper.mk _ (Op.load 45 _) _ _ _ _ :: _) _ _; refine wpList_ld rfl rfl rfl (run_ldK (by with_reducible assumption)) ?_; (try simp only [Act.put, List.setIfInBounds_toArray, List.set_cons_zero, List.set_cons_succ, World.size_alloc])))
      refine (HRC _ DZ).mono ?_
      rintro e' w11 ⟨rfl, b11_⟩
      have B11 := AB10.trans (b11_.mono AB10.size)
      replace CA := CA.below b11_ CA.lt
      replace KY := KY.below b11_ KY.lt
      replace TX := TX.below b11_ TX.lt
      replace TF := TF.below b11_ TF.lt
      replace TG := TG.below b11_ TG.lt
      replace TY := TY.below b11_ TY.lt
      replace TK := TK.below b11_ TK.lt
      replace TC := TC.below b11_ TC.lt
      replace TZ := TZ.below b11_ TZ.lt
      replace DZ := DZ.trans (b11_.mono DZ.size)
      clear AB10 b11_
      clear HRC
      clear DZ
      clear TZ
      clear TY
      clear TK
      clear TC
      go_wp2_with (first | (with_reducible show wpList _ _ _ (Oper.mk _ (Op.load 36 _) _ _ _ _ :: _) _ _; refine wpList_ld rfl rfl rfl (run_ldI (by with_reducible assumption)) ?_; (try simp only [Act.put, List.setIfInBounds_toArray, List.set_cons_zero, List.set_cons_succ, World.size_alloc])) | (with_reducible show wpList _ _ _ (Oper.mk _ (Op.load 43 _) _ _ _ _ :: _) _ _; refine wpList_ld rfl rfl rfl (run_ldC (by with_reducible assumption)) ?_; (try simp only [Act.put, List.setIfInBounds_toArray, List.set_cons_zero, List.set_cons_succ, World.size_alloc])) | (with_reducible show wpList _ _ _ (Oper.mk _ (Op.load 45 _) _ _ _ _ :: _) _ _; refine wpList_ld rfl rfl rfl (run_ldK (by with_reducible assumption)) ?_; (try simp only [Act.put, List.setIfInBounds_toArray, List.set_cons_zero, List.set_cons_succ, World.size_alloc])))
      refine (HRR _).mono ?_
      rintro e' w12 ⟨rfl, b12_⟩
      have B12 := B11.trans (b12_.mono B11.size)
      replace CA := CA.below b12_ CA.lt
      replace KY := KY.below b12_ KY.lt
      replace TX := TX.below b12_ TX.lt
      replace TF := TF.below b12_ TF.lt
      replace TG := TG.below b12_ TG.lt
      clear B11 b12_
      go_wp2
      go_ret
      exact ⟨rfl, B12⟩
  · have hno : (trX k p e v b l).body = [] := by unfold trX; rw [if_neg hE]; rfl
    generalize hEE : errN k p e v b l = EE at *
    have qE : (EE == 0) = false := beq_eq_false_iff_ne.2 hE
    clear hE hEE
    generalize hX : trX k p e v b l = X at *
    clear hX
    go_wp2_with (first | (with_reducible show wpList _ _ _ (Oper.mk _ (Op.load 36 _) _ _ _ _ :: _) _ _; refine wpList_ld rfl rfl rfl (run_ldI (by with_reducible assumption)) ?_; (try simp only [Act.put, List.setIfInBounds_toArray, List.set_cons_zero, List.set_cons_succ, World.size_alloc])) | (with_reducible show wpList _ _ _ (Oper.mk _ (Op.load 43 _) _ _ _ _ :: _) _ _; refine wpList_ld rfl rfl rfl (run_ldC (by with_reducible assumption)) ?_; (try simp only [Act.put, List.setIfInBounds_toArray, List.set_cons_zero, List.set_cons_succ, World.size_alloc])) | (with_reducible show wpList _ _ _ (Oper.mk _ (Op.load 45 _) _ _ _ _ :: _) _ _; refine wpList_ld rfl rfl rfl (run_ldK (by with_reducible assumption)) ?_; (try simp only [Act.put, List.setIfInBounds_toArray, List.set_cons_zero, List.set_cons_succ, World.size_alloc])))
    refine (HTA _).mono ?_
    rintro e' w3 ⟨ax, nx, cx, rfl, IX, _, qx, b3_⟩
    have B3 := B2.trans (b3_.mono B2.size)
    replace CA := CA.below b3_ CA.lt
    replace KY := KY.below b3_ KY.lt
    clear B2 b3_
    obtain rfl : nx = 0 := by have := IX.1; rw [hno] at this; exact this
    clear hno htb HTA IX
    have A_ : Below w3.heap.size w3 (w3.alloc (.cells #[.int .u8 (X.id.toNat : Int), .slice ax 0 cx] 36)) := (Below.refl _ w3).alloc (Nat.le_refl _) _
    have TX := bk_new w3 #[.int .u8 (X.id.toNat : Int), .slice ax 0 cx] 36
    have AB3 := B3.trans (A_.mono B3.size)
    replace CA := CA.below A_ CA.lt
    replace KY := KY.below A_ KY.lt
    clear B3 A_
    cases hK : rightK y
    · have hk1 : kyX y = 1 := by unfold kyX; rw [hK]; rfl
      have HKA := fun w => key_all y w
      rw [hk1] at HKA
      clear hk1 hK
      generalize hY : keX y = Y at *
      clear hY
      go_wp2_with (first | (with_reducible show wpList _ _ _ (Oper.mk _ (Op.load 36 _) _ _ _ _ :: _) _ _; refine wpList_ld rfl rfl rfl (run_ldI (by with_reducible assumption)) ?_; (try simp only [Act.put, List.setIfInBounds_toArray, List.set_cons_zero, List.set_cons_succ, World.size_alloc])) | (with_reducible show wpList _ _ _ (Oper.mk _ (Op.load 43 _) _ _ _ _ :: _) _ _; refine wpList_ld rfl rfl rfl (run_ldC (by with_reducible assumption)) ?_; (try simp only [Act.put, List.setIfInBounds_toArray, List.set_cons_zero, List.set_cons_succ, World.size_alloc])) | (with_reducible show wpList _ _ _ (Oper.mk _ (Op.load 45 _) _ _ _ _ :: _) _ _; refine wpList_ld rfl rfl rfl (run_ldK (by with_reducible assumption)) ?_; (try simp only [Act.put, List.setIfInBounds_toArray, List.set_cons_zero, List.set_cons_succ, World.size_alloc])))
      refine (HKA _).mono ?_
      rintro e' w4 ⟨ay, ny, cy, rfl, IY, _, qy, b4_⟩
      have B4 := AB3.trans (b4_.mono AB3.size)
      replace CA := CA.below b4_ CA.lt
      replace KY := KY.below b4_ KY.lt
      replace TX := TX.below b4_ TX.lt
      clear AB3 b4_
      have iyl := IY.1
      clear HKA iyl
      have A_ : Below w4.heap.size w4 (w4.alloc (.cells #[.int .u8 (Y.id.toNat : Int), .slice ay ny cy] 36)) := (Below.refl _ w4).alloc (Nat.le_refl _) _
      have TY := bk_new w4 #[.int .u8 (Y.id.toNat : Int), .slice ay ny cy] 36
      have AB4 := B4.trans (A_.mono B4.size)
      replace CA := CA.below A_ CA.lt
      replace KY := KY.below A_ KY.lt
      replace TX := TX.below A_ TX.lt
      clear B4 A_
      go_wp2_with (first | (with_reducible show wpList _ _ _ (Oper.mk _ (Op.load 36 _) _ _ _ _ :: _) _ _; refine wpList_ld rfl rfl rfl (run_ldI (by with_reducible assumption)) ?_; (try simp only [Act.put, List.setIfInBounds_toArray, List.set_cons_zero, List.set_cons_succ, World.size_alloc])) | (with_reducible show wpList _ _ _ (Oper.mk _ (Op.load 43 _) _ _ _ _ :: _) _ _; refine wpList_ld rfl rfl rfl (run_ldC (by with_reducible assumption)) ?_; (try simp only [Act.put, List.setIfInBounds_toArray, List.set_cons_zero, List.set_cons_succ, World.size_alloc])) | (with_reducible show wpList _ _ _ (Oper.mk _ (Op.load 45 _) _ _ _ _ :: _) _ _; refine wpList_ld rfl rfl rfl (run_ldK (by with_reducible assumption)) ?_; (try simp only [Act.put, List.setIfInBounds_toArray, List.set_cons_zero, List.set_cons_succ, World.size_alloc])))
      refine (HCA _).mono ?_
      rintro e' w5 ⟨⟨az, lz, cz, rfl, oz⟩, b5_⟩
      have B5 := AB4.trans (b5_.mono AB4.size)
      replace CA := CA.below b5_ CA.lt
      replace KY := KY.below b5_ KY.lt
      replace TX := TX.below b5_ TX.lt
      replace TY := TY.below b5_ TY.lt
      clear AB4 b5_
      have hlz : lz = 2 := oz.1
      have HRC := fun w1 (d : Below w5.heap.size w5 w1) => rc_calls (causeE (m % 128)) az lz cz w1 ((oz.isB.1).below d (Nat.le_refl _)) d.size
      rw [ca_reads (by omega)] at HRC
      clear hlz oz
      have DZ := Below.refl w5.heap.size w5
      have A_ : Below w5.heap.size w5 (w5.alloc (.cells #[.int .u8 ((causeE (m % 128)).id.toNat : Int), .slice az lz cz] 36)) := (Below.refl _ w5).alloc (Nat.le_refl _) _
      have TZ := bk_new w5 #[.int .u8 ((causeE (m % 128)).id.toNat : Int), .slice az lz cz] 36
      have AB5 := B5.trans (A_.mono B5.size)
      replace CA := CA.below A_ CA.lt
      replace KY := KY.below A_ KY.lt
      replace TX := TX.below A_ TX.lt
      replace TY := TY.below A_ TY.lt
      replace DZ := DZ.trans (A_.mono DZ.size)
      clear B5 A_
      go_wp2_with (first | (with_reducible show wpList _ _ _ (Oper.mk _ (Op.load 36 _) _ _ _ _ :: _) _ _; refine wpList_ld rfl rfl rfl (run_ldI (by with_reducible assumption)) ?_; (try simp only [Act.put, List.setIfInBounds_toArray, List.set_cons_zero, List.set_cons_succ, World.size_alloc])) | (with_reducible show wpList _ _ _ (Oper.mk _ (Op.load 43 _) _ _ _ _ :: _) _ _; refine wpList_ld rfl rfl rfl (run_ldC (by with_reducible assumption)) ?_; (try simp only [Act.put, List.setIfInBounds_toArray, List.set_cons_zero, List.set_cons_succ, World.size_alloc])) | (with_reducible show wpList _ _ _ (Oper.mk _ (Op.load 45 _) _ _ _ _ :: _) _ _; refine wpList_ld rfl rfl rfl (run_ldK (by with_reducible assumption)) ?_; (try simp only [Act.put, List.setIfInBounds_toArray, List.set_cons_zero, List.set_cons_succ, World.size_alloc])))
      refine (HRC _ DZ).mono ?_
      rintro e' w6 ⟨rfl, b6_⟩
      have B6 := AB5.trans (b6_.mono AB5.size)
      replace CA := CA.below b6_ CA.lt
      replace KY := KY.below b6_ KY.lt
      replace TX := TX.below b6_ TX.lt
      replace TY := TY.below b6_ TY.lt
      replace TZ := TZ.below b6_ TZ.lt
      replace DZ := DZ.trans (b6_.mono DZ.size)
      clear AB5 b6_
      clear HRC
      clear DZ
      clear TZ
      clear TY
      go_wp2_with (first | (with_reducible show wpList _ _ _ (Oper.mk _ (Op.load 36 _) _ _ _ _ :: _) _ _; refine wpList_ld rfl rfl rfl (run_ldI (by with_reducible assumption)) ?_; (try simp only [Act.put, List.setIfInBounds_toArray, List.set_cons_zero, List.set_cons_succ, World.size_alloc])) | (with_reducible show wpList _ _ _ (Oper.mk _ (Op.load 43 _) _ _ _ _ :: _) _ _; refine wpList_ld rfl rfl rfl (run_ldC (by with_reducible assumption)) ?_; (try simp only [Act.put, List.setIfInBounds_toArray, List.set_cons_zero, List.set_cons_succ, World.size_alloc])) | (with_reducible show wpList _ _ _ (Oper.mk _ (Op.load 45 _) _ _ _ _ :: _) _ _; refine wpList_ld rfl rfl rfl (run_ldK (by with_reducible assumption)) ?_; (try simp only [Act.put, List.setIfInBounds_toArray, List.set_cons_zero, List.set_cons_succ, World.size_alloc])))
      refine (HRR _).mono ?_
      rintro e' w7 ⟨rfl, b7_⟩
      have B7 := B6.trans (b7_.mono B6.size)
      replace CA := CA.below b7_ CA.lt
      replace KY := KY.below b7_ KY.lt
      replace TX := TX.below b7_ TX.lt
      clear B6 b7_
      have u1 := TX.cell 1 _ rfl
      have ul := TX.lt
      go_wp2
      go_ret
      exact ⟨rfl, B7⟩
    · have hk1 : kyX y = 0 := by unfold kyX; rw [hK]; rfl
      have HKA := fun w => key_all y w
      obtain ⟨r1, r2, r3⟩ := ke_reads hK
      have hyb := ke_body y
      rw [hk1] at HKA
      clear hk1 hK
      generalize hY : keX y = Y at *
      clear hY
      go_wp2_with (first | (with_reducible show wpList _ _ _ (Oper.mk _ (Op.load 36 _) _ _ _ _ :: _) _ _; refine wpList_ld rfl rfl rfl (run_ldI (by with_reducible assumption)) ?_; (try simp only [Act.put, List.setIfInBounds_toArray, List.set_cons_zero, List.set_cons_succ, World.size_alloc])) | (with_reducible show wpList _ _ _ (Oper.mk _ (Op.load 43 _) _ _ _ _ :: _) _ _; refine wpList_ld rfl rfl rfl (run_ldC (by with_reducible assumption)) ?_; (try simp only [Act.put, List.setIfInBounds_toArray, List.set_cons_zero, List.set_cons_succ, World.size_alloc])) | (with_reducible show wpList _ _ _ (Oper.mk _ (Op.load 45 _) _ _ _ _ :: _) _ _; refine wpList_ld rfl rfl rfl (run_ldK (by with_reducible assumption)) ?_; (try simp only [Act.put, List.setIfInBounds_toArray, List.set_cons_zero, List.set_cons_succ, World.size_alloc])))
      refine (HKA _).mono ?_
      rintro e' w4 ⟨ay, ny, cy, rfl, IY, _, qy, b4_⟩
      have B4 := AB3.trans (b4_.mono AB3.size)
      replace CA := CA.below b4_ CA.lt
      replace KY := KY.below b4_ KY.lt
      replace TX := TX.below b4_ TX.lt
      clear AB3 b4_
      have iyl := IY.1
      have HRK := fun w1 (d : Below w4.heap.size w4 w1) (q : ny ≤ cy) => rk_calls Y ay ny cy w1 (IY.below d (Nat.le_refl _)) d.size q
      have HRT := fun w1 (d : Below w4.heap.size w4 w1) (q : ny ≤ cy) => rt_calls Y ay ny cy w1 (IY.below d (Nat.le_refl _)) d.size q
      rw [r1] at HRK
      rw [r2, r3] at HRT
      have DY := Below.refl w4.heap.size w4
      clear HKA r1 r2 r3 hyb iyl
      have A_ : Below w4.heap.size w4 (w4.alloc (.cells #[.int .u8 (Y.id.toNat : Int), .slice ay ny cy] 36)) := (Below.refl _ w4).alloc (Nat.le_refl _) _
      have TY := bk_new w4 #[.int .u8 (Y.id.toNat : Int), .slice ay ny cy] 36
      have AB4 := B4.trans (A_.mono B4.size)
      replace CA := CA.below A_ CA.lt
      replace KY := KY.below A_ KY.lt
      replace TX := TX.below A_ TX.lt
      replace DY := DY.trans (A_.mono DY.size)
      clear B4 A_
      go_wp2_with (first | (with_reducible show wpList _ _ _ (Oper.mk _ (Op.load 36 _) _ _ _ _ :: _) _ _; refine wpList_ld rfl rfl rfl (run_ldI (by with_reducible assumption)) ?_; (try simp only [Act.put, List.setIfInBounds_toArray, List.set_cons_zero, List.set_cons_succ, World.size_alloc])) | (with_reducible show wpList _ _ _ (Oper.mk _ (Op.load 43 _) _ _ _ _ :: _) _ _; refine wpList_ld rfl rfl rfl (run_ldC (by with_reducible assumption)) ?_; (try simp only [Act.put, List.setIfInBounds_toArray, List.set_cons_zero, List.set_cons_succ, World.size_alloc])) | (with_reducible show wpList _ _ _ (Oper.mk _ (Op.load 45 _) _ _ _ _ :: _) _ _; refine wpList_ld rfl rfl rfl (run_ldK (by with_reducible assumption)) ?_; (try simp only [Act.put, List.setIfInBounds_toArray, List.set_cons_zero, List.set_cons_succ, World.size_alloc])))
      refine (HRK _ DY qy).mono ?_
      rintro e' w5 ⟨rfl, b5_⟩
      have B5 := AB4.trans (b5_.mono AB4.size)
      replace CA := CA.below b5_ CA.lt
      replace KY := KY.below b5_ KY.lt
      replace TX := TX.below b5_ TX.lt
      replace TY := TY.below b5_ TY.lt
      replace DY := DY.trans (b5_.mono DY.size)
      clear AB4 b5_
      have A_ : Below w5.heap.size w5 (w5.alloc (.cells (kC y) 45)) := (Below.refl _ w5).alloc (Nat.le_refl _) _
      have TK := bk_new w5 (kC y) 45
      have AB5 := B5.trans (A_.mono B5.size)
      replace CA := CA.below A_ CA.lt
      replace KY := KY.below A_ KY.lt
      replace TX := TX.below A_ TX.lt
      replace TY := TY.below A_ TY.lt
      replace DY := DY.trans (A_.mono DY.size)
      clear B5 A_
      go_wp2_with (first | (with_reducible show wpList _ _ _ (Oper.mk _ (Op.load 36 _) _ _ _ _ :: _) _ _; refine wpList_ld rfl rfl rfl (run_ldI (by with_reducible assumption)) ?_; (try simp only [Act.put, List.setIfInBounds_toArray, List.set_cons_zero, List.set_cons_succ, World.size_alloc])) | (with_reducible show wpList _ _ _ (Oper.mk _ (Op.load 43 _) _ _ _ _ :: _) _ _; refine wpList_ld rfl rfl rfl (run_ldC (by with_reducible assumption)) ?_; (try simp only [Act.put, List.setIfInBounds_toArray, List.set_cons_zero, List.set_cons_succ, World.size_alloc])) | (with_reducible show wpList _ _ _ (Oper.mk _ (Op.load 45 _) _ _ _ _ :: _) _ _; refine wpList_ld rfl rfl rfl (run_ldK (by with_reducible assumption)) ?_; (try simp only [Act.put, List.setIfInBounds_toArray, List.set_cons_zero, List.set_cons_succ, World.size_alloc])))
      refine (HRT _ DY qy).mono ?_
      rintro e' w6 ⟨rfl, b6_⟩
      have B6 := AB5.trans (b6_.mono AB5.size)
      replace CA := CA.below b6_ CA.lt
      replace KY := KY.below b6_ KY.lt
      replace TX := TX.below b6_ TX.lt
      replace TY := TY.below b6_ TY.lt
      replace TK := TK.below b6_ TK.lt
      replace DY := DY.trans (b6_.mono DY.size)
      clear AB5 b6_
      have A_ : Below w6.heap.size w6 (w6.alloc (.cells (cC 0 0 0 0 0 0) 43)) := (Below.refl _ w6).alloc (Nat.le_refl _) _
      have TC := bk_new w6 (cC 0 0 0 0 0 0) 43
      have AB6 := B6.trans (A_.mono B6.size)
      replace CA := CA.below A_ CA.lt
      replace KY := KY.below A_ KY.lt
      replace TX := TX.below A_ TX.lt
      replace TY := TY.below A_ TY.lt
      replace TK := TK.below A_ TK.lt
      replace DY := DY.trans (A_.mono DY.size)
      clear B6 A_
      clear HRK HRT
      clear DY
      go_wp2_with (first | (with_reducible show wpList _ _ _ (Oper.mk _ (Op.load 36 _) _ _ _ _ :: _) _ _; refine wpList_ld rfl rfl rfl (run_ldI (by with_reducible assumption)) ?_; (try simp only [Act.put, List.setIfInBounds_toArray, List.set_cons_zero, List.set_cons_succ, World.size_alloc])) | (with_reducible show wpList _ _ _ (Oper.mk _ (Op.load 43 _) _ _ _ _ :: _) _ _; refine wpList_ld rfl rfl rfl (run_ldC (by with_reducible assumption)) ?_; (try simp only [Act.put, List.setIfInBounds_toArray, List.set_cons_zero, List.set_cons_succ, World.size_alloc])) | (with_reducible show wpList _ _ _ (Oper.mk _ (Op.load 45 _) _ _ _ _ :: _) _ _; refine wpList_ld rfl rfl rfl (run_ldK (by with_reducible assumption)) ?_; (try simp only [Act.put, List.setIfInBounds_toArray, List.set_cons_zero, List.set_cons_succ, World.size_alloc])))
      refine (HCA _).mono ?_
      rintro e' w7 ⟨⟨az, lz, cz, rfl, oz⟩, b7_⟩
      have B7 := AB6.trans (b7_.mono AB6.size)
      replace CA := CA.below b7_ CA.lt
      replace KY := KY.below b7_ KY.lt
      replace TX := TX.below b7_ TX.lt
      replace TY := TY.below b7_ TY.lt
      replace TK := TK.below b7_ TK.lt
      replace TC := TC.below b7_ TC.lt
      clear AB6 b7_
      have hlz : lz = 2 := oz.1
      have HRC := fun w1 (d : Below w7.heap.size w7 w1) => rc_calls (causeE (m % 128)) az lz cz w1 ((oz.isB.1).below d (Nat.le_refl _)) d.size
      rw [ca_reads (by omega)] at HRC
      clear hlz oz
      have DZ := Below.refl w7.heap.size w7
      have A_ : Below w7.heap.size w7 (w7.alloc (.cells #[.int .u8 ((causeE (m % 128)).id.toNat : Int), .slice az lz cz] 36)) := (Below.refl _ w7).alloc (Nat.le_refl _) _
      have TZ := bk_new w7 #[.int .u8 ((causeE (m % 128)).id.toNat : Int), .slice az lz cz] 36
      have AB7 := B7.trans (A_.mono B7.size)
      replace CA := CA.below A_ CA.lt
      replace KY := KY.below A_ KY.lt
      replace TX := TX.below A_ TX.lt
      replace TY := TY.below A_ TY.lt
      replace TK := TK.below A_ TK.lt
      replace TC := TC.below A_ TC.lt
      replace DZ := DZ.trans (A_.mono DZ.size)
      clear B7 A_
      go_wp2_with (first | (with_reducible show wpList _ _ _ (Oper.mk _ (Op.load 36 _) _ _ _ _ :: _) _ _; refine wpList_ld rfl rfl rfl (run_ldI (by with_reducible assumption)) ?_; (try simp only [Act.put, List.setIfInBounds_toArray, List.set_cons_zero, List.set_cons_succ, World.size_alloc])) | (with_reducible show wpList _ _ _ (Oper.mk _ (Op.load 43 _) _ _ _ _ :: _) _ _; refine wpList_ld rfl rfl rfl (run_ldC (by with_reducible assumption)) ?_; (try simp only [Act.put, List.setIfInBounds_toArray, List.set_cons_zero, List.set_cons_succ, World.size_alloc])) | (with_reducible show wpList _ _ _ (Oper.mk _ (Op.load 45 _) _ _ _ _ :: _) _ _; refine wpList_ld rfl rfl rfl (run_ldK (by with_reducible assumption)) ?_; (try simp only [Act.put, List.setIfInBounds_toArray, List.set_cons_zero, List.set_cons_succ, World.size_alloc])))
      refine (HRC _ DZ).mono ?_
      rintro e' w8 ⟨rfl, b8_⟩
      have B8 := AB7.trans (b8_.mono AB7.size)
      replace CA := CA.below b8_ CA.lt
      replace KY := KY.below b8_ KY.lt
      replace TX := TX.below b8_ TX.lt
      replace TY := TY.below b8_ TY.lt
      replace TK := TK.below b8_ TK.lt
      replace TC := TC.below b8_ TC.lt
      replace TZ := TZ.below b8_ TZ.lt
      replace DZ := DZ.trans (b8_.mono DZ.size)
      clear AB7 b8_
      clear HRC
      clear DZ
      clear TZ
      clear TY
      clear TK
      clear TC
      go_wp2_with (first | (with_reducible show wpList _ _ _ (Oper.mk _ (Op.load 36 _) _ _ _ _ :: _) _ _; refine wpList_ld rfl rfl rfl (run_ldI (by with_reducible assumption)) ?_; (try simp only [Act.put, List.setIfInBounds_toArray, List.set_cons_zero, List.set_cons_succ, World.size_alloc])) | (with_reducible show wpList _ _ _ (Oper.mk _ (Op.load 43 _) _ _ _ _ :: _) _ _; refine wpList_ld rfl rfl rfl (run_ldC (by with_reducible assumption)) ?_; (try simp only [Act.put, List.setIfInBounds_toArray, List.set_cons_zero, List.set_cons_succ, World.size_alloc])) | (with_reducible show wpList _ _ _ (Oper.mk _ (Op.load 45 _) _ _ _ _ :: _) _ _; refine wpList_ld rfl rfl rfl (run_ldK (by with_reducible assumption)) ?_; (try simp only [Act.put, List.setIfInBounds_toArray, List.set_cons_zero, List.set_cons_succ, World.size_alloc])))
      refine (HRR _).mono ?_
      rintro e' w9 ⟨rfl, b9_⟩
      have B9 := B8.trans (b9_.mono B8.size)
      replace CA := CA.below b9_ CA.lt
      replace KY := KY.below b9_ KY.lt
      replace TX := TX.below b9_ TX.lt
      clear B8 b9_
      have u1 := TX.cell 1 _ rfl
      have ul := TX.lt
      go_wp2
      go_ret
      exact ⟨rfl, B9⟩
end Go.Proofs.Ytbjkioekmekeaaa
