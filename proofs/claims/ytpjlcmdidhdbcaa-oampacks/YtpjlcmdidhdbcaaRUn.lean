/- Proved here: what the document's Unpack of maintenance cells answers. Conditions: as each theorem states them. -/
import Derived.Test.YtpjlcmdidhdbcaaRPa
import Derived.Test.YtpjlcmdidhdbcaaPu
namespace Go.Proofs.Ytpjlcmdidhdbcaa
set_option linter.unusedSimpArgs false
set_option linter.unusedVariables false
open Go.RowKit

theorem pl_get {p : List UInt8} {i j : Nat} {x : UInt8} (h : (plN p i)[j]? = some x) : p[i + j]? = some x := by
  unfold plN at h
  rw [List.getElem?_take] at h
  split at h
  · rwa [List.getElem?_drop] at h
  · cases h
theorem BK.pl {w : World} {b : Nat} {p : List UInt8} {t : TypeId} (h : BK w b (payV p) t) (i : Nat) : ∀ j x, (plN p i)[j]? = some x → w.cell? ⟨b, i + j, none⟩ = some (.int .u8 (x.toNat : Int)) :=
  fun _ _ hx => h.payCell (pl_get hx)

/-- What is behind the kinds: packed again, and held against the payload. -/
def behind (p : List UInt8) (q : Om × Nat) : Prop := q = if payN (liftN p) ≠ p then (om0, 5) else (liftN p, 0)

theorem sum_three (y0 y1 y2 y3 : Nat) (x0 : y0 < 256) (x1 : y1 < 256) (x2 : y2 < 256) (x3 : y3 < 256) :
    ((y0 : Int) % 4294967296 * 16777216 + (y1 : Int) % 4294967296 * 65536 + (y2 : Int) % 4294967296 * 256 + (y3 : Int)) % 4294967296 = ((((y0 * 256 + y1) * 256 + y2) * 256 + y3 : Nat) : Int) := by
  rw [Int.emod_eq_of_lt (a := (y0 : Int)) (by omega) (by omega), Int.emod_eq_of_lt (a := (y1 : Int)) (by omega) (by omega), Int.emod_eq_of_lt (a := (y2 : Int)) (by omega) (by omega), Int.emod_eq_of_lt (by omega) (by omega)]
  omega
set_option maxRecDepth 100000 in
set_option maxHeartbeats 8000000 in
theorem refunpack_calls (p : List UInt8) (hl : p.length = 48) (b : Nat) (w : World) (t : TypeId) (hK : BK w b (payV p) t) : Calls Try.prog 13 #[.slice (some ⟨b, 0, none⟩) 48 48] w fun e w' => e = .returned (.tuple #[.agg (omV (unN p).1), .int .i64 ((unN p).2 : Nat)]) ∧ Below w.heap.size w w' := by
  have hb := hK.lt
  have K0 := hK.alloc (.cells (omV om0) 25)
  have R0 := bk_new w (omV om0) 25
  have A0 : Below w.heap.size w (w.alloc (.cells (omV om0) 25)) := (Below.refl _ w).alloc (Nat.le_refl _) _
  have HL : Hid (p.length = 48) := hl
  have HU : Hid (unN p = if sealN p ≠ p then (om0, 4) else if isK (kdN p) = false then (om0, 12) else if payN (liftN p) ≠ p then (om0, 5) else (liftN p, 0)) := rfl
  obtain ⟨q, hq⟩ : ∃ q, unN p = q := ⟨_, rfl⟩
  rw [hq] at HU ⊢
  have I0 : IsB (w.alloc (.cells (omV om0) 25)).heap.size (w.alloc (.cells (omV om0) 25)) (some ⟨b, 0, none⟩) 48 p := by
    have := K0.pay
    rwa [hl] at this
  have HS := refseal_calls (some ⟨b, 0, none⟩) 48 p (w.alloc (.cells (omV om0) 25)) I0 (Nat.le_refl _) (by intro h; cases h)
  clear hq hK
  go_enter Try.func13, Try.ntmps13
  go_wp2_with ((with_reducible show wpList _ _ _ (Oper.mk _ (Op.alloc 25) _ _ _ _ :: _) _ _; refine wpList_al rfl rfl zeroB ?_; (try simp only [Act.put, List.setIfInBounds_toArray, List.set_cons_zero, List.set_cons_succ, World.size_alloc])))
  refine HS.mono ?_
  rintro e w1 ⟨a1, c1, rfl, I1, b1⟩
  have K1 := K0.below b1 K0.lt
  have R1 := R0.below b1 R0.lt
  have B1 : Below w.heap.size w w1 := A0.trans (b1.mono (by simp))
  have J1 := I0.below b1 (Nat.le_refl _)
  have HM := same_calls a1 (some ⟨b, 0, none⟩) 48 c1 48 48 (sealN p) p w1 I1 J1 (Nat.le_refl _) b1.size (by decide)
  clear HS I0 I1 J1 b1 K0 R0 A0
  go_wp2_with fail
  refine HM.mono ?_
  rintro e w2 ⟨rfl, b2⟩
  have K2 := K1.below b2 K1.lt
  have R2 := R1.below b2 R1.lt
  have B2 : Below w.heap.size w w2 := B1.trans (b2.mono B1.size)
  clear HM b2 K1 R1 B1
  by_cases h1 : sealN p = p
  · rw [show (sealN p == p) = true from beq_iff_eq.2 h1]
    have HU1 : Hid (q = if isK (kdN p) = false then (om0, 12) else if payN (liftN p) ≠ p then (om0, 5) else (liftN p, 0)) := HU.out.trans (if_neg (fun h => h h1))
    clear HU h1
    have c0 := g_cell K2 hl 0 (by decide)
    have hx : ((gN p 0 : Nat) : Int) ≤ 255 := by have := gN_lt p 0; omega
    obtain ⟨kk, hkk⟩ : ∃ kk, kdN p = kk := ⟨_, rfl⟩
    have hk2 : ((gN p 0 : Nat) : Int) - 16 = kk := hkk
    rw [hkk] at HU1
    have ok1 : (⟨kk, 0, false, 0, z16, z16⟩ : Om).Ok := ⟨(by show 0 < 4294967296; decide), z16_len, z16_len⟩
    have V3 := bk_new w2 (omV ⟨kk, 0, false, 0, z16, z16⟩) 25
    have K3 := K2.alloc (.cells (omV ⟨kk, 0, false, 0, z16, z16⟩) 25)
    have R3 := R2.alloc (.cells (omV ⟨kk, 0, false, 0, z16, z16⟩) 25)
    have B3 := B2.alloc B2.size (.cells (omV ⟨kk, 0, false, 0, z16, z16⟩) 25)
    have s2 := B2.size
    have r2 := R2.lt
    have okl := lift_ok hl
    have hck : isK kk = true → canB (liftN p) = true := fun h => lift_can (by rw [hkk]; exact h)
    have HPP := fun (h : isK kk = true) (w : World) => refpack_yes (liftN p) okl (hck h) w
    obtain ⟨w3, hw3⟩ : ∃ w3, w2.alloc (.cells (omV ⟨kk, 0, false, 0, z16, z16⟩) 25) = w3 := ⟨_, rfl⟩
    rw [hw3] at V3 K3 R3 B3
    have d0 := V3.om.1
    have z3 : w3.heap.size = w2.heap.size + 1 := by rw [← hw3]; simp
    generalize gN p 0 = x at *
    by_cases h01 : kk = 0 ∨ kk = 1
    · have hK : isK kk = true := isK_iff.2 (by omega)
      have HB : Hid (q = if payN (liftN p) ≠ p then (om0, 5) else (liftN p, 0)) := HU1.out.trans (if_neg (by rw [hK]; decide))
      have HLI : Hid (liftN p = ⟨kk, p[1]?.getD 0, false, 0, plN p 2, z16⟩) := by unfold Hid liftN; rw [hkk, if_neg (by omega), if_neg (by omega)]
      have HP := HPP hK
      have cp1 := g_cell K3 hl 1 (by decide)
      have e1 : ((gN p 1 : Nat) : Int) = ((p[1]?.getD 0).toNat : Int) := rfl
      have H16 := fun (w : World) (h : BK w b (payV p) t) => sixteen_calls b 2 46 (plN p 2) (pl_len hl (by decide)) w h.lt (h.pl 2)
      have okp : (plN p 2).length = 16 := pl_len hl (by decide)
      rw [e1] at cp1
      generalize p[1]?.getD 0 = d at *
      generalize plN p 2 = pp at *
      have ok2 : (⟨kk, d, false, 0, z16, z16⟩ : Om).Ok := ⟨(by show 0 < 4294967296; decide), z16_len, z16_len⟩
      have cv := V3.cell 1 (.int .u8 0) (by simp [omV])
      have fz := V3.frozen 1
      have V4 := V3.set 1 (.int .u8 (d.toNat : Int))
      rw [omV_d] at V4
      have K4 := K3.setOther (p := ⟨w2.heap.size, 1, none⟩) (show b ≠ w2.heap.size by omega) (.int .u8 (d.toNat : Int))
      have R4 := R3.setOther (p := ⟨w2.heap.size, 1, none⟩) (show w.heap.size ≠ w2.heap.size by omega) (.int .u8 (d.toNat : Int))
      have B4 := B3.setCell (p := ⟨w2.heap.size, 1, none⟩) (show w.heap.size ≤ w2.heap.size by omega) (.int .u8 (d.toNat : Int))
      obtain ⟨w4, hw4⟩ : ∃ w4, w3.setCell ⟨w2.heap.size, 1, none⟩ (.int .u8 (d.toNat : Int)) = w4 := ⟨_, rfl⟩
      rw [hw4] at V4 K4 R4 B4
      clear HPP hkk hK hck HU1 hl e1 K2 R2 B2
      rcases h01 with rfl | rfl
      all_goals
        go_wp2_with (first | (with_reducible show wpList _ _ _ (Oper.mk _ (Op.build 25 _) _ _ _ _ :: _) _ _; refine wpList_bld (vs := [(0, .int .i64 _)]) rfl rfl rfl (run_bldKindB _ _) ?_; (try simp only [Act.put, List.setIfInBounds_toArray, List.set_cons_zero, List.set_cons_succ, World.size_alloc])) | (with_reducible show wpList _ _ _ (Oper.mk _ (Op.alloc 25) _ _ _ _ :: Oper.mk _ (Op.store 25 _ _) _ _ _ _ :: _) _ _; refine wpList_def rfl rfl rfl rfl rfl zeroB (omV_hiB (by first | assumption | exact om0_ok)) (omV_same (by first | assumption | exact om0_ok) (by first | assumption | exact om0_ok)) (omV_one _) rfl ?_; (try simp only [Act.put, List.setIfInBounds_toArray, List.set_cons_zero, List.set_cons_succ, World.size_alloc])))
        refine (H16 _ K4).mono ?_
        rintro e w5 ⟨rfl, b5⟩
        have V5 := V4.below b5 V4.lt
        have K5 := K4.below b5 K4.lt
        have R5 := R4.below b5 R4.lt
        have B5 : Below w.heap.size w w5 := B4.trans (b5.mono B4.size)
        clear V3 K3 R3 B3 V4 K4 R4 B4 b5 hw3 hw4 cv fz cp1 d0 c0 hx hk2 H16
        go_wp2_with (first | ((with_reducible show wpList _ _ _ (Oper.mk _ (Op.store 23 _ _) _ _ _ _ :: _) _ _; refine wpList_stm rfl rfl rfl rfl (by assumption) (om_fit (by first | assumption | exact om0_ok) (by first | assumption | exact z16_len | exact ones_len | exact Om.Ok.p (by assumption) | exact Om.Ok.s (by assumption))) (pay_hi16 (by first | assumption | exact z16_len | exact ones_len | exact Om.Ok.p (by assumption) | exact Om.Ok.s (by assumption))) (payV_one _) ?_); intro w6 hw6; have V6 := BK.setCells (vals pp) 4 V5; rw [omV_setP _ pp (z16_len.trans okp.symm)] at V6; have K6 := K5.setCellsOther (show b ≠ w2.heap.size by omega) (vals pp) 4; have R6 := R5.setCellsOther (show w.heap.size ≠ w2.heap.size by omega) (vals pp) 4; have B6 := below_setC (show w.heap.size ≤ w2.heap.size by omega) (vals pp) 4 B5; (replace V6 : BK w6 _ _ _ := hw6 ▸ V6); (replace K6 : BK w6 _ _ _ := hw6 ▸ K6); (replace R6 : BK w6 _ _ _ := hw6 ▸ R6); (replace B6 : Below _ w w6 := hw6 ▸ B6); (replace V6 : BK w6 _ (omV (liftN p)) _ := HLI.out ▸ V6); clear V5 K5 R5 B5 hw6) | (with_reducible show wpList _ _ _ (Oper.mk _ (Op.load 25 _) _ _ _ _ :: _) _ _; refine wpList_ld rfl rfl rfl (run_ldB _ _ _ _ (by assumption) (by first | assumption | exact om0_ok)) ?_; (try simp only [Act.put, List.setIfInBounds_toArray, List.set_cons_zero, List.set_cons_succ, World.size_alloc])))
        refine (HP _).mono ?_
        rintro e wa ⟨aa, ca, rfl, Ia, ba⟩
        have Va := V6.below ba V6.lt
        have Ka := K6.below ba K6.lt
        have Ra := R6.below ba R6.lt
        have Ba : Below w.heap.size w wa := B6.trans (ba.mono B6.size)
        have Ja : IsB wa.heap.size wa (some ⟨b, 0, none⟩) 48 p := by have := Ka.pay; rwa [HL.out] at this
        have HM := same_calls aa (some ⟨b, 0, none⟩) 48 ca 48 48 (payN (liftN p)) p wa Ia Ja (Nat.le_refl _) (Nat.le_refl _) (by decide)
        clear Ia Ja ba V6 K6 R6 B6 HP
        go_wp2_with fail
        refine HM.mono ?_
        rintro e wb ⟨rfl, bb⟩
        have Vb := Va.below bb Va.lt
        have Rb := Ra.below bb Ra.lt
        have Bb : Below w.heap.size w wb := Ba.trans (bb.mono Ba.size)
        clear HM bb Va Ka Ra Ba
        by_cases h5 : payN (liftN p) = p
        · rw [show (payN (liftN p) == p) = true from beq_iff_eq.2 h5]
          have HQ : Hid (q = (liftN p, 0)) := HB.out.trans (if_neg (fun h => h h5))
          clear HB h5
          go_wp2_with (first | (with_reducible show wpList _ _ _ (Oper.mk _ (Op.load 25 _) _ _ _ _ :: _) _ _; refine wpList_ld rfl rfl rfl (run_ldB _ _ _ _ (by assumption) (by first | assumption | exact om0_ok)) ?_; (try simp only [Act.put, List.setIfInBounds_toArray, List.set_cons_zero, List.set_cons_succ, World.size_alloc])) | ((with_reducible show wpList _ _ _ (Oper.mk _ (Op.store 25 _ _) _ _ _ _ :: _) _ _; refine wpList_st rfl rfl rfl rfl (by assumption) (omV_hiB (by first | assumption | exact om0_ok)) (omV_same (by first | assumption | exact om0_ok) (by first | assumption | exact om0_ok)) (omV_one _) ?_); intro w9 K9 b9 but9 z9))
          refine bodyPost_ret (v := .tuple #[.agg (omV (liftN p)), .int .i64 0]) (results_cell_tmp_row Try.results13 _ _ _ _ _ _ _ _ rfl rfl K9 Try.underlying25 rfl (omV_hiB okl)) rfl ⟨by rw [HQ.out]; rfl, ?_⟩
          exact Bb.trans (b9 _ (by omega))
        · rw [show (payN (liftN p) == p) = false from beq_eq_false_iff_ne.2 h5]
          have HQ : Hid (q = (om0, 5)) := HB.out.trans (if_pos h5)
          clear HB h5
          go_wp2_with (first | (with_reducible show wpList _ _ _ (Oper.mk _ (Op.build 25 _) _ _ _ _ :: _) _ _; refine wpList_bld (vs := []) rfl rfl rfl (run_bzB _) ?_; (try simp only [Act.put, List.setIfInBounds_toArray, List.set_cons_zero, List.set_cons_succ, World.size_alloc])) | ((with_reducible show wpList _ _ _ (Oper.mk _ (Op.store 25 _ _) _ _ _ _ :: _) _ _; refine wpList_st rfl rfl rfl rfl (by assumption) (omV_hiB (by first | assumption | exact om0_ok)) (omV_same (by first | assumption | exact om0_ok) (by first | assumption | exact om0_ok)) (omV_one _) ?_); intro w9 K9 b9 but9 z9))
          refine bodyPost_ret (v := .tuple #[.agg (omV om0), .int .i64 5]) (results_cell_tmp_row Try.results13 _ _ _ _ _ _ _ _ rfl rfl K9 Try.underlying25 rfl (omV_hiB om0_ok)) rfl ⟨by rw [HQ.out]; rfl, ?_⟩
          exact Bb.trans (b9 _ (by omega))
    by_cases h4 : kk = 4
    · have hK : isK kk = true := isK_iff.2 (by omega)
      have HB : Hid (q = if payN (liftN p) ≠ p then (om0, 5) else (liftN p, 0)) := HU1.out.trans (if_neg (by rw [hK]; decide))
      have HLI : Hid (liftN p = ⟨4, 0, false, 0, z16, z16⟩) := by unfold Hid liftN; rw [hkk, if_neg (by omega), if_pos h4]
      have HP := HPP hK
      subst h4
      clear HPP hkk hK hck HU1 hl h01 K2 R2 B2
      rw [← HLI.out] at V3
      go_wp2_with (first | (with_reducible show wpList _ _ _ (Oper.mk _ (Op.build 25 _) _ _ _ _ :: _) _ _; refine wpList_bld (vs := [(0, .int .i64 _)]) rfl rfl rfl (run_bldKindB _ _) ?_; (try simp only [Act.put, List.setIfInBounds_toArray, List.set_cons_zero, List.set_cons_succ, World.size_alloc])) | (with_reducible show wpList _ _ _ (Oper.mk _ (Op.alloc 25) _ _ _ _ :: Oper.mk _ (Op.store 25 _ _) _ _ _ _ :: _) _ _; refine wpList_def rfl rfl rfl rfl rfl zeroB (omV_hiB (by first | assumption | exact om0_ok)) (omV_same (by first | assumption | exact om0_ok) (by first | assumption | exact om0_ok)) (omV_one _) rfl ?_; (try simp only [Act.put, List.setIfInBounds_toArray, List.set_cons_zero, List.set_cons_succ, World.size_alloc])) | (with_reducible show wpList _ _ _ (Oper.mk _ (Op.load 25 _) _ _ _ _ :: _) _ _; refine wpList_ld rfl rfl rfl (run_ldB _ _ _ _ (by assumption) (by first | assumption | exact om0_ok)) ?_; (try simp only [Act.put, List.setIfInBounds_toArray, List.set_cons_zero, List.set_cons_succ, World.size_alloc])))
      have V6 := V3
      have K6 := K3
      have R6 := R3
      have B6 := B3
      obtain ⟨w6, hw6⟩ : ∃ z, z = w3 := ⟨_, rfl⟩
      subst hw6
      clear V3 K3 R3 B3 d0 c0 hx hk2
      refine (HP _).mono ?_
      rintro e wa ⟨aa, ca, rfl, Ia, ba⟩
      have Va := V6.below ba V6.lt
      have Ka := K6.below ba K6.lt
      have Ra := R6.below ba R6.lt
      have Ba : Below w.heap.size w wa := B6.trans (ba.mono B6.size)
      have Ja : IsB wa.heap.size wa (some ⟨b, 0, none⟩) 48 p := by have := Ka.pay; rwa [HL.out] at this
      have HM := same_calls aa (some ⟨b, 0, none⟩) 48 ca 48 48 (payN (liftN p)) p wa Ia Ja (Nat.le_refl _) (Nat.le_refl _) (by decide)
      clear Ia Ja ba V6 K6 R6 B6 HP
      go_wp2_with fail
      refine HM.mono ?_
      rintro e wb ⟨rfl, bb⟩
      have Vb := Va.below bb Va.lt
      have Rb := Ra.below bb Ra.lt
      have Bb : Below w.heap.size w wb := Ba.trans (bb.mono Ba.size)
      clear HM bb Va Ka Ra Ba
      by_cases h5 : payN (liftN p) = p
      · rw [show (payN (liftN p) == p) = true from beq_iff_eq.2 h5]
        have HQ : Hid (q = (liftN p, 0)) := HB.out.trans (if_neg (fun h => h h5))
        clear HB h5
        go_wp2_with (first | (with_reducible show wpList _ _ _ (Oper.mk _ (Op.load 25 _) _ _ _ _ :: _) _ _; refine wpList_ld rfl rfl rfl (run_ldB _ _ _ _ (by assumption) (by first | assumption | exact om0_ok)) ?_; (try simp only [Act.put, List.setIfInBounds_toArray, List.set_cons_zero, List.set_cons_succ, World.size_alloc])) | ((with_reducible show wpList _ _ _ (Oper.mk _ (Op.store 25 _ _) _ _ _ _ :: _) _ _; refine wpList_st rfl rfl rfl rfl (by assumption) (omV_hiB (by first | assumption | exact om0_ok)) (omV_same (by first | assumption | exact om0_ok) (by first | assumption | exact om0_ok)) (omV_one _) ?_); intro w9 K9 b9 but9 z9))
        refine bodyPost_ret (v := .tuple #[.agg (omV (liftN p)), .int .i64 0]) (results_cell_tmp_row Try.results13 _ _ _ _ _ _ _ _ rfl rfl K9 Try.underlying25 rfl (omV_hiB okl)) rfl ⟨by rw [HQ.out]; rfl, ?_⟩
        exact Bb.trans (b9 _ (by omega))
      · rw [show (payN (liftN p) == p) = false from beq_eq_false_iff_ne.2 h5]
        have HQ : Hid (q = (om0, 5)) := HB.out.trans (if_pos h5)
        clear HB h5
        go_wp2_with (first | (with_reducible show wpList _ _ _ (Oper.mk _ (Op.build 25 _) _ _ _ _ :: _) _ _; refine wpList_bld (vs := []) rfl rfl rfl (run_bzB _) ?_; (try simp only [Act.put, List.setIfInBounds_toArray, List.set_cons_zero, List.set_cons_succ, World.size_alloc])) | ((with_reducible show wpList _ _ _ (Oper.mk _ (Op.store 25 _ _) _ _ _ _ :: _) _ _; refine wpList_st rfl rfl rfl rfl (by assumption) (omV_hiB (by first | assumption | exact om0_ok)) (omV_same (by first | assumption | exact om0_ok) (by first | assumption | exact om0_ok)) (omV_one _) ?_); intro w9 K9 b9 but9 z9))
        refine bodyPost_ret (v := .tuple #[.agg (omV om0), .int .i64 5]) (results_cell_tmp_row Try.results13 _ _ _ _ _ _ _ _ rfl rfl K9 Try.underlying25 rfl (omV_hiB om0_ok)) rfl ⟨by rw [HQ.out]; rfl, ?_⟩
        exact Bb.trans (b9 _ (by omega))
    by_cases h8 : kk = 8
    · have hK : isK kk = true := isK_iff.2 (by omega)
      have HB : Hid (q = if payN (liftN p) ≠ p then (om0, 5) else (liftN p, 0)) := HU1.out.trans (if_neg (by rw [hK]; decide))
      have HLI : Hid (liftN p = ⟨8, 0, gN p 1 == 1, nuN p, plN p 6, plN p 22⟩) := by unfold Hid liftN; rw [hkk, if_pos h8]
      have HP := HPP hK
      have cp1 := g_cell K3 hl 1 (by decide)
      have he : (((gN p 1 : Nat) : Int) == 1) = (gN p 1 == 1) := by rw [Bool.eq_iff_iff, beq_iff_eq, beq_iff_eq]; omega
      have H6 := fun (w : World) (h : BK w b (payV p) t) => sixteen_calls b 6 42 (plN p 6) (pl_len hl (by decide)) w h.lt (h.pl 6)
      have H22 := fun (w : World) (h : BK w b (payV p) t) => sixteen_calls b 22 26 (plN p 22) (pl_len hl (by decide)) w h.lt (h.pl 22)
      have okp : (plN p 6).length = 16 := pl_len hl (by decide)
      have oks : (plN p 22).length = 16 := pl_len hl (by decide)
      have HN : Hid (nuN p = ((gN p 2 * 256 + gN p 3) * 256 + gN p 4) * 256 + gN p 5) := rfl
      have hnu := nu_lt p
      have HG := fun (w : World) (h : BK w b (payV p) t) => (⟨g_cell h hl 2 (by decide), g_cell h hl 3 (by decide), g_cell h hl 4 (by decide), g_cell h hl 5 (by decide)⟩ : w.cell? ⟨b, 2, none⟩ = _ ∧ w.cell? ⟨b, 3, none⟩ = _ ∧ w.cell? ⟨b, 4, none⟩ = _ ∧ w.cell? ⟨b, 5, none⟩ = _)
      have x2 := gN_lt p 2
      have x3 := gN_lt p 3
      have x4 := gN_lt p 4
      have x5 := gN_lt p 5
      generalize nuN p = nu at *
      generalize plN p 6 = pp at *
      generalize plN p 22 = ss at *
      generalize (gN p 1 == 1) = f at *
      generalize gN p 1 = y1 at *
      generalize gN p 2 = y2 at *
      generalize gN p 3 = y3 at *
      generalize gN p 4 = y4 at *
      generalize gN p 5 = y5 at *
      have ok4 : (⟨8, 0, f, nu, z16, z16⟩ : Om).Ok := ⟨hnu, z16_len, z16_len⟩
      have ok5 : (⟨8, 0, f, nu, pp, z16⟩ : Om).Ok := ⟨hnu, okp, z16_len⟩
      have cv := V3.cell 2 (.bool false) (by simp [omV])
      have fz := V3.frozen 2
      have V4 := V3.set 2 (.bool f)
      rw [omV_a] at V4
      have K4 := K3.setOther (p := ⟨w2.heap.size, 2, none⟩) (show b ≠ w2.heap.size by omega) (.bool f)
      have R4 := R3.setOther (p := ⟨w2.heap.size, 2, none⟩) (show w.heap.size ≠ w2.heap.size by omega) (.bool f)
      have B4 := B3.setCell (p := ⟨w2.heap.size, 2, none⟩) (show w.heap.size ≤ w2.heap.size by omega) (.bool f)
      obtain ⟨w4, hw4⟩ : ∃ w4, w3.setCell ⟨w2.heap.size, 2, none⟩ (.bool f) = w4 := ⟨_, rfl⟩
      rw [hw4] at V4 K4 R4 B4
      subst h8
      obtain ⟨g2, g3, g4, g5⟩ := HG _ K4
      have cv3 := V4.cell 3 (.int .u32 0) (by simp [omV])
      have fz3 := V4.frozen 3
      have HSUM : Hid (((y2 : Int) % 4294967296 * 16777216 + (y3 : Int) % 4294967296 * 65536 + (y4 : Int) % 4294967296 * 256 + (y5 : Int)) % 4294967296 = (nu : Int)) := by
        rw [HN.out]; exact sum_three y2 y3 y4 y5 x2 x3 x4 x5
      have V5 := V4.set 3 (.int .u32 (nu : Int))
      rw [omV_t] at V5
      have K5 := K4.setOther (p := ⟨w2.heap.size, 3, none⟩) (show b ≠ w2.heap.size by omega) (.int .u32 (nu : Int))
      have R5 := R4.setOther (p := ⟨w2.heap.size, 3, none⟩) (show w.heap.size ≠ w2.heap.size by omega) (.int .u32 (nu : Int))
      have B5 := B4.setCell (p := ⟨w2.heap.size, 3, none⟩) (show w.heap.size ≤ w2.heap.size by omega) (.int .u32 (nu : Int))
      have HW5 : Hid (BK _ _ _ _ ∧ BK _ _ _ _ ∧ BK _ _ _ _ ∧ Below _ _ _) := ⟨V5.drew, K5.drew, R5.drew, B5.drew⟩
      clear HPP hkk hK hck HU1 hl h01 h4 HN HG K2 R2 B2 V3 K3 R3 B3 V4 K4 R4 B4 V5 K5 R5 B5 x2 x3 x4 x5
      go_wp2_with (first | (with_reducible show wpList _ _ _ (Oper.mk _ (Op.build 25 _) _ _ _ _ :: _) _ _; refine wpList_bld (vs := [(0, .int .i64 _)]) rfl rfl rfl (run_bldKindB _ _) ?_; (try simp only [Act.put, List.setIfInBounds_toArray, List.set_cons_zero, List.set_cons_succ, World.size_alloc])) | (with_reducible show wpList _ _ _ (Oper.mk _ (Op.alloc 25) _ _ _ _ :: Oper.mk _ (Op.store 25 _ _) _ _ _ _ :: _) _ _; refine wpList_def rfl rfl rfl rfl rfl zeroB (omV_hiB (by first | assumption | exact om0_ok)) (omV_same (by first | assumption | exact om0_ok) (by first | assumption | exact om0_ok)) (omV_one _) rfl ?_; (try simp only [Act.put, List.setIfInBounds_toArray, List.set_cons_zero, List.set_cons_succ, World.size_alloc])))
      go_region
      rw [HSUM.out]
      obtain ⟨V5, K5, R5, B5⟩ := HW5.out
      clear hw3 hw4 cv fz cv3 fz3 g2 g3 g4 g5 HSUM cp1 he d0 c0 hx hk2 HW5
      obtain ⟨w5, hw5⟩ : ∃ w5, (w4.setCell ⟨w2.heap.size, 3, none⟩ (.int .u32 (nu : Int))).drew = w5 := ⟨_, rfl⟩
      rw [hw5] at V5 K5 R5 B5
      go_wp2_with fail
      (try rw [hw5])
      refine (H6 _ K5).mono ?_
      rintro e w6 ⟨rfl, b6⟩
      have V6 := V5.below b6 V5.lt
      have K6 := K5.below b6 K5.lt
      have R6 := R5.below b6 R5.lt
      have B6 : Below w.heap.size w w6 := B5.trans (b6.mono B5.size)
      clear V5 K5 R5 B5 b6 hw5 H6
      go_wp2_with ((with_reducible show wpList _ _ _ (Oper.mk _ (Op.store 23 _ _) _ _ _ _ :: _) _ _; refine wpList_stm rfl rfl rfl rfl (by assumption) (om_fit (by first | assumption | exact om0_ok) (by first | assumption | exact z16_len | exact ones_len | exact Om.Ok.p (by assumption) | exact Om.Ok.s (by assumption))) (pay_hi16 (by first | assumption | exact z16_len | exact ones_len | exact Om.Ok.p (by assumption) | exact Om.Ok.s (by assumption))) (payV_one _) ?_); intro w7 hw7; have V7 := BK.setCells (vals pp) 4 V6; rw [omV_setP _ pp (z16_len.trans okp.symm)] at V7; have K7 := K6.setCellsOther (show b ≠ w2.heap.size by omega) (vals pp) 4; have R7 := R6.setCellsOther (show w.heap.size ≠ w2.heap.size by omega) (vals pp) 4; have B7 := below_setC (show w.heap.size ≤ w2.heap.size by omega) (vals pp) 4 B6; (replace V7 : BK w7 _ _ _ := hw7 ▸ V7); (replace K7 : BK w7 _ _ _ := hw7 ▸ K7); (replace R7 : BK w7 _ _ _ := hw7 ▸ R7); (replace B7 : Below _ w w7 := hw7 ▸ B7); clear V6 K6 R6 B6 hw7)
      refine (H22 _ K7).mono ?_
      rintro e w8 ⟨rfl, b8⟩
      have V8 := V7.below b8 V7.lt
      have K8 := K7.below b8 K7.lt
      have R8 := R7.below b8 R7.lt
      have B8 : Below w.heap.size w w8 := B7.trans (b8.mono B7.size)
      clear V7 K7 R7 B7 b8 H22
      go_wp2_with (first | ((with_reducible show wpList _ _ _ (Oper.mk _ (Op.store 23 _ _) _ _ _ _ :: _) _ _; refine wpList_stm rfl rfl rfl rfl (by assumption) (om_fit2 (by first | assumption | exact om0_ok) (by first | assumption | exact z16_len | exact ones_len | exact Om.Ok.p (by assumption) | exact Om.Ok.s (by assumption))) (pay_hi16 (by first | assumption | exact z16_len | exact ones_len | exact Om.Ok.p (by assumption) | exact Om.Ok.s (by assumption))) (payV_one _) ?_); intro w6 hw6; have V6 := BK.setCells (vals ss) 20 V8; rw [omV_setS _ ok5.p ss (z16_len.trans oks.symm)] at V6; have K6 := K8.setCellsOther (show b ≠ w2.heap.size by omega) (vals ss) 20; have R6 := R8.setCellsOther (show w.heap.size ≠ w2.heap.size by omega) (vals ss) 20; have B6 := below_setC (show w.heap.size ≤ w2.heap.size by omega) (vals ss) 20 B8; (replace V6 : BK w6 _ _ _ := hw6 ▸ V6); (replace K6 : BK w6 _ _ _ := hw6 ▸ K6); (replace R6 : BK w6 _ _ _ := hw6 ▸ R6); (replace B6 : Below _ w w6 := hw6 ▸ B6); (replace V6 : BK w6 _ (omV (liftN p)) _ := HLI.out ▸ V6); clear V8 K8 R8 B8 hw6) | (with_reducible show wpList _ _ _ (Oper.mk _ (Op.load 25 _) _ _ _ _ :: _) _ _; refine wpList_ld rfl rfl rfl (run_ldB _ _ _ _ (by assumption) (by first | assumption | exact om0_ok)) ?_; (try simp only [Act.put, List.setIfInBounds_toArray, List.set_cons_zero, List.set_cons_succ, World.size_alloc])))
      refine (HP _).mono ?_
      rintro e wa ⟨aa, ca, rfl, Ia, ba⟩
      have Va := V6.below ba V6.lt
      have Ka := K6.below ba K6.lt
      have Ra := R6.below ba R6.lt
      have Ba : Below w.heap.size w wa := B6.trans (ba.mono B6.size)
      have Ja : IsB wa.heap.size wa (some ⟨b, 0, none⟩) 48 p := by have := Ka.pay; rwa [HL.out] at this
      have HM := same_calls aa (some ⟨b, 0, none⟩) 48 ca 48 48 (payN (liftN p)) p wa Ia Ja (Nat.le_refl _) (Nat.le_refl _) (by decide)
      clear Ia Ja ba V6 K6 R6 B6 HP
      go_wp2_with fail
      refine HM.mono ?_
      rintro e wb ⟨rfl, bb⟩
      have Vb := Va.below bb Va.lt
      have Rb := Ra.below bb Ra.lt
      have Bb : Below w.heap.size w wb := Ba.trans (bb.mono Ba.size)
      clear HM bb Va Ka Ra Ba
      by_cases h5 : payN (liftN p) = p
      · rw [show (payN (liftN p) == p) = true from beq_iff_eq.2 h5]
        have HQ : Hid (q = (liftN p, 0)) := HB.out.trans (if_neg (fun h => h h5))
        clear HB h5
        go_wp2_with (first | (with_reducible show wpList _ _ _ (Oper.mk _ (Op.load 25 _) _ _ _ _ :: _) _ _; refine wpList_ld rfl rfl rfl (run_ldB _ _ _ _ (by assumption) (by first | assumption | exact om0_ok)) ?_; (try simp only [Act.put, List.setIfInBounds_toArray, List.set_cons_zero, List.set_cons_succ, World.size_alloc])) | ((with_reducible show wpList _ _ _ (Oper.mk _ (Op.store 25 _ _) _ _ _ _ :: _) _ _; refine wpList_st rfl rfl rfl rfl (by assumption) (omV_hiB (by first | assumption | exact om0_ok)) (omV_same (by first | assumption | exact om0_ok) (by first | assumption | exact om0_ok)) (omV_one _) ?_); intro w9 K9 b9 but9 z9))
        refine bodyPost_ret (v := .tuple #[.agg (omV (liftN p)), .int .i64 0]) (results_cell_tmp_row Try.results13 _ _ _ _ _ _ _ _ rfl rfl K9 Try.underlying25 rfl (omV_hiB okl)) rfl ⟨by rw [HQ.out]; rfl, ?_⟩
        exact Bb.trans (b9 _ (by omega))
      · rw [show (payN (liftN p) == p) = false from beq_eq_false_iff_ne.2 h5]
        have HQ : Hid (q = (om0, 5)) := HB.out.trans (if_pos h5)
        clear HB h5
        go_wp2_with (first | (with_reducible show wpList _ _ _ (Oper.mk _ (Op.build 25 _) _ _ _ _ :: _) _ _; refine wpList_bld (vs := []) rfl rfl rfl (run_bzB _) ?_; (try simp only [Act.put, List.setIfInBounds_toArray, List.set_cons_zero, List.set_cons_succ, World.size_alloc])) | ((with_reducible show wpList _ _ _ (Oper.mk _ (Op.store 25 _ _) _ _ _ _ :: _) _ _; refine wpList_st rfl rfl rfl rfl (by assumption) (omV_hiB (by first | assumption | exact om0_ok)) (omV_same (by first | assumption | exact om0_ok) (by first | assumption | exact om0_ok)) (omV_one _) ?_); intro w9 K9 b9 but9 z9))
        refine bodyPost_ret (v := .tuple #[.agg (omV om0), .int .i64 5]) (results_cell_tmp_row Try.results13 _ _ _ _ _ _ _ _ rfl rfl K9 Try.underlying25 rfl (omV_hiB om0_ok)) rfl ⟨by rw [HQ.out]; rfl, ?_⟩
        exact Bb.trans (b9 _ (by omega))
    have g0 : (kk == 0) = false := beq_eq_false_iff_ne.2 (by omega)
    have g1 : (kk == 1) = false := beq_eq_false_iff_ne.2 (by omega)
    have g4 : (kk == 4) = false := beq_eq_false_iff_ne.2 h4
    have g8 : (kk == 8) = false := beq_eq_false_iff_ne.2 h8
    have HQ : Hid (q = (om0, 12)) := HU1.out.trans (if_pos (by unfold isK; rw [g0, g1, g4, g8]; rfl))
    clear HU1 hck HPP hkk hl h01 h4 h8 K2 R2 B2
    go_wp2_with (first | (with_reducible show wpList _ _ _ (Oper.mk _ (Op.build 25 _) _ _ _ _ :: _) _ _; refine wpList_bld (vs := [(0, .int .i64 _)]) rfl rfl rfl (run_bldKindB _ _) ?_; (try simp only [Act.put, List.setIfInBounds_toArray, List.set_cons_zero, List.set_cons_succ, World.size_alloc])) | (with_reducible show wpList _ _ _ (Oper.mk _ (Op.alloc 25) _ _ _ _ :: Oper.mk _ (Op.store 25 _ _) _ _ _ _ :: _) _ _; refine wpList_def rfl rfl rfl rfl rfl zeroB (omV_hiB (by first | assumption | exact om0_ok)) (omV_same (by first | assumption | exact om0_ok) (by first | assumption | exact om0_ok)) (omV_one _) rfl ?_; (try simp only [Act.put, List.setIfInBounds_toArray, List.set_cons_zero, List.set_cons_succ, World.size_alloc])) | (with_reducible show wpList _ _ _ (Oper.mk _ (Op.build 25 _) _ _ _ _ :: _) _ _; refine wpList_bld (vs := []) rfl rfl rfl (run_bzB _) ?_; (try simp only [Act.put, List.setIfInBounds_toArray, List.set_cons_zero, List.set_cons_succ, World.size_alloc])) | ((with_reducible show wpList _ _ _ (Oper.mk _ (Op.store 25 _ _) _ _ _ _ :: _) _ _; refine wpList_st rfl rfl rfl rfl (by assumption) (omV_hiB (by first | assumption | exact om0_ok)) (omV_same (by first | assumption | exact om0_ok) (by first | assumption | exact om0_ok)) (omV_one _) ?_); intro w9 K9 b9 but9 z9))
    refine bodyPost_ret (v := .tuple #[.agg (omV om0), .int .i64 12]) (results_cell_tmp_row Try.results13 _ _ _ _ _ _ _ _ rfl rfl K9 Try.underlying25 rfl (omV_hiB om0_ok)) rfl ⟨by rw [HQ.out]; rfl, ?_⟩
    exact B3.trans (b9 _ (by omega))
  · rw [show (sealN p == p) = false from beq_eq_false_iff_ne.2 h1]
    have HQ : Hid (q = (om0, 4)) := HU.out.trans (if_pos h1)
    clear HU h1
    go_wp2_with (first | (with_reducible show wpList _ _ _ (Oper.mk _ (Op.build 25 _) _ _ _ _ :: _) _ _; refine wpList_bld (vs := []) rfl rfl rfl (run_bzB _) ?_; (try simp only [Act.put, List.setIfInBounds_toArray, List.set_cons_zero, List.set_cons_succ, World.size_alloc])) | ((with_reducible show wpList _ _ _ (Oper.mk _ (Op.store 25 _ _) _ _ _ _ :: _) _ _; refine wpList_st rfl rfl rfl rfl (by assumption) (omV_hiB (by first | assumption | exact om0_ok)) (omV_same (by first | assumption | exact om0_ok) (by first | assumption | exact om0_ok)) (omV_one _) ?_); intro w9 K9 b9 but9 z9))
    refine bodyPost_ret (v := .tuple #[.agg (omV om0), .int .i64 4]) (results_cell_tmp_row Try.results13 _ _ _ _ _ _ _ _ rfl rfl K9 Try.underlying25 rfl (omV_hiB om0_ok)) rfl ⟨by rw [HQ.out]; rfl, ?_⟩
    exact B2.trans (b9 _ (by omega))
end Go.Proofs.Ytpjlcmdidhdbcaa
