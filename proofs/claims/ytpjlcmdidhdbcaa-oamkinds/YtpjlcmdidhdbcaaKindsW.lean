/- Proved here: the walk of OamKinds. Conditions: as each theorem states them. -/
import Derived.Test.YtpjlcmdidhdbcaaAw
import Derived.Test.YtpjlcmdidhdbcaaOp
namespace Go.Proofs.Ytpjlcmdidhdbcaa
set_option linter.unusedSimpArgs false
set_option linter.unusedVariables false
open Go.RowKit

theorem kind_bits (y : Nat) : isK ((y : Int) - 16) = (((y : Int) == 16) || (((y : Int) == 17) || (((y : Int) == 20) || ((y : Int) == 24)))) := by
  rw [Bool.eq_iff_iff, isK_iff]
  simp only [Bool.or_eq_true, beq_iff_eq]
  omega
theorem un_le (p : List UInt8) : ((unN p).2 : Int) ≤ 12 := by have := un_lt p; omega

set_option maxRecDepth 100000 in
set_option maxHeartbeats 8000000 in
theorem kinds_walk (o : Om) (ok : o.Ok) (x : UInt8) (w : World) : Calls Try.prog 7 #[.agg (omV o), .int .u8 (x.toNat : Int)] w fun e w' => e = .returned (.bool true) ∧ Below w.heap.size w w' := by
  have K0 := bk_new w (omV o) 25
  have A0 : Below w.heap.size w (w.alloc (.cells (omV o) 25)) := (Below.refl _ w).alloc (Nat.le_refl _) _
  have HA := awake_calls (w.alloc (.cells (omV o) 25))
  have HP := fun w => pack_calls o ok w
  go_enter Try.func7, Try.ntmps7
  go_wp2_with fail
  refine HA.mono ?_
  rintro e w1 ⟨rfl, b1⟩
  have K1 := K0.below b1 K0.lt
  have B1 : Below w.heap.size w w1 := A0.trans (b1.mono (by simp))
  clear K0 A0 b1 HA
  go_wp2_with ((with_reducible show wpList _ _ _ (Oper.mk _ (Op.load 25 _) _ _ _ _ :: _) _ _; refine wpList_ld rfl rfl rfl (run_ldB _ _ _ _ (by assumption) (by first | assumption | exact om0_ok)) ?_; (try simp only [Act.put, List.setIfInBounds_toArray, List.set_cons_zero, List.set_cons_succ, World.size_alloc])))
  refine (HP _).mono ?_
  rintro e w2 ⟨rfl, b2⟩
  have B2 : Below w.heap.size w w2 := B1.trans (b2.mono B1.size)
  clear K1 B1 b2 HP
  have HL : Hid ((pkN o).length = 48) := pk_len ok
  have P3 := bk_new w2 (payV (pkN o)) 26
  have B3 := B2.alloc B2.size (.cells (payV (pkN o)) 26)
  have s2 := B2.size
  cases hc : canB o with
  | false =>
    have e1 : pkE o = 1 := by unfold pkE; rw [hc]; rfl
    rw [e1]
    clear e1 hc
    go_wp2_with ((with_reducible show wpList _ _ _ (Oper.mk _ (Op.alloc 26) _ _ _ _ :: Oper.mk _ (Op.store 26 _ _) _ _ _ _ :: _) _ _; refine wpList_def rfl rfl rfl rfl rfl zero24 (pay_hi48 (by first | exact HL.out | exact HM.out | assumption | (simp only [zer, List.length_replicate]; done))) (pay_same (n := 48) (by first | exact HL.out | exact HM.out | assumption | (simp only [zer, List.length_replicate]; done)) (by first | exact HL.out | exact HM.out | assumption | (simp only [zer, List.length_replicate]; done))) (payV_one _) rfl ?_; (try simp only [Act.put, List.setIfInBounds_toArray, List.set_cons_zero, List.set_cons_succ, World.size_alloc])))
    go_ret
    exact ⟨rfl, B3⟩
  | true =>
    have e1 : pkE o = 0 := by unfold pkE; rw [hc]; rfl
    rw [e1]
    obtain ⟨W3, hW3⟩ : ∃ W, w2.alloc (.cells (payV (pkN o)) 26) = W := ⟨_, rfl⟩
    rw [hW3] at P3 B3
    obtain ⟨y0, hy0⟩ : ∃ y, (pkN o)[0]? = some y := ⟨(pkN o)[0]'(by rw [HL.out]; decide), by rw [List.getElem?_eq_getElem]⟩
    have cv := P3.payCell hy0
    have fz := P3.frozen 0
    have P4 := P3.set 0 (.int .u8 (x.toNat : Int))
    rw [payV_set] at P4
    have B4 := B3.setCell (p := ⟨w2.heap.size, 0, none⟩) s2 (.int .u8 (x.toNat : Int))
    have hql : ((pkN o).set 0 x).length = 48 := by rw [List.length_set, HL.out]
    have hg : gN ((pkN o).set 0 x) 0 = x.toNat := by
      unfold gN
      rw [List.getElem?_set_self (by rw [HL.out]; decide)]; rfl
    have HLN : Hid ((pkN o).length = 48) := HL
    obtain ⟨hu1, hu2⟩ := un_first hql
    rw [hg] at hu1 hu2
    have HS := fun w => cseal_calls ((pkN o).set 0 x) hql w
    have hsl : (sealN ((pkN o).set 0 x)).length = 48 := (sealN_length _).trans hql
    have HU := fun w => unpack_calls (sealN ((pkN o).set 0 x)) hsl w
    have hok := (un_cases hsl).1
    have hle := un_le (sealN ((pkN o).set 0 x))
    generalize unN (sealN ((pkN o).set 0 x)) = u at *
    obtain ⟨ur, ue⟩ := u
    generalize sealN ((pkN o).set 0 x) = qq at *
    generalize (pkN o).set 0 x = qs at *
    have HM : Hid (qs.length = 48) := hql
    have hu3 : ue = 0 → ur.k = ((x.toNat : Nat) : Int) - 16 := hu2
    have hu4 : (ue == 12) = !isK (((x.toNat : Nat) : Int) - 16) := hu1
    rw [kind_bits] at hu4
    have hle2 : (ue : Int) ≤ 12 := hle
    have hok2 : ur.Ok := hok
    have hx255 : ((x.toNat : Nat) : Int) ≤ 255 := by have := x.toNat_lt; omega
    generalize x.toNat = y at *
    obtain ⟨c1, h1⟩ : ∃ c, ((y : Int) == 16) = c := ⟨_, rfl⟩
    obtain ⟨c2, h2⟩ : ∃ c, ((y : Int) == 17) = c := ⟨_, rfl⟩
    obtain ⟨c3, h3⟩ : ∃ c, ((y : Int) == 20) = c := ⟨_, rfl⟩
    obtain ⟨c4, h4⟩ : ∃ c, ((y : Int) == 24) = c := ⟨_, rfl⟩
    rw [h1, h2, h3, h4] at hu4
    have HK : Hid ((ue == 12) = !(c1 || (c2 || (c3 || c4)))) := hu4
    clear hu1 hu2 hu4 hle hok hql hsl hg e1 hc HL
    obtain ⟨W4, hW4⟩ : ∃ W, W3.setCell ⟨w2.heap.size, 0, none⟩ (.int .u8 (y : Int)) = W := ⟨_, rfl⟩
    rw [hW4] at P4 B4
    have HL : Hid ((pkN o).length = 48) := HLN
    go_wp2_with (first | (with_reducible show wpList _ _ _ (Oper.mk _ (Op.alloc 26) _ _ _ _ :: Oper.mk _ (Op.store 26 _ _) _ _ _ _ :: _) _ _; refine wpList_def rfl rfl rfl rfl rfl zero24 (pay_hi48 (by first | exact HL.out | exact HM.out | assumption | (simp only [zer, List.length_replicate]; done))) (pay_same (n := 48) (by first | exact HL.out | exact HM.out | assumption | (simp only [zer, List.length_replicate]; done)) (by first | exact HL.out | exact HM.out | assumption | (simp only [zer, List.length_replicate]; done))) (payV_one _) rfl ?_; (try simp only [Act.put, List.setIfInBounds_toArray, List.set_cons_zero, List.set_cons_succ, World.size_alloc])) | (with_reducible show wpList _ _ _ (Oper.mk _ (Op.load 26 _) _ _ _ _ :: _) _ _; refine wpList_ld rfl rfl rfl (run_ld24 _ _ _ _ P4 HM.out) ?_; (try simp only [Act.put, List.setIfInBounds_toArray, List.set_cons_zero, List.set_cons_succ, World.size_alloc])))
    refine (HS _).mono ?_
    rintro e w5 ⟨rfl, b5⟩
    have B5 : Below w.heap.size w w5 := B4.trans (b5.mono B4.size)
    clear P3 B3 P4 B4 cv fz hW3 hW4 b5 HS hy0 HL HLN HM
    go_wp2_with fail
    refine (HU _).mono ?_
    rintro e w6 ⟨rfl, b6⟩
    have B6 : Below w.heap.size w w6 := B5.trans (b6.mono B5.size)
    have V7 := bk_new w6 (omV ur) 31
    have B7 := B6.alloc B6.size (.cells (omV ur) 31)
    have v0 := V7.om.1
    clear B5 b6 HU B6 V7
    by_cases hz : ue = 0
    · rw [hu3 hz] at v0
      subst hz
      have hkb : (c1 || (c2 || (c3 || c4))) = true := by
        have := HK.out
        cases hh : (c1 || (c2 || (c3 || c4)))
        · rw [hh] at this; cases this
        · rfl
      have HKB : Hid ((c1 || (c2 || (c3 || c4))) = true) := hkb
      clear hkb HK hu3
      cases c1 with
      | true => 
        clear HKB
        go_wp2_with ((with_reducible show wpList _ _ _ (Oper.mk _ (Op.alloc 31) _ _ _ _ :: Oper.mk _ (Op.store 31 _ _) _ _ _ _ :: _) _ _; refine wpList_def rfl rfl rfl rfl rfl zeroA (omV_hiA (by first | assumption | exact om0_ok)) (omV_same (by first | assumption | exact om0_ok) (by first | assumption | exact om0_ok)) (omV_one _) rfl ?_; (try simp only [Act.put, List.setIfInBounds_toArray, List.set_cons_zero, List.set_cons_succ, World.size_alloc])))
        go_ret
        exact ⟨rfl, B7⟩
      | false =>
      cases c2 with
      | true => 
        clear HKB
        go_wp2_with ((with_reducible show wpList _ _ _ (Oper.mk _ (Op.alloc 31) _ _ _ _ :: Oper.mk _ (Op.store 31 _ _) _ _ _ _ :: _) _ _; refine wpList_def rfl rfl rfl rfl rfl zeroA (omV_hiA (by first | assumption | exact om0_ok)) (omV_same (by first | assumption | exact om0_ok) (by first | assumption | exact om0_ok)) (omV_one _) rfl ?_; (try simp only [Act.put, List.setIfInBounds_toArray, List.set_cons_zero, List.set_cons_succ, World.size_alloc])))
        go_ret
        exact ⟨rfl, B7⟩
      | false =>
      cases c3 with
      | true => 
        clear HKB
        go_wp2_with ((with_reducible show wpList _ _ _ (Oper.mk _ (Op.alloc 31) _ _ _ _ :: Oper.mk _ (Op.store 31 _ _) _ _ _ _ :: _) _ _; refine wpList_def rfl rfl rfl rfl rfl zeroA (omV_hiA (by first | assumption | exact om0_ok)) (omV_same (by first | assumption | exact om0_ok) (by first | assumption | exact om0_ok)) (omV_one _) rfl ?_; (try simp only [Act.put, List.setIfInBounds_toArray, List.set_cons_zero, List.set_cons_succ, World.size_alloc])))
        go_ret
        exact ⟨rfl, B7⟩
      | false =>
      cases c4 with
      | true => 
        clear HKB
        go_wp2_with ((with_reducible show wpList _ _ _ (Oper.mk _ (Op.alloc 31) _ _ _ _ :: Oper.mk _ (Op.store 31 _ _) _ _ _ _ :: _) _ _; refine wpList_def rfl rfl rfl rfl rfl zeroA (omV_hiA (by first | assumption | exact om0_ok)) (omV_same (by first | assumption | exact om0_ok) (by first | assumption | exact om0_ok)) (omV_one _) rfl ?_; (try simp only [Act.put, List.setIfInBounds_toArray, List.set_cons_zero, List.set_cons_succ, World.size_alloc])))
        go_ret
        exact ⟨rfl, B7⟩
      | false => exact absurd HKB.out (by decide)
    · have hne : ((ue : Int) != 0) = true := by rw [bne_iff_ne]; omega
      have h12 : ((ue : Int) == 12) = (ue == 12) := by rw [Bool.eq_iff_iff, beq_iff_eq, beq_iff_eq]; omega
      rw [HK.out] at h12
      clear HK hu3 hz
      cases c1 with
      | true => 
        simp only [Bool.true_or, Bool.false_or, Bool.or_false, Bool.or_true, Bool.not_true, Bool.not_false] at h12
        go_wp2_with ((with_reducible show wpList _ _ _ (Oper.mk _ (Op.alloc 31) _ _ _ _ :: Oper.mk _ (Op.store 31 _ _) _ _ _ _ :: _) _ _; refine wpList_def rfl rfl rfl rfl rfl zeroA (omV_hiA (by first | assumption | exact om0_ok)) (omV_same (by first | assumption | exact om0_ok) (by first | assumption | exact om0_ok)) (omV_one _) rfl ?_; (try simp only [Act.put, List.setIfInBounds_toArray, List.set_cons_zero, List.set_cons_succ, World.size_alloc])))
        go_ret
        exact ⟨rfl, B7⟩
      | false =>
      cases c2 with
      | true => 
        simp only [Bool.true_or, Bool.false_or, Bool.or_false, Bool.or_true, Bool.not_true, Bool.not_false] at h12
        go_wp2_with ((with_reducible show wpList _ _ _ (Oper.mk _ (Op.alloc 31) _ _ _ _ :: Oper.mk _ (Op.store 31 _ _) _ _ _ _ :: _) _ _; refine wpList_def rfl rfl rfl rfl rfl zeroA (omV_hiA (by first | assumption | exact om0_ok)) (omV_same (by first | assumption | exact om0_ok) (by first | assumption | exact om0_ok)) (omV_one _) rfl ?_; (try simp only [Act.put, List.setIfInBounds_toArray, List.set_cons_zero, List.set_cons_succ, World.size_alloc])))
        go_ret
        exact ⟨rfl, B7⟩
      | false =>
      cases c3 with
      | true => 
        simp only [Bool.true_or, Bool.false_or, Bool.or_false, Bool.or_true, Bool.not_true, Bool.not_false] at h12
        go_wp2_with ((with_reducible show wpList _ _ _ (Oper.mk _ (Op.alloc 31) _ _ _ _ :: Oper.mk _ (Op.store 31 _ _) _ _ _ _ :: _) _ _; refine wpList_def rfl rfl rfl rfl rfl zeroA (omV_hiA (by first | assumption | exact om0_ok)) (omV_same (by first | assumption | exact om0_ok) (by first | assumption | exact om0_ok)) (omV_one _) rfl ?_; (try simp only [Act.put, List.setIfInBounds_toArray, List.set_cons_zero, List.set_cons_succ, World.size_alloc])))
        go_ret
        exact ⟨rfl, B7⟩
      | false =>
      cases c4 with
      | true => 
        simp only [Bool.true_or, Bool.false_or, Bool.or_false, Bool.or_true, Bool.not_true, Bool.not_false] at h12
        go_wp2_with ((with_reducible show wpList _ _ _ (Oper.mk _ (Op.alloc 31) _ _ _ _ :: Oper.mk _ (Op.store 31 _ _) _ _ _ _ :: _) _ _; refine wpList_def rfl rfl rfl rfl rfl zeroA (omV_hiA (by first | assumption | exact om0_ok)) (omV_same (by first | assumption | exact om0_ok) (by first | assumption | exact om0_ok)) (omV_one _) rfl ?_; (try simp only [Act.put, List.setIfInBounds_toArray, List.set_cons_zero, List.set_cons_succ, World.size_alloc])))
        go_ret
        exact ⟨rfl, B7⟩
      | false => 
        simp only [Bool.true_or, Bool.false_or, Bool.or_false, Bool.or_true, Bool.not_true, Bool.not_false] at h12
        go_wp2_with ((with_reducible show wpList _ _ _ (Oper.mk _ (Op.alloc 31) _ _ _ _ :: Oper.mk _ (Op.store 31 _ _) _ _ _ _ :: _) _ _; refine wpList_def rfl rfl rfl rfl rfl zeroA (omV_hiA (by first | assumption | exact om0_ok)) (omV_same (by first | assumption | exact om0_ok) (by first | assumption | exact om0_ok)) (omV_one _) rfl ?_; (try simp only [Act.put, List.setIfInBounds_toArray, List.set_cons_zero, List.set_cons_succ, World.size_alloc])))
        go_ret
        exact ⟨rfl, B7⟩
end Go.Proofs.Ytpjlcmdidhdbcaa
