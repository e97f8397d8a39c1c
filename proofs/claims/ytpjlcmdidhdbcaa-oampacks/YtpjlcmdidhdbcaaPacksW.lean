/- Proved here: the walk of OamPacks. Conditions: as each theorem states them. -/
import Derived.Test.YtpjlcmdidhdbcaaAw
import Derived.Test.YtpjlcmdidhdbcaaOp
import Derived.Test.YtpjlcmdidhdbcaaRUn
import Derived.Test.YtpjlcmdidhdbcaaPay
namespace Go.Proofs.Ytpjlcmdidhdbcaa
set_option linter.unusedSimpArgs false
set_option linter.unusedVariables false
open Go.RowKit

theorem run_eql_slice_nil (t e : TypeId) (a : Option Addr) (l c : Nat) (h : Try.prog.underlying t = some (.slice e)) (w : World) : (binOp .eql t (.slice a l c) (.slice none 0 0)).run Try.prog w = .ok (.bool a.isNone) w := by
  simp only [binOp]
  simp [run_equal_slice_nil w t e a l c h]
theorem run_neq_slice_nil2 (t e : TypeId) (a : Option Addr) (l c : Nat) (h : Try.prog.underlying t = some (.slice e)) (w : World) : (binOp .neq t (.slice a l c) (.slice none 0 0)).run Try.prog w = .ok (.bool (!a.isNone)) w := by
  simp only [binOp]
  simp [run_equal_slice_nil w t e a l c h]

set_option maxRecDepth 1000000 in
set_option maxHeartbeats 16000000 in
theorem packs_walk (r : Om) (hr : r.Ok) (p : List UInt8) (hp : p.length = 48) (w : World) :
    Calls Try.prog 3 #[.agg (omV r), .agg (payV p)] w fun e w' => e = .returned (.bool true) ∧ Below w.heap.size w w' := by
  have K0 := (bk_new w (omV r) 25).alloc (.cells (payV p) 26)
  have C0 := bk_new (w.alloc (.cells (omV r) 25)) (payV p) 26
  rw [World.size_alloc] at C0
  have A0 : Below w.heap.size w ((w.alloc (.cells (omV r) 25)).alloc (.cells (payV p) 26)) := ((Below.refl _ w).alloc (Nat.le_refl _) _).alloc (by simp) _
  have HA := awake_calls ((w.alloc (.cells (omV r) 25)).alloc (.cells (payV p) 26))
  have HP := fun w => pack_calls r hr w
  have HU := fun w => unpack_calls p hp w
  have HV := fun w b hK => refunpack_calls p hp b w 26 hK
  have HL : Hid (p.length = 48) := hp
  have HM : Hid ((pkN r).length = 48) := pk_len hr
  have he : ∀ w, (binOp .eql 25 (.agg (omV (unN p).1)) (.agg (omV (unN p).1))).run Try.prog w = .ok (.bool true) w := by
    intro w; have := eqlB (unN p).1 (unN p).1 (un_cases hp).1 (un_cases hp).1 w; rwa [eqB_self] at this
  have okuu := (un_cases hp).1
  have HRR := fun w => right_calls r hr w
  generalize unN p = u at *
  obtain ⟨ur, ue⟩ := u
  have oku : ur.Ok := okuu
  clear hp okuu
  go_enter Try.func3, Try.ntmps3
  go_wp2_with fail
  refine HA.mono ?_
  rintro e w1 ⟨rfl, b1⟩
  have K1 := K0.below b1 K0.lt
  have C1 := C0.below b1 C0.lt
  have B1 : Below w.heap.size w w1 := A0.trans (b1.mono (by simp; omega))
  clear K0 C0 A0 b1 HA
  go_wp2_with ((with_reducible show wpList _ _ _ (Oper.mk _ (Op.load 25 _) _ _ _ _ :: _) _ _; refine wpList_ld rfl rfl rfl (run_ldB _ _ _ _ (by assumption) (by first | assumption | exact om0_ok)) ?_; (try simp only [Act.put, List.setIfInBounds_toArray, List.set_cons_zero, List.set_cons_succ, World.size_alloc])))
  refine (HP _).mono ?_
  rintro e w2 ⟨rfl, b2⟩
  have K2 := K1.below b2 K1.lt
  have C2 := C1.below b2 C1.lt
  have B2 : Below w.heap.size w w2 := B1.trans (b2.mono B1.size)
  have X3 := bk_new w2 (payV (pkN r)) 26
  have K3 := K2.alloc (.cells (payV (pkN r)) 26)
  have C3 := C2.alloc (.cells (payV (pkN r)) 26)
  have B3 := B2.alloc B2.size (.cells (payV (pkN r)) 26)
  clear K1 C1 B1 b2 K2 C2 HP
  cases hc : canB r with
  | true =>
    have e1 : pkE r = 0 := by unfold pkE; rw [hc]; rfl
    have e2 : pkN r = payN r := by unfold pkN; rw [hc]; rfl
    have HR := fun w => refpack_yes r hr hc w
    rw [e1]
    have HE : Hid (pkN r = payN r) := e2
    rw [hc] at HRR
    clear hc e1 e2
    go_wp2_with (first | (with_reducible show wpList _ _ _ (Oper.mk _ (Op.alloc 26) _ _ _ _ :: Oper.mk _ (Op.store 26 _ _) _ _ _ _ :: _) _ _; refine wpList_def rfl rfl rfl rfl rfl zero24 (pay_hi48 (by first | exact HL.out | exact HM.out | assumption | (simp only [zer, List.length_replicate]; done))) (pay_same (n := 48) (by first | exact HL.out | exact HM.out | assumption | (simp only [zer, List.length_replicate]; done)) (by first | exact HL.out | exact HM.out | assumption | (simp only [zer, List.length_replicate]; done))) (payV_one _) rfl ?_; (try simp only [Act.put, List.setIfInBounds_toArray, List.set_cons_zero, List.set_cons_succ, World.size_alloc])) | (with_reducible show wpList _ _ _ (Oper.mk _ (Op.load 25 _) _ _ _ _ :: _) _ _; refine wpList_ld rfl rfl rfl (run_ldB _ _ _ _ (by assumption) (by first | assumption | exact om0_ok)) ?_; (try simp only [Act.put, List.setIfInBounds_toArray, List.set_cons_zero, List.set_cons_succ, World.size_alloc])))
    refine (HR _).mono ?_
    rintro e w4 ⟨a4, c4, rfl, I4, b4⟩
    rw [← HE.out] at I4
    obtain ⟨gb, go, rfl, hgb, _⟩ := I4.cell (k := 0) (x := (pkN r)[0]'(by rw [HM.out]; decide)) (by rw [List.getElem?_eq_getElem])
    have n1 : ∀ w, (binOp .eql 32 (.slice (some ⟨gb, go, none⟩) 48 c4) (.slice none 0 0)).run Try.prog w = .ok (.bool false) w := run_eql_slice_nil _ _ _ _ _ Try.underlying32
    have n2 : ∀ w, (binOp .neq 32 (.slice (some ⟨gb, go, none⟩) 48 c4) (.slice none 0 0)).run Try.prog w = .ok (.bool true) w := run_neq_slice_nil2 _ _ _ _ _ Try.underlying32
    clear HE HR
    have X4 := X3.below b4 X3.lt
    have C4 := C3.below b4 C3.lt
    have B4 : Below w.heap.size w w4 := B3.trans (b4.mono B3.size)
    have K4 := K3.below b4 K3.lt
    clear X3 K3 C3 B3 b4
    go_wp2_with ((with_reducible show wpList _ _ _ (Oper.mk _ (Op.load 26 _) _ _ _ _ :: _) _ _; refine wpList_ld rfl rfl rfl (run_ld24 _ _ _ _ (by assumption) (by first | exact HL.out | exact HM.out | assumption | (simp only [zer, List.length_replicate]; done))) ?_; (try simp only [Act.put, List.setIfInBounds_toArray, List.set_cons_zero, List.set_cons_succ, World.size_alloc])))
    refine (HU _).mono ?_
    rintro e w5 ⟨rfl, b5⟩
    have X5 := X4.below b5 X4.lt
    have C5 := C4.below b5 C4.lt
    have B5 : Below w.heap.size w w5 := B4.trans (b5.mono B4.size)
    have Y6 := bk_new w5 (omV ur) 31
    have X6 := X5.alloc (.cells (omV ur) 31)
    have C6 := C5.alloc (.cells (omV ur) 31)
    have B6 := B5.alloc B5.size (.cells (omV ur) 31)
    have K6 := (K4.below b5 K4.lt).alloc (.cells (omV ur) 31)
    have s5 := b5.size
    clear X4 C4 B4 X5 C5 K4 HU
    go_wp2_with ((with_reducible show wpList _ _ _ (Oper.mk _ (Op.alloc 31) _ _ _ _ :: Oper.mk _ (Op.store 31 _ _) _ _ _ _ :: _) _ _; refine wpList_def rfl rfl rfl rfl rfl zeroA (omV_hiA (by first | assumption | exact om0_ok)) (omV_same (by first | assumption | exact om0_ok) (by first | assumption | exact om0_ok)) (omV_one _) rfl ?_; (try simp only [Act.put, List.setIfInBounds_toArray, List.set_cons_zero, List.set_cons_succ, World.size_alloc])))
    refine (HV _ _ C6).mono ?_
    rintro e w7 ⟨rfl, b7⟩
    have X7 := X6.below b7 X6.lt
    have Y7 := Y6.below b7 Y6.lt
    have B7 : Below w.heap.size w w7 := B6.trans (b7.mono B6.size)
    have K8 := (K6.below b7 K6.lt).alloc (.cells (omV ur) 25)
    have Z8 := bk_new w7 (omV ur) 25
    have X8 := X7.alloc (.cells (omV ur) 25)
    have Y8 := Y7.alloc (.cells (omV ur) 25)
    have B8 := B7.alloc B7.size (.cells (omV ur) 25)
    have s6 : w4.heap.size ≤ (w5.alloc (.cells (omV ur) 31)).heap.size := by rw [World.size_alloc]; omega
    have I8 : IsB w4.heap.size (w7.alloc (.cells (omV ur) 25)) (some ⟨gb, go, none⟩) 48 (pkN r) := ((I4.below b5 (Nat.le_refl _)).below ((Below.refl w5.heap.size w5).alloc (Nat.le_refl _) (.cells (omV ur) 31)) (by omega)).below (b7.trans ((Below.refl w7.heap.size w7).alloc (Nat.le_refl _) (.cells (omV ur) 25) |>.mono b7.size)) s6
    have J8 : IsB (w7.alloc (.cells (omV ur) 25)).heap.size (w7.alloc (.cells (omV ur) 25)) (some ⟨w2.heap.size, 0, none⟩) 48 (pkN r) := by
      have := X8.pay
      rwa [HM.out] at this
    clear X6 C6 Y6 B6 b5 X7 Y7 B7 HV I4 hgb
    have sz : w4.heap.size ≤ w7.heap.size := by have := b7.size; omega
    clear b7 s6
    go_wp2_with (first | (with_reducible show wpList _ _ _ (Oper.mk _ (Op.alloc 25) _ _ _ _ :: Oper.mk _ (Op.store 25 _ _) _ _ _ _ :: _) _ _; refine wpList_def rfl rfl rfl rfl rfl zeroB (omV_hiB (by first | assumption | exact om0_ok)) (omV_same (by first | assumption | exact om0_ok) (by first | assumption | exact om0_ok)) (omV_one _) rfl ?_; (try simp only [Act.put, List.setIfInBounds_toArray, List.set_cons_zero, List.set_cons_succ, World.size_alloc])) | (with_reducible show wpList _ _ _ (Oper.mk _ (Op.load 25 _) _ _ _ _ :: _) _ _; refine wpList_ld rfl rfl rfl (run_ldB _ _ _ _ (by assumption) (by first | assumption | exact om0_ok)) ?_; (try simp only [Act.put, List.setIfInBounds_toArray, List.set_cons_zero, List.set_cons_succ, World.size_alloc])))
    refine (HRR _).mono ?_
    rintro e w9 ⟨rfl, b9⟩
    have Y9 := Y8.below b9 Y8.lt
    have Z9 := Z8.below b9 Z8.lt
    have B9 : Below w.heap.size w w9 := B8.trans (b9.mono B8.size)
    have I9 := I8.below b9 (by rw [World.size_alloc]; omega)
    have J9 := J8.below b9 (Nat.le_refl _)
    have HS := same_calls (some ⟨w2.heap.size, 0, none⟩) (some ⟨gb, go, none⟩) 48 48 48 c4 (pkN r) (pkN r) _ J9 I9 b9.size (by have := b9.size; rw [World.size_alloc] at this; omega) (by decide)
    rw [show (pkN r == pkN r) = true from beq_iff_eq.2 rfl] at HS
    clear X8 Y8 Z8 B8 b9 I8 J8 I9 J9 K8 HRR
    go_wp2_with fail
    refine HS.mono ?_
    rintro e wa ⟨rfl, ba⟩
    have Ya := Y9.below ba Y9.lt
    have Za := Z9.below ba Z9.lt
    have Ba : Below w.heap.size w wa := B9.trans (ba.mono B9.size)
    clear Y9 Z9 B9 ba HS n1 n2
    go_wp2_with (first | (with_reducible show wpList _ _ _ (Oper.mk _ (Op.load 31 _) _ _ _ _ :: _) _ _; refine wpList_ld rfl rfl rfl (run_ldA _ _ _ _ (by assumption) (by first | assumption | exact om0_ok)) ?_; (try simp only [Act.put, List.setIfInBounds_toArray, List.set_cons_zero, List.set_cons_succ, World.size_alloc])) | (with_reducible show wpList _ _ _ (Oper.mk _ (Op.load 25 _) _ _ _ _ :: _) _ _; refine wpList_ld rfl rfl rfl (run_ldB _ _ _ _ (by assumption) (by first | assumption | exact om0_ok)) ?_; (try simp only [Act.put, List.setIfInBounds_toArray, List.set_cons_zero, List.set_cons_succ, World.size_alloc])))
    go_ret
    exact ⟨rfl, Ba⟩
  | false =>
    have e1 : pkE r = 1 := by unfold pkE; rw [hc]; rfl
    have e2 : pkN r = zer 48 := by unfold pkN; rw [hc]; rfl
    have HR := fun w => refpack_no r hr hc w
    rw [e1]
    have HZ : Hid ((zer 48).length = 48) := by simp [Hid, zer]
    have hne : ∀ w, (binOp .neq 26 (.agg (payV (pkN r))) (.agg (payV (zer 48)))).run Try.prog w = .ok (.bool false) w := by
      intro w; rw [e2]; have := neq24 (zer 48) (zer 48) HZ.out HZ.out w; rwa [decide_eq_true rfl] at this
    rw [hc] at HRR
    clear hc e1 e2
    go_wp2_with (first | (with_reducible show wpList _ _ _ (Oper.mk _ (Op.alloc 26) _ _ _ _ :: Oper.mk _ (Op.store 26 _ _) _ _ _ _ :: _) _ _; refine wpList_def rfl rfl rfl rfl rfl zero24 (pay_hi48 (by first | exact HL.out | exact HM.out | assumption | (simp only [zer, List.length_replicate]; done))) (pay_same (n := 48) (by first | exact HL.out | exact HM.out | assumption | (simp only [zer, List.length_replicate]; done)) (by first | exact HL.out | exact HM.out | assumption | (simp only [zer, List.length_replicate]; done))) (payV_one _) rfl ?_; (try simp only [Act.put, List.setIfInBounds_toArray, List.set_cons_zero, List.set_cons_succ, World.size_alloc])) | (with_reducible show wpList _ _ _ (Oper.mk _ (Op.load 25 _) _ _ _ _ :: _) _ _; refine wpList_ld rfl rfl rfl (run_ldB _ _ _ _ (by assumption) (by first | assumption | exact om0_ok)) ?_; (try simp only [Act.put, List.setIfInBounds_toArray, List.set_cons_zero, List.set_cons_succ, World.size_alloc])))
    refine (HR _).mono ?_
    rintro e w4 ⟨rfl, b4⟩
    have n1 : ∀ w, (binOp .eql 32 (.slice none 0 0) (.slice none 0 0)).run Try.prog w = .ok (.bool true) w := run_eql_slice_nil _ _ _ _ _ Try.underlying32
    have n2 : ∀ w, (binOp .neq 32 (.slice none 0 0) (.slice none 0 0)).run Try.prog w = .ok (.bool false) w := run_neq_slice_nil2 _ _ _ _ _ Try.underlying32
    clear HR
    have X4 := X3.below b4 X3.lt
    have C4 := C3.below b4 C3.lt
    have B4 : Below w.heap.size w w4 := B3.trans (b4.mono B3.size)
    have K4 := K3.below b4 K3.lt
    clear X3 K3 C3 B3 b4
    go_wp2_with ((with_reducible show wpList _ _ _ (Oper.mk _ (Op.load 26 _) _ _ _ _ :: _) _ _; refine wpList_ld rfl rfl rfl (run_ld24 _ _ _ _ (by assumption) (by first | exact HL.out | exact HM.out | assumption | (simp only [zer, List.length_replicate]; done))) ?_; (try simp only [Act.put, List.setIfInBounds_toArray, List.set_cons_zero, List.set_cons_succ, World.size_alloc])))
    refine (HU _).mono ?_
    rintro e w5 ⟨rfl, b5⟩
    have X5 := X4.below b5 X4.lt
    have C5 := C4.below b5 C4.lt
    have B5 : Below w.heap.size w w5 := B4.trans (b5.mono B4.size)
    have Y6 := bk_new w5 (omV ur) 31
    have X6 := X5.alloc (.cells (omV ur) 31)
    have C6 := C5.alloc (.cells (omV ur) 31)
    have B6 := B5.alloc B5.size (.cells (omV ur) 31)
    have K6 := (K4.below b5 K4.lt).alloc (.cells (omV ur) 31)
    have s5 := b5.size
    clear X4 C4 B4 X5 C5 K4 HU
    go_wp2_with ((with_reducible show wpList _ _ _ (Oper.mk _ (Op.alloc 31) _ _ _ _ :: Oper.mk _ (Op.store 31 _ _) _ _ _ _ :: _) _ _; refine wpList_def rfl rfl rfl rfl rfl zeroA (omV_hiA (by first | assumption | exact om0_ok)) (omV_same (by first | assumption | exact om0_ok) (by first | assumption | exact om0_ok)) (omV_one _) rfl ?_; (try simp only [Act.put, List.setIfInBounds_toArray, List.set_cons_zero, List.set_cons_succ, World.size_alloc])))
    refine (HV _ _ C6).mono ?_
    rintro e w7 ⟨rfl, b7⟩
    have X7 := X6.below b7 X6.lt
    have Y7 := Y6.below b7 Y6.lt
    have B7 : Below w.heap.size w w7 := B6.trans (b7.mono B6.size)
    have K8 := (K6.below b7 K6.lt).alloc (.cells (omV ur) 25)
    have Z8 := bk_new w7 (omV ur) 25
    have X8 := X7.alloc (.cells (omV ur) 25)
    have Y8 := Y7.alloc (.cells (omV ur) 25)
    have B8 := B7.alloc B7.size (.cells (omV ur) 25)
    clear X6 C6 Y6 B6 b5 b7 X7 Y7 B7 HV
    go_wp2_with (first | (with_reducible show wpList _ _ _ (Oper.mk _ (Op.alloc 25) _ _ _ _ :: Oper.mk _ (Op.store 25 _ _) _ _ _ _ :: _) _ _; refine wpList_def rfl rfl rfl rfl rfl zeroB (omV_hiB (by first | assumption | exact om0_ok)) (omV_same (by first | assumption | exact om0_ok) (by first | assumption | exact om0_ok)) (omV_one _) rfl ?_; (try simp only [Act.put, List.setIfInBounds_toArray, List.set_cons_zero, List.set_cons_succ, World.size_alloc])) | (with_reducible show wpList _ _ _ (Oper.mk _ (Op.load 25 _) _ _ _ _ :: _) _ _; refine wpList_ld rfl rfl rfl (run_ldB _ _ _ _ (by assumption) (by first | assumption | exact om0_ok)) ?_; (try simp only [Act.put, List.setIfInBounds_toArray, List.set_cons_zero, List.set_cons_succ, World.size_alloc])))
    refine (HRR _).mono ?_
    rintro e w9 ⟨rfl, b9⟩
    have X9 := X8.below b9 X8.lt
    have Y9 := Y8.below b9 Y8.lt
    have Z9 := Z8.below b9 Z8.lt
    have B9 : Below w.heap.size w w9 := B8.trans (b9.mono B8.size)
    clear X8 Y8 Z8 B8 b9 K8 HRR
    go_wp2_with (first | (with_reducible show wpList _ _ _ (Oper.mk _ (Op.build 26 _) _ _ _ _ :: _) _ _; refine wpList_bld (vs := []) rfl rfl rfl (run_bz24 _) ?_; (try simp only [Act.put, List.setIfInBounds_toArray, List.set_cons_zero, List.set_cons_succ, World.size_alloc])) | (with_reducible show wpList _ _ _ (Oper.mk _ (Op.load 26 _) _ _ _ _ :: _) _ _; refine wpList_ld rfl rfl rfl (run_ld24 _ _ _ _ (by assumption) (by first | exact HL.out | exact HM.out | assumption | (simp only [zer, List.length_replicate]; done))) ?_; (try simp only [Act.put, List.setIfInBounds_toArray, List.set_cons_zero, List.set_cons_succ, World.size_alloc])) | (with_reducible show wpList _ _ _ (Oper.mk _ (Op.load 31 _) _ _ _ _ :: _) _ _; refine wpList_ld rfl rfl rfl (run_ldA _ _ _ _ (by assumption) (by first | assumption | exact om0_ok)) ?_; (try simp only [Act.put, List.setIfInBounds_toArray, List.set_cons_zero, List.set_cons_succ, World.size_alloc])) | (with_reducible show wpList _ _ _ (Oper.mk _ (Op.load 25 _) _ _ _ _ :: _) _ _; refine wpList_ld rfl rfl rfl (run_ldB _ _ _ _ (by assumption) (by first | assumption | exact om0_ok)) ?_; (try simp only [Act.put, List.setIfInBounds_toArray, List.set_cons_zero, List.set_cons_succ, World.size_alloc])))
    go_ret
    exact ⟨rfl, B9⟩
end Go.Proofs.Ytpjlcmdidhdbcaa
