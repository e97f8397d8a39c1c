/- Proved here: the walk of OamBack. Conditions: as each theorem states them. -/
import Derived.Test.YtpjlcmdidhdbcaaAw
import Derived.Test.YtpjlcmdidhdbcaaOp
import Derived.Test.YtpjlcmdidhdbcaaPay
import Derived.Test.YtpjlcmdidhdbcaaFlip
namespace Go.Proofs.Ytpjlcmdidhdbcaa
set_option linter.unusedSimpArgs false
set_option linter.unusedVariables false
open Go.RowKit

/-- Bytes in a block of the call's own, read as an array of 48. -/
theorem run_ldO (w : World) (base g cap : Nat) (ps : List UInt8) (h : OwnB base w (some ⟨g, 0, none⟩) 48 cap ps) :
    (Instr.loadAt 26 (.pointer (some ⟨g, 0, none⟩))).run Try.prog w = .ok (.agg (payV ps)) w := by
  have hl : 48 = ps.length := h.1
  refine run_loadAt_mid w g 0 26 (vals ps) _ (fun j v hv => ?_) Try.underlying26 rfl (by rw [size24, vals_length, hl])
  obtain ⟨x, hx, rfl⟩ := vals_get hv
  obtain ⟨b', off', e, _, hc⟩ := h.isB.1.cell hx
  cases e
  exact hc j x hx

set_option maxRecDepth 1000000 in
set_option maxHeartbeats 16000000 in
theorem back_walk (r : Om) (hr : r.Ok) (p : List UInt8) (hp : p.length = 48) (bit : Nat) (hbit : bit < 65536) (w : World) :
    Calls Try.prog 5 #[.agg (omV r), .agg (payV p), .int .u16 (bit : Int)] w fun e w' => e = .returned (.bool true) ∧ Below w.heap.size w w' := by
  have K0 := (bk_new w (omV r) 25).alloc (.cells (payV p) 26)
  have C0 := bk_new (w.alloc (.cells (omV r) 25)) (payV p) 26
  rw [World.size_alloc] at C0
  have A0 : Below w.heap.size w ((w.alloc (.cells (omV r) 25)).alloc (.cells (payV p) 26)) := ((Below.refl _ w).alloc (Nat.le_refl _) _).alloc (by simp) _
  have HA := awake_calls ((w.alloc (.cells (omV r) 25)).alloc (.cells (payV p) 26))
  have HP := fun w => pack_calls r hr w
  have HU := fun w => unpack_calls p hp w
  have HW := un_cases hp
  have HL : Hid (p.length = 48) := hp
  have HC : Hid ((unN p).1.Ok ∧ ((unN p).2 = 0 ∧ payN (unN p).1 = p ∧ canB (unN p).1 = true ∨ (unN p).2 ≠ 0 ∧ (unN p).1 = om0)) := HW
  have hpp : ∀ w, (binOp .eql 26 (.agg (payV p)) (.agg (payV p))).run Try.prog w = .ok (.bool true) w := by
    intro w; have := eql24 p p hp hp w; rwa [decide_eq_true rfl] at this
  generalize unN p = u at *
  obtain ⟨ur, ue⟩ := u
  clear hp HW
  go_enter Try.func5, Try.ntmps5
  go_wp2_with fail
  refine HA.mono ?_
  rintro e w1 ⟨rfl, b1⟩
  have K1 := K0.below b1 K0.lt
  have C1 := C0.below b1 C0.lt
  have B1 : Below w.heap.size w w1 := A0.trans (b1.mono (by simp; omega))
  have X2 := bk_new w1 (omV r) 31
  have C2 := C1.alloc (.cells (omV r) 31)
  have B2 := B1.alloc B1.size (.cells (omV r) 31)
  clear K0 C0 A0 b1 HA C1 B1
  go_wp2_with (first | (with_reducible show wpList _ _ _ (Oper.mk _ (Op.load 25 _) _ _ _ _ :: _) _ _; refine wpList_ld rfl rfl rfl (run_ldB _ _ _ _ (by assumption) (by first | assumption | exact om0_ok)) ?_; (try simp only [Act.put, List.setIfInBounds_toArray, List.set_cons_zero, List.set_cons_succ, World.size_alloc])) | (with_reducible show wpList _ _ _ (Oper.mk _ (Op.alloc 31) _ _ _ _ :: Oper.mk _ (Op.store 31 _ _) _ _ _ _ :: _) _ _; refine wpList_def rfl rfl rfl rfl rfl zeroA (omV_hiA (by first | assumption | exact om0_ok)) (omV_same (by first | assumption | exact om0_ok) (by first | assumption | exact om0_ok)) (omV_one _) rfl ?_; (try simp only [Act.put, List.setIfInBounds_toArray, List.set_cons_zero, List.set_cons_succ, World.size_alloc])) | (with_reducible show wpList _ _ _ (Oper.mk _ (Op.load 31 _) _ _ _ _ :: _) _ _; refine wpList_ld rfl rfl rfl (run_ldA _ _ _ _ (by assumption) (by first | assumption | exact om0_ok)) ?_; (try simp only [Act.put, List.setIfInBounds_toArray, List.set_cons_zero, List.set_cons_succ, World.size_alloc])))
  refine (HP _).mono ?_
  rintro e w3 ⟨rfl, b3⟩
  have X3 := X2.below b3 X2.lt
  have C3 := C2.below b3 C2.lt
  have B3 : Below w.heap.size w w3 := B2.trans (b3.mono B2.size)
  clear K1 X2 C2 B2 b3 HP
  cases hc : canB r with
  | true =>
    have e1 : pkE r = 0 := by unfold pkE; rw [hc]; rfl
    have e2 : pkN r = payN r := by unfold pkN; rw [hc]; rfl
    rw [e1, e2]
    have HM : Hid ((payN r).length = 48) := pay_len hr
    have U1 := fun w => unpack_calls (payN r) (pay_len hr) w
    rw [un_pay hr hc] at U1
    obtain ⟨k, hk⟩ : ∃ k, bit % 384 = k := ⟨_, rfl⟩
    have k384 : k < 384 := by omega
    have hki : (bit : Int) % 384 = (k : Int) := by omega
    have hft : sealN (flipN (payN r) k) ≠ flipN (payN r) k := flip_told (lay_len hr) k k384
    have hfl : (flipN (payN r) k).length = 48 := by rw [flipN_length, pay_len hr]
    have U2 := fun w => unpack_calls (flipN (payN r) k) hfl w
    rw [un_sum hft] at U2
    have HS := fun w => sealed_calls (payN r) (pay_len hr) w
    rw [decide_eq_true (pay_sealed hr)] at HS
    have hrr : ∀ w, (binOp .neq 31 (.agg (omV r)) (.agg (omV r))).run Try.prog w = .ok (.bool false) w := by
      intro w; have := neqA r r hr hr w; rwa [eqB_self] at this
    have P4 := bk_new w3 (payV (payN r)) 26
    have X4 := X3.alloc (.cells (payV (payN r)) 26)
    have C4 := C3.alloc (.cells (payV (payN r)) 26)
    have B4 := B3.alloc B3.size (.cells (payV (payN r)) 26)
    have HF : Hid ((flipN (payN r) k).length = 48) := hfl
    have k8 : k < 8 * 48 := by omega
    clear hc e1 e2 hk hft hfl X3 C3
    go_wp2_with (first | (with_reducible show wpList _ _ _ (Oper.mk _ (Op.alloc 26) _ _ _ _ :: Oper.mk _ (Op.store 26 _ _) _ _ _ _ :: _) _ _; refine wpList_def rfl rfl rfl rfl rfl zero24 (pay_hi48 (by first | exact HL.out | exact HM.out | assumption | (simp only [zer, List.length_replicate]; done))) (pay_same (n := 48) (by first | exact HL.out | exact HM.out | assumption | (simp only [zer, List.length_replicate]; done)) (by first | exact HL.out | exact HM.out | assumption | (simp only [zer, List.length_replicate]; done))) (payV_one _) rfl ?_; (try simp only [Act.put, List.setIfInBounds_toArray, List.set_cons_zero, List.set_cons_succ, World.size_alloc])) | (with_reducible show wpList _ _ _ (Oper.mk _ (Op.load 26 _) _ _ _ _ :: _) _ _; refine wpList_ld rfl rfl rfl (run_ld24 _ _ _ _ (by assumption) (by first | exact HL.out | exact HM.out | assumption | (simp only [zer, List.length_replicate]; done))) ?_; (try simp only [Act.put, List.setIfInBounds_toArray, List.set_cons_zero, List.set_cons_succ, World.size_alloc])))
    refine (U1 _).mono ?_
    rintro e w5 ⟨rfl, b5⟩
    have P5 := P4.below b5 P4.lt
    have X5 := X4.below b5 X4.lt
    have C5 := C4.below b5 C4.lt
    have B5 : Below w.heap.size w w5 := B4.trans (b5.mono B4.size)
    have Y6 := bk_new w5 (omV r) 31
    have P6 := P5.alloc (.cells (omV r) 31)
    have X6 := X5.alloc (.cells (omV r) 31)
    have C6 := C5.alloc (.cells (omV r) 31)
    have B6 := B5.alloc B5.size (.cells (omV r) 31)
    have I6 : IsB (w5.alloc (.cells (omV r) 31)).heap.size (w5.alloc (.cells (omV r) 31)) (some ⟨w3.heap.size, 0, none⟩) 48 (payN r) := by
      have := P6.pay
      rwa [HM.out] at this
    have HQ := flip_calls (some ⟨w3.heap.size, 0, none⟩) 48 48 (payN r) _ I6 (Nat.le_refl _) (by intro h; cases h) (by decide) k k8
    clear P4 X4 C4 B4 b5 P5 X5 C5 U1 I6
    go_wp2_with ((with_reducible show wpList _ _ _ (Oper.mk _ (Op.alloc 31) _ _ _ _ :: Oper.mk _ (Op.store 31 _ _) _ _ _ _ :: _) _ _; refine wpList_def rfl rfl rfl rfl rfl zeroA (omV_hiA (by first | assumption | exact om0_ok)) (omV_same (by first | assumption | exact om0_ok) (by first | assumption | exact om0_ok)) (omV_one _) rfl ?_; (try simp only [Act.put, List.setIfInBounds_toArray, List.set_cons_zero, List.set_cons_succ, World.size_alloc])))
    refine HQ.mono ?_
    rintro e w7 ⟨a7, c7, rfl, o7, b7⟩
    obtain ⟨g7, cur7, rfl, hg7, hs7, _⟩ := o7.block (by decide)
    have P7 := P6.below b7 P6.lt
    have X7 := X6.below b7 X6.lt
    have C7 := C6.below b7 C6.lt
    have Y7 := Y6.below b7 Y6.lt
    have B7 : Below w.heap.size w w7 := B6.trans (b7.mono B6.size)
    have HR := run_ldO _ _ _ _ _ o7
    have art := fun (w : World) (a : Option Addr) (cap : Nat) => run_arrayAt (P := Try.prog) (w := w) 26 5 48 a 48 cap Try.underlying26 (Nat.le_refl _)
    clear P6 X6 C6 Y6 B6 b7 HQ o7 hg7 hs7
    go_wp2_with (with_reducible show wpList _ _ _ (Oper.mk _ (Op.load 26 _) _ _ _ _ :: _) _ _; refine wpList_ld rfl rfl rfl HR ?_; (try simp only [Act.put, List.setIfInBounds_toArray, List.set_cons_zero, List.set_cons_succ, World.size_alloc]))
    refine (U2 _).mono ?_
    rintro e w8 ⟨rfl, b8⟩
    have P8 := P7.below b8 P7.lt
    have X8 := X7.below b8 X7.lt
    have C8 := C7.below b8 C7.lt
    have Y8 := Y7.below b8 Y7.lt
    have B8 : Below w.heap.size w w8 := B7.trans (b8.mono B7.size)
    have P9 := P8.alloc (.cells (omV om0) 31)
    have X9 := X8.alloc (.cells (omV om0) 31)
    have C9 := C8.alloc (.cells (omV om0) 31)
    have Y9 := Y8.alloc (.cells (omV om0) 31)
    have B9 := B8.alloc B8.size (.cells (omV om0) 31)
    clear P7 X7 C7 Y7 B7 b8 HR art P8 X8 C8 Y8 U2
    go_wp2_with (first | (with_reducible show wpList _ _ _ (Oper.mk _ (Op.alloc 31) _ _ _ _ :: Oper.mk _ (Op.store 31 _ _) _ _ _ _ :: _) _ _; refine wpList_def rfl rfl rfl rfl rfl zeroA (omV_hiA (by first | assumption | exact om0_ok)) (omV_same (by first | assumption | exact om0_ok) (by first | assumption | exact om0_ok)) (omV_one _) rfl ?_; (try simp only [Act.put, List.setIfInBounds_toArray, List.set_cons_zero, List.set_cons_succ, World.size_alloc])) | (with_reducible show wpList _ _ _ (Oper.mk _ (Op.load 31 _) _ _ _ _ :: _) _ _; refine wpList_ld rfl rfl rfl (run_ldA _ _ _ _ (by assumption) (by first | assumption | exact om0_ok)) ?_; (try simp only [Act.put, List.setIfInBounds_toArray, List.set_cons_zero, List.set_cons_succ, World.size_alloc])) | (with_reducible show wpList _ _ _ (Oper.mk _ (Op.load 26 _) _ _ _ _ :: _) _ _; refine wpList_ld rfl rfl rfl (run_ld24 _ _ _ _ (by assumption) (by first | exact HL.out | exact HM.out | assumption | (simp only [zer, List.length_replicate]; done))) ?_; (try simp only [Act.put, List.setIfInBounds_toArray, List.set_cons_zero, List.set_cons_succ, World.size_alloc])))
    refine (HS _).mono ?_
    rintro e wa ⟨rfl, ba⟩
    have C3 := C9.below ba C9.lt
    have B3 : Below w.heap.size w wa := B9.trans (ba.mono B9.size)
    clear P9 X9 C9 Y9 B9 ba HS HF HM hrr
    go_wp2_with (first | (with_reducible show wpList _ _ _ (Oper.mk _ (Op.alloc 26) _ _ _ _ :: Oper.mk _ (Op.store 26 _ _) _ _ _ _ :: _) _ _; refine wpList_def rfl rfl rfl rfl rfl zero24 (pay_hi48 (by first | exact HL.out | exact HM.out | assumption | (simp only [zer, List.length_replicate]; done))) (pay_same (n := 48) (by first | exact HL.out | exact HM.out | assumption | (simp only [zer, List.length_replicate]; done)) (by first | exact HL.out | exact HM.out | assumption | (simp only [zer, List.length_replicate]; done))) (payV_one _) rfl ?_; (try simp only [Act.put, List.setIfInBounds_toArray, List.set_cons_zero, List.set_cons_succ, World.size_alloc])) | (with_reducible show wpList _ _ _ (Oper.mk _ (Op.load 26 _) _ _ _ _ :: _) _ _; refine wpList_ld rfl rfl rfl (run_ld24 _ _ _ _ (by assumption) (by first | exact HL.out | exact HM.out | assumption | (simp only [zer, List.length_replicate]; done))) ?_; (try simp only [Act.put, List.setIfInBounds_toArray, List.set_cons_zero, List.set_cons_succ, World.size_alloc])))
    refine (HU _).mono ?_
    rintro e wb ⟨rfl, bb⟩
    have Cb := C3.below bb C3.lt
    have Bb : Below w.heap.size w wb := B3.trans (bb.mono B3.size)
    have Zc := bk_new wb (omV ur) 31
    have Cc := Cb.alloc (.cells (omV ur) 31)
    have Bc := Bb.alloc Bb.size (.cells (omV ur) 31)
    clear C3 B3 bb Cb HU
    obtain ⟨hok, hu⟩ := HC.out
    rcases hu with ⟨h0, h1, h2⟩ | ⟨h0, h1⟩
    · have h0' : ue = 0 := h0
      have h1' : payN ur = p := h1
      subst h0'
      have HZ := fun w => pack_calls ur hok w
      have HRZ := fun w => right_calls ur hok w
      rw [show canB ur = true from h2] at HRZ
      have e3 : pkE ur = 0 := by unfold pkE; rw [show canB ur = true from h2]; rfl
      have e4 : pkN ur = p := by unfold pkN; rw [show canB ur = true from h2, if_pos rfl]; exact h1'
      rw [e3, e4] at HZ
      clear h0 h1 h2 h1' e3 e4 HC
      go_wp2_with (first | (with_reducible show wpList _ _ _ (Oper.mk _ (Op.alloc 31) _ _ _ _ :: Oper.mk _ (Op.store 31 _ _) _ _ _ _ :: _) _ _; refine wpList_def rfl rfl rfl rfl rfl zeroA (omV_hiA (by first | assumption | exact om0_ok)) (omV_same (by first | assumption | exact om0_ok) (by first | assumption | exact om0_ok)) (omV_one _) rfl ?_; (try simp only [Act.put, List.setIfInBounds_toArray, List.set_cons_zero, List.set_cons_succ, World.size_alloc])) | (with_reducible show wpList _ _ _ (Oper.mk _ (Op.load 31 _) _ _ _ _ :: _) _ _; refine wpList_ld rfl rfl rfl (run_ldA _ _ _ _ (by assumption) (by first | assumption | exact om0_ok)) ?_; (try simp only [Act.put, List.setIfInBounds_toArray, List.set_cons_zero, List.set_cons_succ, World.size_alloc])))
      refine (HZ _).mono ?_
      rintro e wd ⟨rfl, bd⟩
      have Cd := Cc.below bd Cc.lt
      have Bd : Below w.heap.size w wd := Bc.trans (bd.mono Bc.size)
      have Zd := Zc.below bd Zc.lt
      have Pe := bk_new wd (payV p) 26
      have Ce := Cd.alloc (.cells (payV p) 26)
      have Ze := Zd.alloc (.cells (payV p) 26)
      have Be := Bd.alloc Bd.size (.cells (payV p) 26)
      clear Cc Bc bd Cd Zc Zd HZ
      go_wp2_with (first | (with_reducible show wpList _ _ _ (Oper.mk _ (Op.alloc 26) _ _ _ _ :: Oper.mk _ (Op.store 26 _ _) _ _ _ _ :: _) _ _; refine wpList_def rfl rfl rfl rfl rfl zero24 (pay_hi48 (by first | exact HL.out | exact HM.out | assumption | (simp only [zer, List.length_replicate]; done))) (pay_same (n := 48) (by first | exact HL.out | exact HM.out | assumption | (simp only [zer, List.length_replicate]; done)) (by first | exact HL.out | exact HM.out | assumption | (simp only [zer, List.length_replicate]; done))) (payV_one _) rfl ?_; (try simp only [Act.put, List.setIfInBounds_toArray, List.set_cons_zero, List.set_cons_succ, World.size_alloc])) | (with_reducible show wpList _ _ _ (Oper.mk _ (Op.load 26 _) _ _ _ _ :: _) _ _; refine wpList_ld rfl rfl rfl (run_ld24 _ _ _ _ (by assumption) (by first | exact HL.out | exact HM.out | assumption | (simp only [zer, List.length_replicate]; done))) ?_; (try simp only [Act.put, List.setIfInBounds_toArray, List.set_cons_zero, List.set_cons_succ, World.size_alloc])) | (with_reducible show wpList _ _ _ (Oper.mk _ (Op.load 31 _) _ _ _ _ :: _) _ _; refine wpList_ld rfl rfl rfl (run_ldA _ _ _ _ (by assumption) (by first | assumption | exact om0_ok)) ?_; (try simp only [Act.put, List.setIfInBounds_toArray, List.set_cons_zero, List.set_cons_succ, World.size_alloc])))
      refine (HRZ _).mono ?_
      rintro e wf ⟨rfl, bf⟩
      go_wp2
      go_ret
      exact ⟨rfl, Be.trans (bf.mono Be.size)⟩
    · have h1' : ur = om0 := h1
      have h0' : ue ≠ 0 := h0
      subst h1'
      have hne : ((ue : Int) != 0) = true := by rw [bne_iff_ne]; omega
      have hzz : ∀ w, (binOp .eql 31 (.agg (omV om0)) (.agg (omV om0))).run Try.prog w = .ok (.bool true) w := by
        intro w; have := eqlA om0 om0 om0_ok om0_ok w; rwa [eqB_self] at this
      clear h0 h1 h0' HC
      go_wp2_with (first | (with_reducible show wpList _ _ _ (Oper.mk _ (Op.alloc 31) _ _ _ _ :: Oper.mk _ (Op.store 31 _ _) _ _ _ _ :: _) _ _; refine wpList_def rfl rfl rfl rfl rfl zeroA (omV_hiA (by first | assumption | exact om0_ok)) (omV_same (by first | assumption | exact om0_ok) (by first | assumption | exact om0_ok)) (omV_one _) rfl ?_; (try simp only [Act.put, List.setIfInBounds_toArray, List.set_cons_zero, List.set_cons_succ, World.size_alloc])) | (with_reducible show wpList _ _ _ (Oper.mk _ (Op.load 31 _) _ _ _ _ :: _) _ _; refine wpList_ld rfl rfl rfl (run_ldA _ _ _ _ (by assumption) (by first | assumption | exact om0_ok)) ?_; (try simp only [Act.put, List.setIfInBounds_toArray, List.set_cons_zero, List.set_cons_succ, World.size_alloc])) | (with_reducible show wpList _ _ _ (Oper.mk _ (Op.build 31 _) _ _ _ _ :: _) _ _; refine wpList_bld (vs := []) rfl rfl rfl (run_bzA _) ?_; (try simp only [Act.put, List.setIfInBounds_toArray, List.set_cons_zero, List.set_cons_succ, World.size_alloc])))
      go_ret
      exact ⟨rfl, Bc⟩
  | false =>
    have e1 : pkE r = 1 := by unfold pkE; rw [hc]; rfl
    rw [e1]
    have HM : Hid ((pkN r).length = 48) := pk_len hr
    have C4 := C3.alloc (.cells (payV (pkN r)) 26)
    have B4 := B3.alloc B3.size (.cells (payV (pkN r)) 26)
    clear hc e1 X3 C3 B3
    have C3 := C4
    have B3 := B4
    clear C4 B4
    go_wp2_with (first | (with_reducible show wpList _ _ _ (Oper.mk _ (Op.alloc 26) _ _ _ _ :: Oper.mk _ (Op.store 26 _ _) _ _ _ _ :: _) _ _; refine wpList_def rfl rfl rfl rfl rfl zero24 (pay_hi48 (by first | exact HL.out | exact HM.out | assumption | (simp only [zer, List.length_replicate]; done))) (pay_same (n := 48) (by first | exact HL.out | exact HM.out | assumption | (simp only [zer, List.length_replicate]; done)) (by first | exact HL.out | exact HM.out | assumption | (simp only [zer, List.length_replicate]; done))) (payV_one _) rfl ?_; (try simp only [Act.put, List.setIfInBounds_toArray, List.set_cons_zero, List.set_cons_succ, World.size_alloc])) | (with_reducible show wpList _ _ _ (Oper.mk _ (Op.load 26 _) _ _ _ _ :: _) _ _; refine wpList_ld rfl rfl rfl (run_ld24 _ _ _ _ (by assumption) (by first | exact HL.out | exact HM.out | assumption | (simp only [zer, List.length_replicate]; done))) ?_; (try simp only [Act.put, List.setIfInBounds_toArray, List.set_cons_zero, List.set_cons_succ, World.size_alloc])))
    refine (HU _).mono ?_
    rintro e wb ⟨rfl, bb⟩
    have Cb := C3.below bb C3.lt
    have Bb : Below w.heap.size w wb := B3.trans (bb.mono B3.size)
    have Zc := bk_new wb (omV ur) 31
    have Cc := Cb.alloc (.cells (omV ur) 31)
    have Bc := Bb.alloc Bb.size (.cells (omV ur) 31)
    clear C3 B3 bb Cb HU
    obtain ⟨hok, hu⟩ := HC.out
    rcases hu with ⟨h0, h1, h2⟩ | ⟨h0, h1⟩
    · have h0' : ue = 0 := h0
      have h1' : payN ur = p := h1
      subst h0'
      have HZ := fun w => pack_calls ur hok w
      have HRZ := fun w => right_calls ur hok w
      rw [show canB ur = true from h2] at HRZ
      have e3 : pkE ur = 0 := by unfold pkE; rw [show canB ur = true from h2]; rfl
      have e4 : pkN ur = p := by unfold pkN; rw [show canB ur = true from h2, if_pos rfl]; exact h1'
      rw [e3, e4] at HZ
      clear h0 h1 h2 h1' e3 e4 HC
      go_wp2_with (first | (with_reducible show wpList _ _ _ (Oper.mk _ (Op.alloc 31) _ _ _ _ :: Oper.mk _ (Op.store 31 _ _) _ _ _ _ :: _) _ _; refine wpList_def rfl rfl rfl rfl rfl zeroA (omV_hiA (by first | assumption | exact om0_ok)) (omV_same (by first | assumption | exact om0_ok) (by first | assumption | exact om0_ok)) (omV_one _) rfl ?_; (try simp only [Act.put, List.setIfInBounds_toArray, List.set_cons_zero, List.set_cons_succ, World.size_alloc])) | (with_reducible show wpList _ _ _ (Oper.mk _ (Op.load 31 _) _ _ _ _ :: _) _ _; refine wpList_ld rfl rfl rfl (run_ldA _ _ _ _ (by assumption) (by first | assumption | exact om0_ok)) ?_; (try simp only [Act.put, List.setIfInBounds_toArray, List.set_cons_zero, List.set_cons_succ, World.size_alloc])))
      refine (HZ _).mono ?_
      rintro e wd ⟨rfl, bd⟩
      have Cd := Cc.below bd Cc.lt
      have Bd : Below w.heap.size w wd := Bc.trans (bd.mono Bc.size)
      have Zd := Zc.below bd Zc.lt
      have Pe := bk_new wd (payV p) 26
      have Ce := Cd.alloc (.cells (payV p) 26)
      have Ze := Zd.alloc (.cells (payV p) 26)
      have Be := Bd.alloc Bd.size (.cells (payV p) 26)
      clear Cc Bc bd Cd Zc Zd HZ
      go_wp2_with (first | (with_reducible show wpList _ _ _ (Oper.mk _ (Op.alloc 26) _ _ _ _ :: Oper.mk _ (Op.store 26 _ _) _ _ _ _ :: _) _ _; refine wpList_def rfl rfl rfl rfl rfl zero24 (pay_hi48 (by first | exact HL.out | exact HM.out | assumption | (simp only [zer, List.length_replicate]; done))) (pay_same (n := 48) (by first | exact HL.out | exact HM.out | assumption | (simp only [zer, List.length_replicate]; done)) (by first | exact HL.out | exact HM.out | assumption | (simp only [zer, List.length_replicate]; done))) (payV_one _) rfl ?_; (try simp only [Act.put, List.setIfInBounds_toArray, List.set_cons_zero, List.set_cons_succ, World.size_alloc])) | (with_reducible show wpList _ _ _ (Oper.mk _ (Op.load 26 _) _ _ _ _ :: _) _ _; refine wpList_ld rfl rfl rfl (run_ld24 _ _ _ _ (by assumption) (by first | exact HL.out | exact HM.out | assumption | (simp only [zer, List.length_replicate]; done))) ?_; (try simp only [Act.put, List.setIfInBounds_toArray, List.set_cons_zero, List.set_cons_succ, World.size_alloc])) | (with_reducible show wpList _ _ _ (Oper.mk _ (Op.load 31 _) _ _ _ _ :: _) _ _; refine wpList_ld rfl rfl rfl (run_ldA _ _ _ _ (by assumption) (by first | assumption | exact om0_ok)) ?_; (try simp only [Act.put, List.setIfInBounds_toArray, List.set_cons_zero, List.set_cons_succ, World.size_alloc])))
      refine (HRZ _).mono ?_
      rintro e wf ⟨rfl, bf⟩
      go_wp2
      go_ret
      exact ⟨rfl, Be.trans (bf.mono Be.size)⟩
    · have h1' : ur = om0 := h1
      have h0' : ue ≠ 0 := h0
      subst h1'
      have hne : ((ue : Int) != 0) = true := by rw [bne_iff_ne]; omega
      have hzz : ∀ w, (binOp .eql 31 (.agg (omV om0)) (.agg (omV om0))).run Try.prog w = .ok (.bool true) w := by
        intro w; have := eqlA om0 om0 om0_ok om0_ok w; rwa [eqB_self] at this
      clear h0 h1 h0' HC
      go_wp2_with (first | (with_reducible show wpList _ _ _ (Oper.mk _ (Op.alloc 31) _ _ _ _ :: Oper.mk _ (Op.store 31 _ _) _ _ _ _ :: _) _ _; refine wpList_def rfl rfl rfl rfl rfl zeroA (omV_hiA (by first | assumption | exact om0_ok)) (omV_same (by first | assumption | exact om0_ok) (by first | assumption | exact om0_ok)) (omV_one _) rfl ?_; (try simp only [Act.put, List.setIfInBounds_toArray, List.set_cons_zero, List.set_cons_succ, World.size_alloc])) | (with_reducible show wpList _ _ _ (Oper.mk _ (Op.load 31 _) _ _ _ _ :: _) _ _; refine wpList_ld rfl rfl rfl (run_ldA _ _ _ _ (by assumption) (by first | assumption | exact om0_ok)) ?_; (try simp only [Act.put, List.setIfInBounds_toArray, List.set_cons_zero, List.set_cons_succ, World.size_alloc])) | (with_reducible show wpList _ _ _ (Oper.mk _ (Op.build 31 _) _ _ _ _ :: _) _ _; refine wpList_bld (vs := []) rfl rfl rfl (run_bzA _) ?_; (try simp only [Act.put, List.setIfInBounds_toArray, List.set_cons_zero, List.set_cons_succ, World.size_alloc])))
      go_ret
      exact ⟨rfl, Bc⟩
end Go.Proofs.Ytpjlcmdidhdbcaa
