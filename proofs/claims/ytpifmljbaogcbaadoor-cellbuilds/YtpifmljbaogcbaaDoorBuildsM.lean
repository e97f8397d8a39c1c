/- Proved here: the texts BuildsW, BuildsX, HLaid, HOpen, in one. Conditions: as each theorem states them. -/
import Derived.Test.YtpifmljbaogcbaaDoorCBase
import Derived.Test.YtpifmljbaogcbaaDoorCRefB
import Derived.Test.YtpifmljbaogcbaaDoorHRefR
import Derived.Test.YtpifmljbaogcbaaDoorHRefKind
import Derived.Test.YtpifmljbaogcbaaDoorRows
import Derived.Test.YtpifmljbaogcbaaDoorHLay
import Derived.Lib.LaidTab
import Derived.LaidMore
import Derived.LaidHandle
import Derived.MakeChecks
import Derived.Stop.LaidErr
import Derived.OpenShut
import Derived.WideShapes
/- Proved here: the walk of CellBuilds. Conditions: as each theorem states them. -/
namespace Go.Proofs.YtpifmljbaogcbaaDoor
set_option linter.unusedSimpArgs false
set_option linter.unusedVariables false
open Go.RowKit
open H (Tab rightB bytesN same_calls kindN refright_calls refkind_calls)

theorem isB_nil (n : Nat) (W : World) : IsB n W none 0 [] := ⟨rfl, .inl rfl⟩

set_option maxRecDepth 20000 in
set_option maxHeartbeats 8000000 in
theorem builds_rt (g p v t c : Int) (ps : List UInt8) (hp : ps.length = 48) (nni : Bool) (w : World) (tab : Tab w) (hr : rightB nni g p v t c = true) (hk : (kindN p v t c == 2) = true) :
    Calls Tryd.prog 3 #[.agg (hdrV g p v t c), .agg (payV ps), .bool nni] w fun e w' => e = .returned (.bool true) ∧ Below w.heap.size w w' := by
  have HL : Hid (ps.length = 48) := hp
  have HR : Hid (rightB nni g p v t c = true) := hr
  have HM : Hid ((sealN ps).length = 48) := (sealN_length ps).trans hp
  obtain ⟨kk, hkk⟩ : ∃ kk, kindN p v t c = kk := ⟨_, rfl⟩
  have HK : Hid (kindN p v t c = kk) := hkk
  have HE : Hid (emptyB p v t c = (kk == 2 || kk == 3)) := by rw [Hid, emptyB, hkk]
  rw [hkk] at hk
  obtain ⟨b3, hb3⟩ : ∃ b3, (kk == 3) = b3 := ⟨_, rfl⟩
  have HE' : Hid (emptyB p v t c = true) := by rw [Hid, HE.out, hk, hb3]; rfl
  obtain ⟨db, hdb⟩ : ∃ db, decide (sealN ps = ps) = db := ⟨_, rfl⟩
  have HD : Hid (decide (sealN ps = ps) = db) := hdb
  have HD2 : Hid ((ps == sealN ps) = db) := by
    rw [Hid, ← hdb]
    by_cases h : sealN ps = ps
    · rw [h]; simp
    · rw [decide_eq_false h, beq_eq_false_iff_ne]; exact fun e => h e.symm
  obtain ⟨n, hn⟩ : ∃ n : Nat, H.word g p v t c = (n : Int) := ⟨(H.word g p v t c).toNat, by have := H.word_lt hr; omega⟩
  have HN : Hid (H.word g p v t c = (n : Int)) := hn
  obtain ⟨x0, x1, x2, x3, hx⟩ := four_of n
  have HX : Hid (bytesN n = [x0, x1, x2, x3]) := hx
  clear hn hx
  have K0 := (bk_new w (hdrV g p v t c) 23).alloc (.cells (payV ps) 24)
  have P0 := bk_new (w.alloc (.cells (hdrV g p v t c) 23)) (payV ps) 24
  have A0 : Below w.heap.size w ((w.alloc (.cells (hdrV g p v t c) 23)).alloc (.cells (payV ps) 24)) := ((Below.refl _ w).alloc (Nat.le_refl _) _).alloc (by simp) _
  rw [World.size_alloc] at P0
  clear hp hr hkk hdb
  go_enter Tryd.func3, Tryd.ntmps3
  go_wp2_with fail
  refine (awake_calls _ (tab.below A0 tab.1)).mono ?_
  rintro e w1 ⟨rfl, b1⟩
  have K1 := K0.below b1 K0.lt
  have P1 := P0.below b1 P0.lt
  have B0 := A0.trans (b1.mono A0.size)
  clear K0 P0 A0 b1
  go_wp2_with (first | (with_reducible show wpList _ _ _ (Oper.mk _ (Op.load 23 _) _ _ _ _ :: _) _ _; refine wpList_ld rfl rfl rfl (run_ld23 _ _ _ _ _ _ _ _ (by assumption)) ?_; (try simp only [Act.put, List.setIfInBounds_toArray, List.set_cons_zero, List.set_cons_succ, World.size_alloc])) | (with_reducible show wpList _ _ _ (Oper.mk _ (Op.load 24 _) _ _ _ _ :: _) _ _; refine wpList_ld rfl rfl rfl (run_ld24 _ _ _ _ (by assumption) (by first | exact HL.out | exact HM.out)) ?_; (try simp only [Act.put, List.setIfInBounds_toArray, List.set_cons_zero, List.set_cons_succ, World.size_alloc])) | (with_reducible show wpList _ _ _ (Oper.mk _ (Op.build 27 _) _ _ _ _ :: _) _ _; refine wpList_bldf rfl (by first | exact HL.out | exact HM.out) rfl rfl rfl ?_; (try simp only [Act.put, List.setIfInBounds_toArray, List.set_cons_zero, List.set_cons_succ, World.size_alloc])) | ((with_reducible show wpList _ _ _ (Oper.mk _ (Op.alloc 27) _ _ _ _ :: Oper.mk _ (Op.store 27 _ _) _ _ _ _ :: _) _ _; refine wpList_defL rfl rfl rfl rfl rfl zero27 (by rw [size27, cellV_size]; (try simp only [Option.some.injEq, zer, List.length_replicate]) <;> first | rfl | (have := HL.out; omega) | (have := HM.out; omega)) (by first | rfl | (simp only [cellV_size]; done) | (rw [cellV_size, cellV_size]; (try simp only [zer, List.length_replicate]) <;> first | rfl | (have := HL.out; omega) | (have := HM.out; omega) | (have := HL.out; have := HM.out; omega))) (cellV_one _ _ _ _ _ _) rfl ?_); intro W1 C1 b1 z1; have K1' := K1.below b1 K1.lt; have P1' := P1.below b1 P1.lt; clear K1 P1; try simp only [Act.put, List.setIfInBounds_toArray, List.set_cons_zero, List.set_cons_succ]) | (with_reducible show wpList _ _ _ (Oper.mk _ (Op.load 27 _) _ _ _ _ :: _) _ _; refine wpList_ld rfl rfl rfl (run_ld27 _ _ _ _ _ _ _ _ _ (by assumption) (by first | exact HL.out | exact HM.out)) ?_; (try simp only [Act.put, List.setIfInBounds_toArray, List.set_cons_zero, List.set_cons_succ, World.size_alloc])))
  have B1 := B0.trans (b1.mono B0.size)
  clear B0 b1 z1
  refine (build_yes nni g p v t c n x0 x1 x2 x3 ps HL.out _ (tab.below B1 tab.1) HR.out HN.out HX.out).mono ?_
  rintro e w2 ⟨a2, c2, rfl, o2, b2⟩
  obtain ⟨ga, cur, rfl, _, _, _⟩ := o2.block (by decide)
  have I2 := o2.isB.1
  clear o2
  have K2 := K1'.below b2 K1'.lt
  have P2 := P1'.below b2 P1'.lt
  have C2 := C1.below b2 C1.lt
  have B2 := B1.trans (b2.mono B1.size)
  clear K1' P1' C1 B1 b2
  go_wp2_with (first | (with_reducible show wpList _ _ _ (Oper.mk _ (Op.load 23 _) _ _ _ _ :: _) _ _; refine wpList_ld rfl rfl rfl (run_ld23 _ _ _ _ _ _ _ _ (by assumption)) ?_; (try simp only [Act.put, List.setIfInBounds_toArray, List.set_cons_zero, List.set_cons_succ, World.size_alloc])))
  refine (refright_calls nni g p v t c _).mono ?_
  rintro e w3 ⟨rfl, b3'⟩
  rw [HR.out]
  have K3 := K2.below b3' K2.lt
  have P3 := P2.below b3' P2.lt
  have C3 := C2.below b3' C2.lt
  have B3 := B2.trans (b3'.mono B2.size)
  have I3 := (I2.below b3' (Nat.le_refl _)).mono b3'.size
  clear I2
  clear K2 P2 C2 B2 b3'
  go_wp2_with (first | (with_reducible show wpList _ _ _ (Oper.mk _ (Op.load 24 _) _ _ _ _ :: _) _ _; refine wpList_ld rfl rfl rfl (run_ld24 _ _ _ _ (by assumption) (by first | exact HL.out | exact HM.out)) ?_; (try simp only [Act.put, List.setIfInBounds_toArray, List.set_cons_zero, List.set_cons_succ, World.size_alloc])))
  refine (cseal_calls ps HL.out _).mono ?_
  rintro e w4 ⟨rfl, b4⟩
  have K4 := K3.below b4 K3.lt
  have P4 := P3.below b4 P3.lt
  have C4 := C3.below b4 C3.lt
  have B4 := B3.trans (b4.mono B3.size)
  have I4 := (I3.below b4 (Nat.le_refl _)).mono b4.size
  clear I3
  clear K3 P3 C3 B3 b4
  go_wp2_with (first | ((with_reducible show wpList _ _ _ (Oper.mk _ (Op.alloc 24) _ _ _ _ :: Oper.mk _ (Op.store 24 _ _) _ _ _ _ :: _) _ _; refine wpList_defL rfl rfl rfl rfl rfl zero24 (by rw [size24, payV_size]; (try simp only [Option.some.injEq, zer, List.length_replicate]) <;> first | rfl | (have := HL.out; omega) | (have := HM.out; omega)) (by first | rfl | (simp only [payV_size]; done) | (rw [payV_size, payV_size]; (try simp only [zer, List.length_replicate]) <;> first | rfl | (have := HL.out; omega) | (have := HM.out; omega) | (have := HL.out; have := HM.out; omega))) (payV_one _) rfl ?_); intro W5 S5 b5 z5; have K5 := K4.below b5 K4.lt; have P5 := P4.below b5 P4.lt; have C5 := C4.below b5 C4.lt; clear K4 P4 C4; try simp only [Act.put, List.setIfInBounds_toArray, List.set_cons_zero, List.set_cons_succ]) | (with_reducible show wpList _ _ _ (Oper.mk _ (Op.load 23 _) _ _ _ _ :: _) _ _; refine wpList_ld rfl rfl rfl (run_ld23 _ _ _ _ _ _ _ _ (by assumption)) ?_; (try simp only [Act.put, List.setIfInBounds_toArray, List.set_cons_zero, List.set_cons_succ, World.size_alloc])))
  have B5 := B4.trans (b5.mono B4.size)
  have I5 := (I4.below b5 (Nat.le_refl _)).mono b5.size
  clear I4
  clear B4 b5
  refine (refkind_calls g p v t c _).mono ?_
  rintro e w6 ⟨rfl, b6⟩
  rw [HK.out]
  have K6 := K5.below b6 K5.lt
  have P6 := P5.below b6 P5.lt
  have C6 := C5.below b6 C5.lt
  have S6 := S5.below b6 S5.lt
  have B6 := B5.trans (b6.mono B5.size)
  have I6 := (I5.below b6 (Nat.le_refl _)).mono b6.size
  clear I5
  have IP := P6.pay
  rw [HL.out] at IP
  have IS := S6.pay
  rw [HM.out] at IS
  clear K5 P5 C5 S5 B5 b6
  go_wp2
  refine wp_region_held_drew (S := (fun w' => Below w6.heap.size w6 w')) (by kernel_rfl) (Below.refl _ w6).drew (fun hHeld => ?_)
  refine wpAnyH_take (i := 0) (oi := ({ dst := some 31, op := Op.move (Operand.tmp 8), type := 28, pos := _, after := #[], guard := none } : Oper)) (v := ?_) rfl (by kernel_rfl) (by kernel_rfl) (by kernel_rfl) (fun _ _ _ h => h) (Or.inl ⟨by rfl, ?_⟩) hHeld ?_
  rotate_left
  · (intro w hS; go_simp; try with_reducible rfl)
  try simp only [Act.put, List.setIfInBounds_toArray, List.set_cons_zero, List.set_cons_succ]
  refine wpAnyH_take (i := 1) (oi := ({ dst := some 32, op := Op.load 23 (Operand.tmp 3), type := 23, pos := _, after := #[], guard := none } : Oper))  rfl (by kernel_rfl) (by kernel_rfl) (by kernel_rfl) (fun _ _ _ h => h) (yields_ld rfl rfl rfl (fun w hS => run_ld23 w _ _ _ _ _ _ _ (K6.below hS K6.lt))) hHeld ?_
  try simp only [Act.put, List.setIfInBounds_toArray, List.set_cons_zero, List.set_cons_succ]
  refine wpAnyH_take (i := 2) (oi := ({ dst := some 33, op := Op.slice 24 (Operand.tmp 4) none none none, type := 28, pos := _, after := #[], guard := none } : Oper)) (v := ?_) rfl (by kernel_rfl) (by kernel_rfl) (by kernel_rfl) (fun _ _ _ h => h) (Or.inl ⟨by rfl, ?_⟩) hHeld ?_
  rotate_left
  · (intro w hS; go_simp; try with_reducible rfl)
  try simp only [Act.put, List.setIfInBounds_toArray, List.set_cons_zero, List.set_cons_succ]
  refine wpAnyH_take (i := 3) (oi := ({ dst := some 34, op := Op.move (Operand.tmp 2), type := 4, pos := _, after := #[], guard := none } : Oper)) (v := ?_) rfl (by kernel_rfl) (by kernel_rfl) (by kernel_rfl) (fun _ _ _ h => h) (Or.inl ⟨by rfl, ?_⟩) hHeld ?_
  rotate_left
  · (intro w hS; go_simp; try with_reducible rfl)
  try simp only [Act.put, List.setIfInBounds_toArray, List.set_cons_zero, List.set_cons_succ]
  refine wpAnyH_ready (rs := [4]) (by kernel_rfl) (by simp) ?_
  refine AllReadyH.cons (o := ({ dst := some 35, op := Op.call { callee := Callee.value (Operand.func 16), args := #[Operand.tmp 32, Operand.tmp 33, Operand.tmp 34], argTypes := #[23, 28, 4] }, type := 28, pos := _, after := #[{ on := 1, ground := Ground.data }, { on := 2, ground := Ground.data }, { on := 3, ground := Ground.data }], guard := none } : Oper)) rfl (fun K hK => ?_) AllReadyH.nil
  refine step_call (refbuild_yes nni g p v t c n x0 x1 x2 x3 _ _ ps _ (IP.below hHeld (Nat.le_refl _)) hHeld.size (by intro h; cases h) HR.out HN.out HX.out) (enters_of Tryd.func16 (by kernel_rfl) rfl) _ _ rfl rfl rfl ?_
  rintro e w7 ⟨a7, c7, rfl, J7, b7⟩
  refine ⟨_, rfl, hK.out _ _ (hHeld.trans (b7.mono hHeld.size)) (fun hHeld => ?_)⟩
  clear hK K
  try simp only [Act.put, List.setIfInBounds_toArray, List.set_cons_zero, List.set_cons_succ]
  refine wpAnyH_ready (rs := [5]) (by kernel_rfl) (by simp) ?_
  refine AllReadyH.cons (o := ({ dst := some 36, op := Op.call { callee := Callee.value (Operand.func 15), args := #[Operand.tmp 31, Operand.tmp 35], argTypes := #[28, 28] }, type := 4, pos := _, after := #[{ on := 0, ground := Ground.data }, { on := 4, ground := Ground.data }, { on := 4, ground := Ground.chain }], guard := none } : Oper)) rfl (fun K hK => ?_) AllReadyH.nil
  refine step_call (same_calls _ _ _ _ _ _ _ _ _ (I6.below hHeld (Nat.le_refl _)) J7 hHeld.size (Nat.le_refl _) (by decide)) (enters_of Tryd.func15 (by kernel_rfl) rfl) _ _ rfl rfl rfl ?_
  rintro e w8 ⟨rfl, b8⟩
  rw [beq_self_eq_true]
  refine ⟨_, rfl, hK.out _ _ (hHeld.trans (b8.mono hHeld.size)) (fun hHeld => ?_)⟩
  clear hK K
  try simp only [Act.put, List.setIfInBounds_toArray, List.set_cons_zero, List.set_cons_succ]
  refine wpAnyH_take (i := 6) (oi := ({ dst := some 37, op := Op.move (Operand.tmp 36), type := 4, pos := _, after := #[{ on := 5, ground := Ground.data }, { on := 5, ground := Ground.chain }], guard := none } : Oper)) (v := ?_) rfl (by kernel_rfl) (by kernel_rfl) (by kernel_rfl) (fun _ _ _ h => h) (Or.inl ⟨by rfl, ?_⟩) hHeld ?_
  rotate_left
  · (intro w hS; go_simp; try with_reducible rfl)
  try simp only [Act.put, List.setIfInBounds_toArray, List.set_cons_zero, List.set_cons_succ]
  refine wpAnyH_take (i := 7) (oi := ({ dst := some 38, op := Op.move (Operand.tmp 9), type := 29, pos := _, after := #[{ on := 6, ground := Ground.guard }], guard := some (6, true) } : Oper)) (v := ?_) rfl (by kernel_rfl) (by kernel_rfl) (by kernel_rfl) (fun _ _ _ h => h) (Or.inl ⟨by rfl, ?_⟩) hHeld ?_
  rotate_left
  · (intro w hS; go_simp; try with_reducible rfl)
  try simp only [Act.put, List.setIfInBounds_toArray, List.set_cons_zero, List.set_cons_succ]
  refine wpAnyH_take (i := 8) (oi := ({ dst := some 39, op := Op.binOp BinOp.eql 29 (Operand.tmp 38) (Operand.const (Value.int IntKind.i64 0)) 29, type := 4, pos := _, after := #[{ on := 7, ground := Ground.data }, { on := 6, ground := Ground.guard }], guard := some (6, true) } : Oper)) (v := ?_) rfl (by kernel_rfl) (by kernel_rfl) (by kernel_rfl) (fun _ _ _ h => h) (Or.inl ⟨by rfl, ?_⟩) hHeld ?_
  rotate_left
  · (intro w hS; go_simp; try with_reducible rfl)
  try simp only [Act.put, List.setIfInBounds_toArray, List.set_cons_zero, List.set_cons_succ]
  refine wpAnyH_take (i := 9) (oi := ({ dst := some 40, op := Op.move (Operand.tmp 10), type := 4, pos := _, after := #[{ on := 6, ground := Ground.guard }], guard := some (6, true) } : Oper)) (v := ?_) rfl (by kernel_rfl) (by kernel_rfl) (by kernel_rfl) (fun _ _ _ h => h) (Or.inl ⟨by rfl, ?_⟩) hHeld ?_
  rotate_left
  · (intro w hS; go_simp; try with_reducible rfl)
  try simp only [Act.put, List.setIfInBounds_toArray, List.set_cons_zero, List.set_cons_succ]
  refine wpAnyH_take (i := 10) (oi := ({ dst := some 41, op := Op.binOp BinOp.eql 4 (Operand.tmp 39) (Operand.tmp 40) 4, type := 4, pos := _, after := #[{ on := 8, ground := Ground.data }, { on := 9, ground := Ground.data }, { on := 6, ground := Ground.guard }], guard := some (6, true) } : Oper)) (v := ?_) rfl (by kernel_rfl) (by kernel_rfl) (by kernel_rfl) (fun _ _ _ h => h) (Or.inl ⟨by rfl, ?_⟩) hHeld ?_
  rotate_left
  · (intro w hS; go_simp; try with_reducible rfl)
  try simp only [Act.put, List.setIfInBounds_toArray, List.set_cons_zero, List.set_cons_succ]
  refine wpAnyH_take (i := 11) (oi := ({ dst := some 42, op := Op.pick (Operand.tmp 37) (Operand.tmp 41) (Operand.const (Value.bool false)), type := 4, pos := _, after := #[{ on := 6, ground := Ground.data }, { on := 10, ground := Ground.data }], guard := none } : Oper)) (v := ?_) rfl (by kernel_rfl) (by kernel_rfl) (by kernel_rfl) (fun _ _ _ h => h) (Or.inl ⟨by rfl, ?_⟩) hHeld ?_
  rotate_left
  · (intro w hS; go_simp; try with_reducible rfl)
  try simp only [Act.put, List.setIfInBounds_toArray, List.set_cons_zero, List.set_cons_succ]
  refine wpAnyH_take (i := 12) (oi := ({ dst := some 43, op := Op.move (Operand.tmp 42), type := 4, pos := _, after := #[{ on := 11, ground := Ground.data }, { on := 6, ground := Ground.chain }], guard := none } : Oper)) (v := ?_) rfl (by kernel_rfl) (by kernel_rfl) (by kernel_rfl) (fun _ _ _ h => h) (Or.inl ⟨by rfl, ?_⟩) hHeld ?_
  rotate_left
  · (intro w hS; go_simp; try with_reducible rfl)
  try simp only [Act.put, List.setIfInBounds_toArray, List.set_cons_zero, List.set_cons_succ]
  refine wpAnyH_take (i := 13) (oi := ({ dst := some 44, op := Op.move (Operand.tmp 10), type := 4, pos := _, after := #[{ on := 12, ground := Ground.guard }], guard := some (12, true) } : Oper)) (v := ?_) rfl (by kernel_rfl) (by kernel_rfl) (by kernel_rfl) (fun _ _ _ h => h) (Or.inl ⟨by rfl, ?_⟩) hHeld ?_
  rotate_left
  · (intro w hS; go_simp; try with_reducible rfl)
  try simp only [Act.put, List.setIfInBounds_toArray, List.set_cons_zero, List.set_cons_succ]
  refine wpAnyH_take (i := 14) (oi := ({ dst := some 45, op := Op.move (Operand.tmp 44), type := 4, pos := _, after := #[{ on := 13, ground := Ground.data }, { on := 12, ground := Ground.chain }, { on := 12, ground := Ground.guard }], guard := some (12, true) } : Oper)) (v := ?_) rfl (by kernel_rfl) (by kernel_rfl) (by kernel_rfl) (fun _ _ _ h => h) (Or.inl ⟨by rfl, ?_⟩) hHeld ?_
  rotate_left
  · (intro w hS; go_simp; try with_reducible rfl)
  try simp only [Act.put, List.setIfInBounds_toArray, List.set_cons_zero, List.set_cons_succ]
  refine wpAnyH_take (i := 15) (oi := ({ dst := some 46, op := Op.move (Operand.tmp 9), type := 29, pos := _, after := #[{ on := 14, ground := Ground.guard }], guard := some (14, false) } : Oper)) (v := undef) rfl (by kernel_rfl) (by kernel_rfl) (by kernel_rfl) (fun _ _ _ h => h) (Or.inr ⟨by rfl, rfl⟩) hHeld ?_
  try simp only [Act.put, List.setIfInBounds_toArray, List.set_cons_zero, List.set_cons_succ]
  refine wpAnyH_take (i := 16) (oi := ({ dst := some 47, op := Op.binOp BinOp.eql 29 (Operand.tmp 46) (Operand.const (Value.int IntKind.i64 1)) 29, type := 4, pos := _, after := #[{ on := 15, ground := Ground.data }, { on := 14, ground := Ground.guard }], guard := some (14, false) } : Oper)) (v := undef) rfl (by kernel_rfl) (by kernel_rfl) (by kernel_rfl) (fun _ _ _ h => h) (Or.inr ⟨by rfl, rfl⟩) hHeld ?_
  try simp only [Act.put, List.setIfInBounds_toArray, List.set_cons_zero, List.set_cons_succ]
  refine wpAnyH_take (i := 17) (oi := ({ dst := some 48, op := Op.pick (Operand.tmp 45) (Operand.const (Value.bool true)) (Operand.tmp 47), type := 4, pos := _, after := #[{ on := 14, ground := Ground.data }, { on := 16, ground := Ground.data }, { on := 12, ground := Ground.guard }], guard := some (12, true) } : Oper)) (v := ?_) rfl (by kernel_rfl) (by kernel_rfl) (by kernel_rfl) (fun _ _ _ h => h) (Or.inl ⟨by rfl, ?_⟩) hHeld ?_
  rotate_left
  · (intro w hS; go_simp; try with_reducible rfl)
  try simp only [Act.put, List.setIfInBounds_toArray, List.set_cons_zero, List.set_cons_succ]
  refine wpAnyH_take (i := 18) (oi := ({ dst := some 49, op := Op.pick (Operand.tmp 43) (Operand.tmp 48) (Operand.const (Value.bool false)), type := 4, pos := _, after := #[{ on := 12, ground := Ground.data }, { on := 17, ground := Ground.data }], guard := none } : Oper)) (v := ?_) rfl (by kernel_rfl) (by kernel_rfl) (by kernel_rfl) (fun _ _ _ h => h) (Or.inl ⟨by rfl, ?_⟩) hHeld ?_
  rotate_left
  · (intro w hS; go_simp; try with_reducible rfl)
  try simp only [Act.put, List.setIfInBounds_toArray, List.set_cons_zero, List.set_cons_succ]
  refine wpAnyH_take (i := 19) (oi := ({ dst := some 50, op := Op.move (Operand.tmp 49), type := 4, pos := _, after := #[{ on := 18, ground := Ground.data }, { on := 14, ground := Ground.chain }], guard := none } : Oper)) (v := ?_) rfl (by kernel_rfl) (by kernel_rfl) (by kernel_rfl) (fun _ _ _ h => h) (Or.inl ⟨by rfl, ?_⟩) hHeld ?_
  rotate_left
  · (intro w hS; go_simp; try with_reducible rfl)
  try simp only [Act.put, List.setIfInBounds_toArray, List.set_cons_zero, List.set_cons_succ]
  refine wpAnyH_take (i := 20) (oi := ({ dst := some 51, op := Op.load 27 (Operand.tmp 7), type := 27, pos := _, after := #[{ on := 19, ground := Ground.guard }], guard := some (19, true) } : Oper))  rfl (by kernel_rfl) (by kernel_rfl) (by kernel_rfl) (fun _ _ _ h => h) (yields_ld rfl rfl rfl (fun w hS => run_ld27 w _ _ _ _ _ _ _ _ (C6.below hS C6.lt) HL.out)) hHeld ?_
  try simp only [Act.put, List.setIfInBounds_toArray, List.set_cons_zero, List.set_cons_succ]
  refine wpAnyH_take (i := 22) (oi := ({ dst := some 53, op := Op.move (Operand.tmp 12), type := 3, pos := _, after := #[{ on := 19, ground := Ground.guard }], guard := some (19, true) } : Oper)) (v := ?_) rfl (by kernel_rfl) (by kernel_rfl) (by kernel_rfl) (fun _ _ _ h => h) (Or.inl ⟨by rfl, ?_⟩) hHeld ?_
  rotate_left
  · (intro w hS; go_simp; try with_reducible rfl)
  try simp only [Act.put, List.setIfInBounds_toArray, List.set_cons_zero, List.set_cons_succ]
  refine wpAnyH_take (i := 23) (oi := ({ dst := some 54, op := Op.binOp BinOp.eql 3 (Operand.tmp 53) (Operand.const (Value.int IntKind.i64 2)) 3, type := 4, pos := _, after := #[{ on := 22, ground := Ground.data }, { on := 19, ground := Ground.guard }], guard := some (19, true) } : Oper)) (v := ?_) rfl (by kernel_rfl) (by kernel_rfl) (by kernel_rfl) (fun _ _ _ h => h) (Or.inl ⟨by rfl, ?_⟩) hHeld ?_
  rotate_left
  · (intro w hS; go_simp; try with_reducible rfl)
  try simp only [Act.put, List.setIfInBounds_toArray, List.set_cons_zero, List.set_cons_succ]
  refine wpAnyH_ready (rs := [21]) (by kernel_rfl) (by simp) ?_
  refine AllReadyH.cons (o := ({ dst := some 52, op := Op.call { callee := Callee.value (Operand.func 17), args := #[Operand.tmp 51], argTypes := #[27] }, type := 4, pos := _, after := #[{ on := 20, ground := Ground.data }, { on := 19, ground := Ground.chain }, { on := 19, ground := Ground.guard }], guard := some (19, true) } : Oper)) rfl (fun K hK => ?_) AllReadyH.nil
  refine step_call (empty_calls g p v t c ps _) (enters_of Tryd.func17 (by kernel_rfl) rfl) _ _ rfl rfl rfl ?_
  rintro e w9 ⟨rfl, b9⟩
  rw [HE'.out]
  refine ⟨_, rfl, hK.out _ _ (hHeld.trans (b9.mono hHeld.size)) (fun hHeld => ?_)⟩
  clear hK K
  try simp only [Act.put, List.setIfInBounds_toArray, List.set_cons_zero, List.set_cons_succ]
  refine wpAnyH_take (i := 24) (oi := ({ dst := some 55, op := Op.move (Operand.tmp 54), type := 4, pos := _, after := #[{ on := 23, ground := Ground.data }, { on := 21, ground := Ground.chain }, { on := 19, ground := Ground.guard }], guard := some (19, true) } : Oper)) (v := ?_) rfl (by kernel_rfl) (by kernel_rfl) (by kernel_rfl) (fun _ _ _ h => h) (Or.inl ⟨by rfl, ?_⟩) hHeld ?_
  rotate_left
  · (intro w hS; go_simp; try with_reducible rfl)
  try simp only [Act.put, List.setIfInBounds_toArray, List.set_cons_zero, List.set_cons_succ]
  refine wpAnyH_take (i := 25) (oi := ({ dst := some 56, op := Op.move (Operand.tmp 12), type := 3, pos := _, after := #[{ on := 24, ground := Ground.guard }], guard := some (24, false) } : Oper)) (v := undef) rfl (by kernel_rfl) (by kernel_rfl) (by kernel_rfl) (fun _ _ _ h => h) (Or.inr ⟨by rfl, rfl⟩) hHeld ?_
  try simp only [Act.put, List.setIfInBounds_toArray, List.set_cons_zero, List.set_cons_succ]
  refine wpAnyH_take (i := 26) (oi := ({ dst := some 57, op := Op.binOp BinOp.eql 3 (Operand.tmp 56) (Operand.const (Value.int IntKind.i64 3)) 3, type := 4, pos := _, after := #[{ on := 25, ground := Ground.data }, { on := 24, ground := Ground.guard }], guard := some (24, false) } : Oper)) (v := undef) rfl (by kernel_rfl) (by kernel_rfl) (by kernel_rfl) (fun _ _ _ h => h) (Or.inr ⟨by rfl, rfl⟩) hHeld ?_
  try simp only [Act.put, List.setIfInBounds_toArray, List.set_cons_zero, List.set_cons_succ]
  refine wpAnyH_take (i := 27) (oi := ({ dst := some 58, op := Op.pick (Operand.tmp 55) (Operand.const (Value.bool true)) (Operand.tmp 57), type := 4, pos := _, after := #[{ on := 24, ground := Ground.data }, { on := 26, ground := Ground.data }, { on := 19, ground := Ground.guard }], guard := some (19, true) } : Oper)) (v := ?_) rfl (by kernel_rfl) (by kernel_rfl) (by kernel_rfl) (fun _ _ _ h => h) (Or.inl ⟨by rfl, ?_⟩) hHeld ?_
  rotate_left
  · (intro w hS; go_simp; try with_reducible rfl)
  try simp only [Act.put, List.setIfInBounds_toArray, List.set_cons_zero, List.set_cons_succ]
  refine wpAnyH_take (i := 28) (oi := ({ dst := some 59, op := Op.binOp BinOp.eql 4 (Operand.tmp 52) (Operand.tmp 58) 4, type := 4, pos := _, after := #[{ on := 21, ground := Ground.data }, { on := 27, ground := Ground.data }, { on := 19, ground := Ground.guard }], guard := some (19, true) } : Oper)) (v := ?_) rfl (by kernel_rfl) (by kernel_rfl) (by kernel_rfl) (fun _ _ _ h => h) (Or.inl ⟨by rfl, ?_⟩) hHeld ?_
  rotate_left
  · (intro w hS; go_simp; try with_reducible rfl)
  try simp only [Act.put, List.setIfInBounds_toArray, List.set_cons_zero, List.set_cons_succ]
  refine wpAnyH_take (i := 29) (oi := ({ dst := some 60, op := Op.pick (Operand.tmp 50) (Operand.tmp 59) (Operand.const (Value.bool false)), type := 4, pos := _, after := #[{ on := 19, ground := Ground.data }, { on := 28, ground := Ground.data }], guard := none } : Oper)) (v := ?_) rfl (by kernel_rfl) (by kernel_rfl) (by kernel_rfl) (fun _ _ _ h => h) (Or.inl ⟨by rfl, ?_⟩) hHeld ?_
  rotate_left
  · (intro w hS; go_simp; try with_reducible rfl)
  try simp only [Act.put, List.setIfInBounds_toArray, List.set_cons_zero, List.set_cons_succ]
  refine wpAnyH_take (i := 30) (oi := ({ dst := some 61, op := Op.move (Operand.tmp 60), type := 4, pos := _, after := #[{ on := 29, ground := Ground.data }, { on := 24, ground := Ground.chain }], guard := none } : Oper)) (v := ?_) rfl (by kernel_rfl) (by kernel_rfl) (by kernel_rfl) (fun _ _ _ h => h) (Or.inl ⟨by rfl, ?_⟩) hHeld ?_
  rotate_left
  · (intro w hS; go_simp; try with_reducible rfl)
  try simp only [Act.put, List.setIfInBounds_toArray, List.set_cons_zero, List.set_cons_succ]
  refine wpAnyH_take (i := 31) (oi := ({ dst := some 62, op := Op.slice 24 (Operand.tmp 11) none none none, type := 28, pos := _, after := #[{ on := 30, ground := Ground.guard }], guard := some (30, true) } : Oper)) (v := ?_) rfl (by kernel_rfl) (by kernel_rfl) (by kernel_rfl) (fun _ _ _ h => h) (Or.inl ⟨by rfl, ?_⟩) hHeld ?_
  rotate_left
  · (intro w hS; go_simp; try with_reducible rfl)
  try simp only [Act.put, List.setIfInBounds_toArray, List.set_cons_zero, List.set_cons_succ]
  refine wpAnyH_take (i := 32) (oi := ({ dst := some 63, op := Op.slice 24 (Operand.tmp 4) none none none, type := 28, pos := _, after := #[{ on := 30, ground := Ground.guard }], guard := some (30, true) } : Oper)) (v := ?_) rfl (by kernel_rfl) (by kernel_rfl) (by kernel_rfl) (fun _ _ _ h => h) (Or.inl ⟨by rfl, ?_⟩) hHeld ?_
  rotate_left
  · (intro w hS; go_simp; try with_reducible rfl)
  try simp only [Act.put, List.setIfInBounds_toArray, List.set_cons_zero, List.set_cons_succ]
  refine wpAnyH_ready (rs := [33]) (by kernel_rfl) (by simp) ?_
  refine AllReadyH.cons (o := ({ dst := some 64, op := Op.call { callee := Callee.value (Operand.func 18), args := #[Operand.tmp 63], argTypes := #[28] }, type := 28, pos := _, after := #[{ on := 32, ground := Ground.data }, { on := 30, ground := Ground.chain }, { on := 30, ground := Ground.guard }], guard := some (30, true) } : Oper)) rfl (fun K hK => ?_) AllReadyH.nil
  refine step_call (refseal_calls _ _ ps _ (IP.below hHeld (Nat.le_refl _)) hHeld.size (by intro h; cases h)) (enters_of Tryd.func18 (by kernel_rfl) rfl) _ _ rfl rfl rfl ?_
  rintro e w10 ⟨a10, c10, rfl, J10, b10⟩
  refine ⟨_, rfl, hK.out _ _ (hHeld.trans (b10.mono hHeld.size)) (fun hHeld => ?_)⟩
  clear hK K
  try simp only [Act.put, List.setIfInBounds_toArray, List.set_cons_zero, List.set_cons_succ]
  refine wpAnyH_ready (rs := [34]) (by kernel_rfl) (by simp) ?_
  refine AllReadyH.cons (o := ({ dst := some 65, op := Op.call { callee := Callee.value (Operand.func 15), args := #[Operand.tmp 62, Operand.tmp 64], argTypes := #[28, 28] }, type := 4, pos := _, after := #[{ on := 31, ground := Ground.data }, { on := 33, ground := Ground.data }, { on := 33, ground := Ground.chain }, { on := 30, ground := Ground.guard }], guard := some (30, true) } : Oper)) rfl (fun K hK => ?_) AllReadyH.nil
  refine step_call (same_calls _ _ _ _ _ _ _ _ _ (IS.below hHeld (Nat.le_refl _)) J10 hHeld.size (Nat.le_refl _) (by decide)) (enters_of Tryd.func15 (by kernel_rfl) rfl) _ _ rfl rfl rfl ?_
  rintro e w11 ⟨rfl, b11⟩
  rw [beq_self_eq_true]
  refine ⟨_, rfl, hK.out _ _ (hHeld.trans (b11.mono hHeld.size)) (fun hHeld => ?_)⟩
  clear hK K
  try simp only [Act.put, List.setIfInBounds_toArray, List.set_cons_zero, List.set_cons_succ]
  refine wpAnyH_take (i := 35) (oi := ({ dst := some 66, op := Op.pick (Operand.tmp 61) (Operand.tmp 65) (Operand.const (Value.bool false)), type := 4, pos := _, after := #[{ on := 30, ground := Ground.data }, { on := 34, ground := Ground.data }], guard := none } : Oper)) (v := ?_) rfl (by kernel_rfl) (by kernel_rfl) (by kernel_rfl) (fun _ _ _ h => h) (Or.inl ⟨by rfl, ?_⟩) hHeld ?_
  rotate_left
  · (intro w hS; go_simp; try with_reducible rfl)
  try simp only [Act.put, List.setIfInBounds_toArray, List.set_cons_zero, List.set_cons_succ]
  refine wpAnyH_take (i := 36) (oi := ({ dst := some 67, op := Op.move (Operand.tmp 66), type := 4, pos := _, after := #[{ on := 35, ground := Ground.data }, { on := 34, ground := Ground.chain }], guard := none } : Oper)) (v := ?_) rfl (by kernel_rfl) (by kernel_rfl) (by kernel_rfl) (fun _ _ _ h => h) (Or.inl ⟨by rfl, ?_⟩) hHeld ?_
  rotate_left
  · (intro w hS; go_simp; try with_reducible rfl)
  try simp only [Act.put, List.setIfInBounds_toArray, List.set_cons_zero, List.set_cons_succ]
  refine wpAnyH_take (i := 37) (oi := ({ dst := some 68, op := Op.load 24 (Operand.tmp 4), type := 24, pos := _, after := #[{ on := 36, ground := Ground.guard }], guard := some (36, true) } : Oper))  rfl (by kernel_rfl) (by kernel_rfl) (by kernel_rfl) (fun _ _ _ h => h) (yields_ld rfl rfl rfl (fun w hS => run_ld24 w _ _ _ (P6.below hS P6.lt) HL.out)) hHeld ?_
  try simp only [Act.put, List.setIfInBounds_toArray, List.set_cons_zero, List.set_cons_succ]
  refine wpAnyH_take (i := 39) (oi := ({ dst := some 70, op := Op.slice 24 (Operand.tmp 4) none none none, type := 28, pos := _, after := #[{ on := 36, ground := Ground.guard }], guard := some (36, true) } : Oper)) (v := ?_) rfl (by kernel_rfl) (by kernel_rfl) (by kernel_rfl) (fun _ _ _ h => h) (Or.inl ⟨by rfl, ?_⟩) hHeld ?_
  rotate_left
  · (intro w hS; go_simp; try with_reducible rfl)
  try simp only [Act.put, List.setIfInBounds_toArray, List.set_cons_zero, List.set_cons_succ]
  refine wpAnyH_take (i := 40) (oi := ({ dst := some 71, op := Op.slice 24 (Operand.tmp 4) none none none, type := 28, pos := _, after := #[{ on := 36, ground := Ground.guard }], guard := some (36, true) } : Oper)) (v := ?_) rfl (by kernel_rfl) (by kernel_rfl) (by kernel_rfl) (fun _ _ _ h => h) (Or.inl ⟨by rfl, ?_⟩) hHeld ?_
  rotate_left
  · (intro w hS; go_simp; try with_reducible rfl)
  try simp only [Act.put, List.setIfInBounds_toArray, List.set_cons_zero, List.set_cons_succ]
  refine wpAnyH_ready (rs := [38]) (by kernel_rfl) (by simp) ?_
  refine AllReadyH.cons (o := ({ dst := some 69, op := Op.call { callee := Callee.value (Operand.func 19), args := #[Operand.tmp 68], argTypes := #[24] }, type := 4, pos := _, after := #[{ on := 37, ground := Ground.data }, { on := 36, ground := Ground.chain }, { on := 36, ground := Ground.guard }], guard := some (36, true) } : Oper)) rfl (fun K hK => ?_) AllReadyH.nil
  refine step_call (sealed_calls ps HL.out _) (enters_of Tryd.func19 (by kernel_rfl) rfl) _ _ rfl rfl rfl ?_
  rintro e w12 ⟨rfl, b12⟩
  rw [HD.out]
  refine ⟨_, rfl, hK.out _ _ (hHeld.trans (b12.mono hHeld.size)) (fun hHeld => ?_)⟩
  clear hK K
  try simp only [Act.put, List.setIfInBounds_toArray, List.set_cons_zero, List.set_cons_succ]
  refine wpAnyH_ready (rs := [41]) (by kernel_rfl) (by simp) ?_
  refine AllReadyH.cons (o := ({ dst := some 72, op := Op.call { callee := Callee.value (Operand.func 18), args := #[Operand.tmp 71], argTypes := #[28] }, type := 28, pos := _, after := #[{ on := 40, ground := Ground.data }, { on := 38, ground := Ground.chain }, { on := 36, ground := Ground.guard }], guard := some (36, true) } : Oper)) rfl (fun K hK => ?_) AllReadyH.nil
  refine step_call (refseal_calls _ _ ps _ (IP.below hHeld (Nat.le_refl _)) hHeld.size (by intro h; cases h)) (enters_of Tryd.func18 (by kernel_rfl) rfl) _ _ rfl rfl rfl ?_
  rintro e w13 ⟨a13, c13, rfl, J13, b13⟩
  refine ⟨_, rfl, hK.out _ _ (hHeld.trans (b13.mono hHeld.size)) (fun hHeld => ?_)⟩
  clear hK K
  try simp only [Act.put, List.setIfInBounds_toArray, List.set_cons_zero, List.set_cons_succ]
  refine wpAnyH_ready (rs := [42]) (by kernel_rfl) (by simp) ?_
  refine AllReadyH.cons (o := ({ dst := some 73, op := Op.call { callee := Callee.value (Operand.func 15), args := #[Operand.tmp 70, Operand.tmp 72], argTypes := #[28, 28] }, type := 4, pos := _, after := #[{ on := 39, ground := Ground.data }, { on := 41, ground := Ground.data }, { on := 41, ground := Ground.chain }, { on := 36, ground := Ground.guard }], guard := some (36, true) } : Oper)) rfl (fun K hK => ?_) AllReadyH.nil
  refine step_call (same_calls _ _ _ _ _ _ _ _ _ (IP.below hHeld (Nat.le_refl _)) J13 hHeld.size (Nat.le_refl _) (by decide)) (enters_of Tryd.func15 (by kernel_rfl) rfl) _ _ rfl rfl rfl ?_
  rintro e w14 ⟨rfl, b14⟩
  rw [HD2.out]
  refine ⟨_, rfl, hK.out _ _ (hHeld.trans (b14.mono hHeld.size)) (fun hHeld => ?_)⟩
  clear hK K
  try simp only [Act.put, List.setIfInBounds_toArray, List.set_cons_zero, List.set_cons_succ]
  refine wpAnyH_take (i := 43) (oi := ({ dst := some 74, op := Op.binOp BinOp.eql 4 (Operand.tmp 69) (Operand.tmp 73) 4, type := 4, pos := _, after := #[{ on := 38, ground := Ground.data }, { on := 42, ground := Ground.data }, { on := 36, ground := Ground.guard }], guard := some (36, true) } : Oper)) (v := ?_) rfl (by kernel_rfl) (by kernel_rfl) (by kernel_rfl) (fun _ _ _ h => h) (Or.inl ⟨by rfl, ?_⟩) hHeld ?_
  rotate_left
  · (intro w hS; go_simp; try with_reducible rfl)
  try simp only [Act.put, List.setIfInBounds_toArray, List.set_cons_zero, List.set_cons_succ]
  refine wpAnyH_take (i := 44) (oi := ({ dst := some 75, op := Op.pick (Operand.tmp 67) (Operand.tmp 74) (Operand.const (Value.bool false)), type := 4, pos := _, after := #[{ on := 36, ground := Ground.data }, { on := 43, ground := Ground.data }], guard := none } : Oper)) (v := ?_) rfl (by kernel_rfl) (by kernel_rfl) (by kernel_rfl) (fun _ _ _ h => h) (Or.inl ⟨by rfl, ?_⟩) hHeld ?_
  rotate_left
  · (intro w hS; go_simp; try with_reducible rfl)
  try simp only [Act.put, List.setIfInBounds_toArray, List.set_cons_zero, List.set_cons_succ]
  refine wpAnyH_take (i := 45) (oi := ({ dst := some 6, op := Op.assign (Operand.tmp 75), type := 4, pos := _, after := #[{ on := 44, ground := Ground.data }, { on := 42, ground := Ground.chain }, { on := 0, ground := Ground.phase }, { on := 1, ground := Ground.phase }, { on := 2, ground := Ground.phase }, { on := 3, ground := Ground.phase }, { on := 4, ground := Ground.phase }, { on := 5, ground := Ground.phase }, { on := 6, ground := Ground.phase }, { on := 7, ground := Ground.phase }, { on := 8, ground := Ground.phase }, { on := 9, ground := Ground.phase }, { on := 10, ground := Ground.phase }, { on := 11, ground := Ground.phase }, { on := 12, ground := Ground.phase }, { on := 13, ground := Ground.phase }, { on := 14, ground := Ground.phase }, { on := 15, ground := Ground.phase }, { on := 16, ground := Ground.phase }, { on := 17, ground := Ground.phase }, { on := 18, ground := Ground.phase }, { on := 19, ground := Ground.phase }, { on := 20, ground := Ground.phase }, { on := 21, ground := Ground.phase }, { on := 22, ground := Ground.phase }, { on := 23, ground := Ground.phase }, { on := 24, ground := Ground.phase }, { on := 25, ground := Ground.phase }, { on := 26, ground := Ground.phase }, { on := 27, ground := Ground.phase }, { on := 28, ground := Ground.phase }, { on := 29, ground := Ground.phase }, { on := 30, ground := Ground.phase }, { on := 31, ground := Ground.phase }, { on := 32, ground := Ground.phase }, { on := 33, ground := Ground.phase }, { on := 34, ground := Ground.phase }, { on := 35, ground := Ground.phase }, { on := 36, ground := Ground.phase }, { on := 37, ground := Ground.phase }, { on := 38, ground := Ground.phase }, { on := 39, ground := Ground.phase }, { on := 40, ground := Ground.phase }, { on := 41, ground := Ground.phase }, { on := 42, ground := Ground.phase }, { on := 43, ground := Ground.phase }, { on := 44, ground := Ground.phase }], guard := none } : Oper)) (v := ?_) rfl (by kernel_rfl) (by kernel_rfl) (by kernel_rfl) (fun _ _ _ h => h) (Or.inl ⟨by rfl, ?_⟩) hHeld ?_
  rotate_left
  · (intro w hS; go_simp; try with_reducible rfl)
  try simp only [Act.put, List.setIfInBounds_toArray, List.set_cons_zero, List.set_cons_succ]
  refine wpAnyH_done (by kernel_rfl) ?_ _
  go_wp2
  go_ret
  exact ⟨ret_bool (by cases db <;> rfl), B6.trans (hHeld.mono B6.size)⟩

set_option maxRecDepth 20000 in
set_option maxHeartbeats 8000000 in
theorem builds_rf (g p v t c : Int) (ps : List UInt8) (hp : ps.length = 48) (nni : Bool) (w : World) (tab : Tab w) (hr : rightB nni g p v t c = true) (hk : (kindN p v t c == 2) = false) :
    Calls Tryd.prog 3 #[.agg (hdrV g p v t c), .agg (payV ps), .bool nni] w fun e w' => e = .returned (.bool true) ∧ Below w.heap.size w w' := by
  have HL : Hid (ps.length = 48) := hp
  have HR : Hid (rightB nni g p v t c = true) := hr
  have HM : Hid ((sealN ps).length = 48) := (sealN_length ps).trans hp
  obtain ⟨kk, hkk⟩ : ∃ kk, kindN p v t c = kk := ⟨_, rfl⟩
  have HK : Hid (kindN p v t c = kk) := hkk
  have HE : Hid (emptyB p v t c = (kk == 2 || kk == 3)) := by rw [Hid, emptyB, hkk]
  rw [hkk] at hk
  obtain ⟨b3, hb3⟩ : ∃ b3, (kk == 3) = b3 := ⟨_, rfl⟩
  have HE' : Hid (emptyB p v t c = b3) := by rw [Hid, HE.out, hk, hb3]; rfl
  obtain ⟨db, hdb⟩ : ∃ db, decide (sealN ps = ps) = db := ⟨_, rfl⟩
  have HD : Hid (decide (sealN ps = ps) = db) := hdb
  have HD2 : Hid ((ps == sealN ps) = db) := by
    rw [Hid, ← hdb]
    by_cases h : sealN ps = ps
    · rw [h]; simp
    · rw [decide_eq_false h, beq_eq_false_iff_ne]; exact fun e => h e.symm
  obtain ⟨n, hn⟩ : ∃ n : Nat, H.word g p v t c = (n : Int) := ⟨(H.word g p v t c).toNat, by have := H.word_lt hr; omega⟩
  have HN : Hid (H.word g p v t c = (n : Int)) := hn
  obtain ⟨x0, x1, x2, x3, hx⟩ := four_of n
  have HX : Hid (bytesN n = [x0, x1, x2, x3]) := hx
  clear hn hx
  have K0 := (bk_new w (hdrV g p v t c) 23).alloc (.cells (payV ps) 24)
  have P0 := bk_new (w.alloc (.cells (hdrV g p v t c) 23)) (payV ps) 24
  have A0 : Below w.heap.size w ((w.alloc (.cells (hdrV g p v t c) 23)).alloc (.cells (payV ps) 24)) := ((Below.refl _ w).alloc (Nat.le_refl _) _).alloc (by simp) _
  rw [World.size_alloc] at P0
  clear hp hr hkk hdb
  go_enter Tryd.func3, Tryd.ntmps3
  go_wp2_with fail
  refine (awake_calls _ (tab.below A0 tab.1)).mono ?_
  rintro e w1 ⟨rfl, b1⟩
  have K1 := K0.below b1 K0.lt
  have P1 := P0.below b1 P0.lt
  have B0 := A0.trans (b1.mono A0.size)
  clear K0 P0 A0 b1
  go_wp2_with (first | (with_reducible show wpList _ _ _ (Oper.mk _ (Op.load 23 _) _ _ _ _ :: _) _ _; refine wpList_ld rfl rfl rfl (run_ld23 _ _ _ _ _ _ _ _ (by assumption)) ?_; (try simp only [Act.put, List.setIfInBounds_toArray, List.set_cons_zero, List.set_cons_succ, World.size_alloc])) | (with_reducible show wpList _ _ _ (Oper.mk _ (Op.load 24 _) _ _ _ _ :: _) _ _; refine wpList_ld rfl rfl rfl (run_ld24 _ _ _ _ (by assumption) (by first | exact HL.out | exact HM.out)) ?_; (try simp only [Act.put, List.setIfInBounds_toArray, List.set_cons_zero, List.set_cons_succ, World.size_alloc])) | (with_reducible show wpList _ _ _ (Oper.mk _ (Op.build 27 _) _ _ _ _ :: _) _ _; refine wpList_bldf rfl (by first | exact HL.out | exact HM.out) rfl rfl rfl ?_; (try simp only [Act.put, List.setIfInBounds_toArray, List.set_cons_zero, List.set_cons_succ, World.size_alloc])) | ((with_reducible show wpList _ _ _ (Oper.mk _ (Op.alloc 27) _ _ _ _ :: Oper.mk _ (Op.store 27 _ _) _ _ _ _ :: _) _ _; refine wpList_defL rfl rfl rfl rfl rfl zero27 (by rw [size27, cellV_size]; (try simp only [Option.some.injEq, zer, List.length_replicate]) <;> first | rfl | (have := HL.out; omega) | (have := HM.out; omega)) (by first | rfl | (simp only [cellV_size]; done) | (rw [cellV_size, cellV_size]; (try simp only [zer, List.length_replicate]) <;> first | rfl | (have := HL.out; omega) | (have := HM.out; omega) | (have := HL.out; have := HM.out; omega))) (cellV_one _ _ _ _ _ _) rfl ?_); intro W1 C1 b1 z1; have K1' := K1.below b1 K1.lt; have P1' := P1.below b1 P1.lt; clear K1 P1; try simp only [Act.put, List.setIfInBounds_toArray, List.set_cons_zero, List.set_cons_succ]) | (with_reducible show wpList _ _ _ (Oper.mk _ (Op.load 27 _) _ _ _ _ :: _) _ _; refine wpList_ld rfl rfl rfl (run_ld27 _ _ _ _ _ _ _ _ _ (by assumption) (by first | exact HL.out | exact HM.out)) ?_; (try simp only [Act.put, List.setIfInBounds_toArray, List.set_cons_zero, List.set_cons_succ, World.size_alloc])))
  have B1 := B0.trans (b1.mono B0.size)
  clear B0 b1 z1
  refine (build_yes nni g p v t c n x0 x1 x2 x3 ps HL.out _ (tab.below B1 tab.1) HR.out HN.out HX.out).mono ?_
  rintro e w2 ⟨a2, c2, rfl, o2, b2⟩
  obtain ⟨ga, cur, rfl, _, _, _⟩ := o2.block (by decide)
  have I2 := o2.isB.1
  clear o2
  have K2 := K1'.below b2 K1'.lt
  have P2 := P1'.below b2 P1'.lt
  have C2 := C1.below b2 C1.lt
  have B2 := B1.trans (b2.mono B1.size)
  clear K1' P1' C1 B1 b2
  go_wp2_with (first | (with_reducible show wpList _ _ _ (Oper.mk _ (Op.load 23 _) _ _ _ _ :: _) _ _; refine wpList_ld rfl rfl rfl (run_ld23 _ _ _ _ _ _ _ _ (by assumption)) ?_; (try simp only [Act.put, List.setIfInBounds_toArray, List.set_cons_zero, List.set_cons_succ, World.size_alloc])))
  refine (refright_calls nni g p v t c _).mono ?_
  rintro e w3 ⟨rfl, b3'⟩
  rw [HR.out]
  have K3 := K2.below b3' K2.lt
  have P3 := P2.below b3' P2.lt
  have C3 := C2.below b3' C2.lt
  have B3 := B2.trans (b3'.mono B2.size)
  have I3 := (I2.below b3' (Nat.le_refl _)).mono b3'.size
  clear I2
  clear K2 P2 C2 B2 b3'
  go_wp2_with (first | (with_reducible show wpList _ _ _ (Oper.mk _ (Op.load 24 _) _ _ _ _ :: _) _ _; refine wpList_ld rfl rfl rfl (run_ld24 _ _ _ _ (by assumption) (by first | exact HL.out | exact HM.out)) ?_; (try simp only [Act.put, List.setIfInBounds_toArray, List.set_cons_zero, List.set_cons_succ, World.size_alloc])))
  refine (cseal_calls ps HL.out _).mono ?_
  rintro e w4 ⟨rfl, b4⟩
  have K4 := K3.below b4 K3.lt
  have P4 := P3.below b4 P3.lt
  have C4 := C3.below b4 C3.lt
  have B4 := B3.trans (b4.mono B3.size)
  have I4 := (I3.below b4 (Nat.le_refl _)).mono b4.size
  clear I3
  clear K3 P3 C3 B3 b4
  go_wp2_with (first | ((with_reducible show wpList _ _ _ (Oper.mk _ (Op.alloc 24) _ _ _ _ :: Oper.mk _ (Op.store 24 _ _) _ _ _ _ :: _) _ _; refine wpList_defL rfl rfl rfl rfl rfl zero24 (by rw [size24, payV_size]; (try simp only [Option.some.injEq, zer, List.length_replicate]) <;> first | rfl | (have := HL.out; omega) | (have := HM.out; omega)) (by first | rfl | (simp only [payV_size]; done) | (rw [payV_size, payV_size]; (try simp only [zer, List.length_replicate]) <;> first | rfl | (have := HL.out; omega) | (have := HM.out; omega) | (have := HL.out; have := HM.out; omega))) (payV_one _) rfl ?_); intro W5 S5 b5 z5; have K5 := K4.below b5 K4.lt; have P5 := P4.below b5 P4.lt; have C5 := C4.below b5 C4.lt; clear K4 P4 C4; try simp only [Act.put, List.setIfInBounds_toArray, List.set_cons_zero, List.set_cons_succ]) | (with_reducible show wpList _ _ _ (Oper.mk _ (Op.load 23 _) _ _ _ _ :: _) _ _; refine wpList_ld rfl rfl rfl (run_ld23 _ _ _ _ _ _ _ _ (by assumption)) ?_; (try simp only [Act.put, List.setIfInBounds_toArray, List.set_cons_zero, List.set_cons_succ, World.size_alloc])))
  have B5 := B4.trans (b5.mono B4.size)
  have I5 := (I4.below b5 (Nat.le_refl _)).mono b5.size
  clear I4
  clear B4 b5
  refine (refkind_calls g p v t c _).mono ?_
  rintro e w6 ⟨rfl, b6⟩
  rw [HK.out]
  have K6 := K5.below b6 K5.lt
  have P6 := P5.below b6 P5.lt
  have C6 := C5.below b6 C5.lt
  have S6 := S5.below b6 S5.lt
  have B6 := B5.trans (b6.mono B5.size)
  have I6 := (I5.below b6 (Nat.le_refl _)).mono b6.size
  clear I5
  have IP := P6.pay
  rw [HL.out] at IP
  have IS := S6.pay
  rw [HM.out] at IS
  clear K5 P5 C5 S5 B5 b6
  go_wp2
  refine wp_region_held_drew (S := (fun w' => Below w6.heap.size w6 w')) (by kernel_rfl) (Below.refl _ w6).drew (fun hHeld => ?_)
  refine wpAnyH_take (i := 0) (oi := ({ dst := some 31, op := Op.move (Operand.tmp 8), type := 28, pos := _, after := #[], guard := none } : Oper)) (v := ?_) rfl (by kernel_rfl) (by kernel_rfl) (by kernel_rfl) (fun _ _ _ h => h) (Or.inl ⟨by rfl, ?_⟩) hHeld ?_
  rotate_left
  · (intro w hS; go_simp; try with_reducible rfl)
  try simp only [Act.put, List.setIfInBounds_toArray, List.set_cons_zero, List.set_cons_succ]
  refine wpAnyH_take (i := 1) (oi := ({ dst := some 32, op := Op.load 23 (Operand.tmp 3), type := 23, pos := _, after := #[], guard := none } : Oper))  rfl (by kernel_rfl) (by kernel_rfl) (by kernel_rfl) (fun _ _ _ h => h) (yields_ld rfl rfl rfl (fun w hS => run_ld23 w _ _ _ _ _ _ _ (K6.below hS K6.lt))) hHeld ?_
  try simp only [Act.put, List.setIfInBounds_toArray, List.set_cons_zero, List.set_cons_succ]
  refine wpAnyH_take (i := 2) (oi := ({ dst := some 33, op := Op.slice 24 (Operand.tmp 4) none none none, type := 28, pos := _, after := #[], guard := none } : Oper)) (v := ?_) rfl (by kernel_rfl) (by kernel_rfl) (by kernel_rfl) (fun _ _ _ h => h) (Or.inl ⟨by rfl, ?_⟩) hHeld ?_
  rotate_left
  · (intro w hS; go_simp; try with_reducible rfl)
  try simp only [Act.put, List.setIfInBounds_toArray, List.set_cons_zero, List.set_cons_succ]
  refine wpAnyH_take (i := 3) (oi := ({ dst := some 34, op := Op.move (Operand.tmp 2), type := 4, pos := _, after := #[], guard := none } : Oper)) (v := ?_) rfl (by kernel_rfl) (by kernel_rfl) (by kernel_rfl) (fun _ _ _ h => h) (Or.inl ⟨by rfl, ?_⟩) hHeld ?_
  rotate_left
  · (intro w hS; go_simp; try with_reducible rfl)
  try simp only [Act.put, List.setIfInBounds_toArray, List.set_cons_zero, List.set_cons_succ]
  refine wpAnyH_ready (rs := [4]) (by kernel_rfl) (by simp) ?_
  refine AllReadyH.cons (o := ({ dst := some 35, op := Op.call { callee := Callee.value (Operand.func 16), args := #[Operand.tmp 32, Operand.tmp 33, Operand.tmp 34], argTypes := #[23, 28, 4] }, type := 28, pos := _, after := #[{ on := 1, ground := Ground.data }, { on := 2, ground := Ground.data }, { on := 3, ground := Ground.data }], guard := none } : Oper)) rfl (fun K hK => ?_) AllReadyH.nil
  refine step_call (refbuild_yes nni g p v t c n x0 x1 x2 x3 _ _ ps _ (IP.below hHeld (Nat.le_refl _)) hHeld.size (by intro h; cases h) HR.out HN.out HX.out) (enters_of Tryd.func16 (by kernel_rfl) rfl) _ _ rfl rfl rfl ?_
  rintro e w7 ⟨a7, c7, rfl, J7, b7⟩
  refine ⟨_, rfl, hK.out _ _ (hHeld.trans (b7.mono hHeld.size)) (fun hHeld => ?_)⟩
  clear hK K
  try simp only [Act.put, List.setIfInBounds_toArray, List.set_cons_zero, List.set_cons_succ]
  refine wpAnyH_ready (rs := [5]) (by kernel_rfl) (by simp) ?_
  refine AllReadyH.cons (o := ({ dst := some 36, op := Op.call { callee := Callee.value (Operand.func 15), args := #[Operand.tmp 31, Operand.tmp 35], argTypes := #[28, 28] }, type := 4, pos := _, after := #[{ on := 0, ground := Ground.data }, { on := 4, ground := Ground.data }, { on := 4, ground := Ground.chain }], guard := none } : Oper)) rfl (fun K hK => ?_) AllReadyH.nil
  refine step_call (same_calls _ _ _ _ _ _ _ _ _ (I6.below hHeld (Nat.le_refl _)) J7 hHeld.size (Nat.le_refl _) (by decide)) (enters_of Tryd.func15 (by kernel_rfl) rfl) _ _ rfl rfl rfl ?_
  rintro e w8 ⟨rfl, b8⟩
  rw [beq_self_eq_true]
  refine ⟨_, rfl, hK.out _ _ (hHeld.trans (b8.mono hHeld.size)) (fun hHeld => ?_)⟩
  clear hK K
  try simp only [Act.put, List.setIfInBounds_toArray, List.set_cons_zero, List.set_cons_succ]
  refine wpAnyH_take (i := 6) (oi := ({ dst := some 37, op := Op.move (Operand.tmp 36), type := 4, pos := _, after := #[{ on := 5, ground := Ground.data }, { on := 5, ground := Ground.chain }], guard := none } : Oper)) (v := ?_) rfl (by kernel_rfl) (by kernel_rfl) (by kernel_rfl) (fun _ _ _ h => h) (Or.inl ⟨by rfl, ?_⟩) hHeld ?_
  rotate_left
  · (intro w hS; go_simp; try with_reducible rfl)
  try simp only [Act.put, List.setIfInBounds_toArray, List.set_cons_zero, List.set_cons_succ]
  refine wpAnyH_take (i := 7) (oi := ({ dst := some 38, op := Op.move (Operand.tmp 9), type := 29, pos := _, after := #[{ on := 6, ground := Ground.guard }], guard := some (6, true) } : Oper)) (v := ?_) rfl (by kernel_rfl) (by kernel_rfl) (by kernel_rfl) (fun _ _ _ h => h) (Or.inl ⟨by rfl, ?_⟩) hHeld ?_
  rotate_left
  · (intro w hS; go_simp; try with_reducible rfl)
  try simp only [Act.put, List.setIfInBounds_toArray, List.set_cons_zero, List.set_cons_succ]
  refine wpAnyH_take (i := 8) (oi := ({ dst := some 39, op := Op.binOp BinOp.eql 29 (Operand.tmp 38) (Operand.const (Value.int IntKind.i64 0)) 29, type := 4, pos := _, after := #[{ on := 7, ground := Ground.data }, { on := 6, ground := Ground.guard }], guard := some (6, true) } : Oper)) (v := ?_) rfl (by kernel_rfl) (by kernel_rfl) (by kernel_rfl) (fun _ _ _ h => h) (Or.inl ⟨by rfl, ?_⟩) hHeld ?_
  rotate_left
  · (intro w hS; go_simp; try with_reducible rfl)
  try simp only [Act.put, List.setIfInBounds_toArray, List.set_cons_zero, List.set_cons_succ]
  refine wpAnyH_take (i := 9) (oi := ({ dst := some 40, op := Op.move (Operand.tmp 10), type := 4, pos := _, after := #[{ on := 6, ground := Ground.guard }], guard := some (6, true) } : Oper)) (v := ?_) rfl (by kernel_rfl) (by kernel_rfl) (by kernel_rfl) (fun _ _ _ h => h) (Or.inl ⟨by rfl, ?_⟩) hHeld ?_
  rotate_left
  · (intro w hS; go_simp; try with_reducible rfl)
  try simp only [Act.put, List.setIfInBounds_toArray, List.set_cons_zero, List.set_cons_succ]
  refine wpAnyH_take (i := 10) (oi := ({ dst := some 41, op := Op.binOp BinOp.eql 4 (Operand.tmp 39) (Operand.tmp 40) 4, type := 4, pos := _, after := #[{ on := 8, ground := Ground.data }, { on := 9, ground := Ground.data }, { on := 6, ground := Ground.guard }], guard := some (6, true) } : Oper)) (v := ?_) rfl (by kernel_rfl) (by kernel_rfl) (by kernel_rfl) (fun _ _ _ h => h) (Or.inl ⟨by rfl, ?_⟩) hHeld ?_
  rotate_left
  · (intro w hS; go_simp; try with_reducible rfl)
  try simp only [Act.put, List.setIfInBounds_toArray, List.set_cons_zero, List.set_cons_succ]
  refine wpAnyH_take (i := 11) (oi := ({ dst := some 42, op := Op.pick (Operand.tmp 37) (Operand.tmp 41) (Operand.const (Value.bool false)), type := 4, pos := _, after := #[{ on := 6, ground := Ground.data }, { on := 10, ground := Ground.data }], guard := none } : Oper)) (v := ?_) rfl (by kernel_rfl) (by kernel_rfl) (by kernel_rfl) (fun _ _ _ h => h) (Or.inl ⟨by rfl, ?_⟩) hHeld ?_
  rotate_left
  · (intro w hS; go_simp; try with_reducible rfl)
  try simp only [Act.put, List.setIfInBounds_toArray, List.set_cons_zero, List.set_cons_succ]
  refine wpAnyH_take (i := 12) (oi := ({ dst := some 43, op := Op.move (Operand.tmp 42), type := 4, pos := _, after := #[{ on := 11, ground := Ground.data }, { on := 6, ground := Ground.chain }], guard := none } : Oper)) (v := ?_) rfl (by kernel_rfl) (by kernel_rfl) (by kernel_rfl) (fun _ _ _ h => h) (Or.inl ⟨by rfl, ?_⟩) hHeld ?_
  rotate_left
  · (intro w hS; go_simp; try with_reducible rfl)
  try simp only [Act.put, List.setIfInBounds_toArray, List.set_cons_zero, List.set_cons_succ]
  refine wpAnyH_take (i := 13) (oi := ({ dst := some 44, op := Op.move (Operand.tmp 10), type := 4, pos := _, after := #[{ on := 12, ground := Ground.guard }], guard := some (12, true) } : Oper)) (v := ?_) rfl (by kernel_rfl) (by kernel_rfl) (by kernel_rfl) (fun _ _ _ h => h) (Or.inl ⟨by rfl, ?_⟩) hHeld ?_
  rotate_left
  · (intro w hS; go_simp; try with_reducible rfl)
  try simp only [Act.put, List.setIfInBounds_toArray, List.set_cons_zero, List.set_cons_succ]
  refine wpAnyH_take (i := 14) (oi := ({ dst := some 45, op := Op.move (Operand.tmp 44), type := 4, pos := _, after := #[{ on := 13, ground := Ground.data }, { on := 12, ground := Ground.chain }, { on := 12, ground := Ground.guard }], guard := some (12, true) } : Oper)) (v := ?_) rfl (by kernel_rfl) (by kernel_rfl) (by kernel_rfl) (fun _ _ _ h => h) (Or.inl ⟨by rfl, ?_⟩) hHeld ?_
  rotate_left
  · (intro w hS; go_simp; try with_reducible rfl)
  try simp only [Act.put, List.setIfInBounds_toArray, List.set_cons_zero, List.set_cons_succ]
  refine wpAnyH_take (i := 15) (oi := ({ dst := some 46, op := Op.move (Operand.tmp 9), type := 29, pos := _, after := #[{ on := 14, ground := Ground.guard }], guard := some (14, false) } : Oper)) (v := undef) rfl (by kernel_rfl) (by kernel_rfl) (by kernel_rfl) (fun _ _ _ h => h) (Or.inr ⟨by rfl, rfl⟩) hHeld ?_
  try simp only [Act.put, List.setIfInBounds_toArray, List.set_cons_zero, List.set_cons_succ]
  refine wpAnyH_take (i := 16) (oi := ({ dst := some 47, op := Op.binOp BinOp.eql 29 (Operand.tmp 46) (Operand.const (Value.int IntKind.i64 1)) 29, type := 4, pos := _, after := #[{ on := 15, ground := Ground.data }, { on := 14, ground := Ground.guard }], guard := some (14, false) } : Oper)) (v := undef) rfl (by kernel_rfl) (by kernel_rfl) (by kernel_rfl) (fun _ _ _ h => h) (Or.inr ⟨by rfl, rfl⟩) hHeld ?_
  try simp only [Act.put, List.setIfInBounds_toArray, List.set_cons_zero, List.set_cons_succ]
  refine wpAnyH_take (i := 17) (oi := ({ dst := some 48, op := Op.pick (Operand.tmp 45) (Operand.const (Value.bool true)) (Operand.tmp 47), type := 4, pos := _, after := #[{ on := 14, ground := Ground.data }, { on := 16, ground := Ground.data }, { on := 12, ground := Ground.guard }], guard := some (12, true) } : Oper)) (v := ?_) rfl (by kernel_rfl) (by kernel_rfl) (by kernel_rfl) (fun _ _ _ h => h) (Or.inl ⟨by rfl, ?_⟩) hHeld ?_
  rotate_left
  · (intro w hS; go_simp; try with_reducible rfl)
  try simp only [Act.put, List.setIfInBounds_toArray, List.set_cons_zero, List.set_cons_succ]
  refine wpAnyH_take (i := 18) (oi := ({ dst := some 49, op := Op.pick (Operand.tmp 43) (Operand.tmp 48) (Operand.const (Value.bool false)), type := 4, pos := _, after := #[{ on := 12, ground := Ground.data }, { on := 17, ground := Ground.data }], guard := none } : Oper)) (v := ?_) rfl (by kernel_rfl) (by kernel_rfl) (by kernel_rfl) (fun _ _ _ h => h) (Or.inl ⟨by rfl, ?_⟩) hHeld ?_
  rotate_left
  · (intro w hS; go_simp; try with_reducible rfl)
  try simp only [Act.put, List.setIfInBounds_toArray, List.set_cons_zero, List.set_cons_succ]
  refine wpAnyH_take (i := 19) (oi := ({ dst := some 50, op := Op.move (Operand.tmp 49), type := 4, pos := _, after := #[{ on := 18, ground := Ground.data }, { on := 14, ground := Ground.chain }], guard := none } : Oper)) (v := ?_) rfl (by kernel_rfl) (by kernel_rfl) (by kernel_rfl) (fun _ _ _ h => h) (Or.inl ⟨by rfl, ?_⟩) hHeld ?_
  rotate_left
  · (intro w hS; go_simp; try with_reducible rfl)
  try simp only [Act.put, List.setIfInBounds_toArray, List.set_cons_zero, List.set_cons_succ]
  refine wpAnyH_take (i := 20) (oi := ({ dst := some 51, op := Op.load 27 (Operand.tmp 7), type := 27, pos := _, after := #[{ on := 19, ground := Ground.guard }], guard := some (19, true) } : Oper))  rfl (by kernel_rfl) (by kernel_rfl) (by kernel_rfl) (fun _ _ _ h => h) (yields_ld rfl rfl rfl (fun w hS => run_ld27 w _ _ _ _ _ _ _ _ (C6.below hS C6.lt) HL.out)) hHeld ?_
  try simp only [Act.put, List.setIfInBounds_toArray, List.set_cons_zero, List.set_cons_succ]
  refine wpAnyH_take (i := 22) (oi := ({ dst := some 53, op := Op.move (Operand.tmp 12), type := 3, pos := _, after := #[{ on := 19, ground := Ground.guard }], guard := some (19, true) } : Oper)) (v := ?_) rfl (by kernel_rfl) (by kernel_rfl) (by kernel_rfl) (fun _ _ _ h => h) (Or.inl ⟨by rfl, ?_⟩) hHeld ?_
  rotate_left
  · (intro w hS; go_simp; try with_reducible rfl)
  try simp only [Act.put, List.setIfInBounds_toArray, List.set_cons_zero, List.set_cons_succ]
  refine wpAnyH_take (i := 23) (oi := ({ dst := some 54, op := Op.binOp BinOp.eql 3 (Operand.tmp 53) (Operand.const (Value.int IntKind.i64 2)) 3, type := 4, pos := _, after := #[{ on := 22, ground := Ground.data }, { on := 19, ground := Ground.guard }], guard := some (19, true) } : Oper)) (v := ?_) rfl (by kernel_rfl) (by kernel_rfl) (by kernel_rfl) (fun _ _ _ h => h) (Or.inl ⟨by rfl, ?_⟩) hHeld ?_
  rotate_left
  · (intro w hS; go_simp; try with_reducible rfl)
  try simp only [Act.put, List.setIfInBounds_toArray, List.set_cons_zero, List.set_cons_succ]
  refine wpAnyH_ready (rs := [21]) (by kernel_rfl) (by simp) ?_
  refine AllReadyH.cons (o := ({ dst := some 52, op := Op.call { callee := Callee.value (Operand.func 17), args := #[Operand.tmp 51], argTypes := #[27] }, type := 4, pos := _, after := #[{ on := 20, ground := Ground.data }, { on := 19, ground := Ground.chain }, { on := 19, ground := Ground.guard }], guard := some (19, true) } : Oper)) rfl (fun K hK => ?_) AllReadyH.nil
  refine step_call (empty_calls g p v t c ps _) (enters_of Tryd.func17 (by kernel_rfl) rfl) _ _ rfl rfl rfl ?_
  rintro e w9 ⟨rfl, b9⟩
  rw [HE'.out]
  refine ⟨_, rfl, hK.out _ _ (hHeld.trans (b9.mono hHeld.size)) (fun hHeld => ?_)⟩
  clear hK K
  try simp only [Act.put, List.setIfInBounds_toArray, List.set_cons_zero, List.set_cons_succ]
  refine wpAnyH_take (i := 24) (oi := ({ dst := some 55, op := Op.move (Operand.tmp 54), type := 4, pos := _, after := #[{ on := 23, ground := Ground.data }, { on := 21, ground := Ground.chain }, { on := 19, ground := Ground.guard }], guard := some (19, true) } : Oper)) (v := ?_) rfl (by kernel_rfl) (by kernel_rfl) (by kernel_rfl) (fun _ _ _ h => h) (Or.inl ⟨by rfl, ?_⟩) hHeld ?_
  rotate_left
  · (intro w hS; go_simp; try with_reducible rfl)
  try simp only [Act.put, List.setIfInBounds_toArray, List.set_cons_zero, List.set_cons_succ]
  refine wpAnyH_take (i := 25) (oi := ({ dst := some 56, op := Op.move (Operand.tmp 12), type := 3, pos := _, after := #[{ on := 24, ground := Ground.guard }], guard := some (24, false) } : Oper)) (v := ?_) rfl (by kernel_rfl) (by kernel_rfl) (by kernel_rfl) (fun _ _ _ h => h) (Or.inl ⟨by rfl, ?_⟩) hHeld ?_
  rotate_left
  · (intro w hS; go_simp; try with_reducible rfl)
  try simp only [Act.put, List.setIfInBounds_toArray, List.set_cons_zero, List.set_cons_succ]
  refine wpAnyH_take (i := 26) (oi := ({ dst := some 57, op := Op.binOp BinOp.eql 3 (Operand.tmp 56) (Operand.const (Value.int IntKind.i64 3)) 3, type := 4, pos := _, after := #[{ on := 25, ground := Ground.data }, { on := 24, ground := Ground.guard }], guard := some (24, false) } : Oper)) (v := ?_) rfl (by kernel_rfl) (by kernel_rfl) (by kernel_rfl) (fun _ _ _ h => h) (Or.inl ⟨by rfl, ?_⟩) hHeld ?_
  rotate_left
  · (intro w hS; go_simp; try with_reducible rfl)
  try simp only [Act.put, List.setIfInBounds_toArray, List.set_cons_zero, List.set_cons_succ]
  refine wpAnyH_take (i := 27) (oi := ({ dst := some 58, op := Op.pick (Operand.tmp 55) (Operand.const (Value.bool true)) (Operand.tmp 57), type := 4, pos := _, after := #[{ on := 24, ground := Ground.data }, { on := 26, ground := Ground.data }, { on := 19, ground := Ground.guard }], guard := some (19, true) } : Oper)) (v := ?_) rfl (by kernel_rfl) (by kernel_rfl) (by kernel_rfl) (fun _ _ _ h => h) (Or.inl ⟨by rfl, ?_⟩) hHeld ?_
  rotate_left
  · (intro w hS; go_simp; try with_reducible rfl)
  try simp only [Act.put, List.setIfInBounds_toArray, List.set_cons_zero, List.set_cons_succ]
  refine wpAnyH_take (i := 28) (oi := ({ dst := some 59, op := Op.binOp BinOp.eql 4 (Operand.tmp 52) (Operand.tmp 58) 4, type := 4, pos := _, after := #[{ on := 21, ground := Ground.data }, { on := 27, ground := Ground.data }, { on := 19, ground := Ground.guard }], guard := some (19, true) } : Oper)) (v := ?_) rfl (by kernel_rfl) (by kernel_rfl) (by kernel_rfl) (fun _ _ _ h => h) (Or.inl ⟨by rfl, ?_⟩) hHeld ?_
  rotate_left
  · (intro w hS; go_simp; try with_reducible rfl)
  try simp only [Act.put, List.setIfInBounds_toArray, List.set_cons_zero, List.set_cons_succ]
  refine wpAnyH_take (i := 29) (oi := ({ dst := some 60, op := Op.pick (Operand.tmp 50) (Operand.tmp 59) (Operand.const (Value.bool false)), type := 4, pos := _, after := #[{ on := 19, ground := Ground.data }, { on := 28, ground := Ground.data }], guard := none } : Oper)) (v := ?_) rfl (by kernel_rfl) (by kernel_rfl) (by kernel_rfl) (fun _ _ _ h => h) (Or.inl ⟨by rfl, ?_⟩) hHeld ?_
  rotate_left
  · (intro w hS; go_simp; try with_reducible rfl)
  try simp only [Act.put, List.setIfInBounds_toArray, List.set_cons_zero, List.set_cons_succ]
  refine wpAnyH_take (i := 30) (oi := ({ dst := some 61, op := Op.move (Operand.tmp 60), type := 4, pos := _, after := #[{ on := 29, ground := Ground.data }, { on := 24, ground := Ground.chain }], guard := none } : Oper)) (v := ?_) rfl (by kernel_rfl) (by kernel_rfl) (by kernel_rfl) (fun _ _ _ h => h) (Or.inl ⟨by rfl, ?_⟩) hHeld ?_
  rotate_left
  · (intro w hS; go_simp; try with_reducible rfl)
  try simp only [Act.put, List.setIfInBounds_toArray, List.set_cons_zero, List.set_cons_succ]
  refine wpAnyH_take (i := 31) (oi := ({ dst := some 62, op := Op.slice 24 (Operand.tmp 11) none none none, type := 28, pos := _, after := #[{ on := 30, ground := Ground.guard }], guard := some (30, true) } : Oper)) (v := ?_) rfl (by kernel_rfl) (by kernel_rfl) (by kernel_rfl) (fun _ _ _ h => h) (Or.inl ⟨by rfl, ?_⟩) hHeld ?_
  rotate_left
  · (intro w hS; go_simp; try with_reducible rfl)
  try simp only [Act.put, List.setIfInBounds_toArray, List.set_cons_zero, List.set_cons_succ]
  refine wpAnyH_take (i := 32) (oi := ({ dst := some 63, op := Op.slice 24 (Operand.tmp 4) none none none, type := 28, pos := _, after := #[{ on := 30, ground := Ground.guard }], guard := some (30, true) } : Oper)) (v := ?_) rfl (by kernel_rfl) (by kernel_rfl) (by kernel_rfl) (fun _ _ _ h => h) (Or.inl ⟨by rfl, ?_⟩) hHeld ?_
  rotate_left
  · (intro w hS; go_simp; try with_reducible rfl)
  try simp only [Act.put, List.setIfInBounds_toArray, List.set_cons_zero, List.set_cons_succ]
  refine wpAnyH_ready (rs := [33]) (by kernel_rfl) (by simp) ?_
  refine AllReadyH.cons (o := ({ dst := some 64, op := Op.call { callee := Callee.value (Operand.func 18), args := #[Operand.tmp 63], argTypes := #[28] }, type := 28, pos := _, after := #[{ on := 32, ground := Ground.data }, { on := 30, ground := Ground.chain }, { on := 30, ground := Ground.guard }], guard := some (30, true) } : Oper)) rfl (fun K hK => ?_) AllReadyH.nil
  refine step_call (refseal_calls _ _ ps _ (IP.below hHeld (Nat.le_refl _)) hHeld.size (by intro h; cases h)) (enters_of Tryd.func18 (by kernel_rfl) rfl) _ _ rfl rfl rfl ?_
  rintro e w10 ⟨a10, c10, rfl, J10, b10⟩
  refine ⟨_, rfl, hK.out _ _ (hHeld.trans (b10.mono hHeld.size)) (fun hHeld => ?_)⟩
  clear hK K
  try simp only [Act.put, List.setIfInBounds_toArray, List.set_cons_zero, List.set_cons_succ]
  refine wpAnyH_ready (rs := [34]) (by kernel_rfl) (by simp) ?_
  refine AllReadyH.cons (o := ({ dst := some 65, op := Op.call { callee := Callee.value (Operand.func 15), args := #[Operand.tmp 62, Operand.tmp 64], argTypes := #[28, 28] }, type := 4, pos := _, after := #[{ on := 31, ground := Ground.data }, { on := 33, ground := Ground.data }, { on := 33, ground := Ground.chain }, { on := 30, ground := Ground.guard }], guard := some (30, true) } : Oper)) rfl (fun K hK => ?_) AllReadyH.nil
  refine step_call (same_calls _ _ _ _ _ _ _ _ _ (IS.below hHeld (Nat.le_refl _)) J10 hHeld.size (Nat.le_refl _) (by decide)) (enters_of Tryd.func15 (by kernel_rfl) rfl) _ _ rfl rfl rfl ?_
  rintro e w11 ⟨rfl, b11⟩
  rw [beq_self_eq_true]
  refine ⟨_, rfl, hK.out _ _ (hHeld.trans (b11.mono hHeld.size)) (fun hHeld => ?_)⟩
  clear hK K
  try simp only [Act.put, List.setIfInBounds_toArray, List.set_cons_zero, List.set_cons_succ]
  refine wpAnyH_take (i := 35) (oi := ({ dst := some 66, op := Op.pick (Operand.tmp 61) (Operand.tmp 65) (Operand.const (Value.bool false)), type := 4, pos := _, after := #[{ on := 30, ground := Ground.data }, { on := 34, ground := Ground.data }], guard := none } : Oper)) (v := ?_) rfl (by kernel_rfl) (by kernel_rfl) (by kernel_rfl) (fun _ _ _ h => h) (Or.inl ⟨by rfl, ?_⟩) hHeld ?_
  rotate_left
  · (intro w hS; go_simp; try with_reducible rfl)
  try simp only [Act.put, List.setIfInBounds_toArray, List.set_cons_zero, List.set_cons_succ]
  refine wpAnyH_take (i := 36) (oi := ({ dst := some 67, op := Op.move (Operand.tmp 66), type := 4, pos := _, after := #[{ on := 35, ground := Ground.data }, { on := 34, ground := Ground.chain }], guard := none } : Oper)) (v := ?_) rfl (by kernel_rfl) (by kernel_rfl) (by kernel_rfl) (fun _ _ _ h => h) (Or.inl ⟨by rfl, ?_⟩) hHeld ?_
  rotate_left
  · (intro w hS; go_simp; try with_reducible rfl)
  try simp only [Act.put, List.setIfInBounds_toArray, List.set_cons_zero, List.set_cons_succ]
  refine wpAnyH_take (i := 37) (oi := ({ dst := some 68, op := Op.load 24 (Operand.tmp 4), type := 24, pos := _, after := #[{ on := 36, ground := Ground.guard }], guard := some (36, true) } : Oper))  rfl (by kernel_rfl) (by kernel_rfl) (by kernel_rfl) (fun _ _ _ h => h) (yields_ld rfl rfl rfl (fun w hS => run_ld24 w _ _ _ (P6.below hS P6.lt) HL.out)) hHeld ?_
  try simp only [Act.put, List.setIfInBounds_toArray, List.set_cons_zero, List.set_cons_succ]
  refine wpAnyH_take (i := 39) (oi := ({ dst := some 70, op := Op.slice 24 (Operand.tmp 4) none none none, type := 28, pos := _, after := #[{ on := 36, ground := Ground.guard }], guard := some (36, true) } : Oper)) (v := ?_) rfl (by kernel_rfl) (by kernel_rfl) (by kernel_rfl) (fun _ _ _ h => h) (Or.inl ⟨by rfl, ?_⟩) hHeld ?_
  rotate_left
  · (intro w hS; go_simp; try with_reducible rfl)
  try simp only [Act.put, List.setIfInBounds_toArray, List.set_cons_zero, List.set_cons_succ]
  refine wpAnyH_take (i := 40) (oi := ({ dst := some 71, op := Op.slice 24 (Operand.tmp 4) none none none, type := 28, pos := _, after := #[{ on := 36, ground := Ground.guard }], guard := some (36, true) } : Oper)) (v := ?_) rfl (by kernel_rfl) (by kernel_rfl) (by kernel_rfl) (fun _ _ _ h => h) (Or.inl ⟨by rfl, ?_⟩) hHeld ?_
  rotate_left
  · (intro w hS; go_simp; try with_reducible rfl)
  try simp only [Act.put, List.setIfInBounds_toArray, List.set_cons_zero, List.set_cons_succ]
  refine wpAnyH_ready (rs := [38]) (by kernel_rfl) (by simp) ?_
  refine AllReadyH.cons (o := ({ dst := some 69, op := Op.call { callee := Callee.value (Operand.func 19), args := #[Operand.tmp 68], argTypes := #[24] }, type := 4, pos := _, after := #[{ on := 37, ground := Ground.data }, { on := 36, ground := Ground.chain }, { on := 36, ground := Ground.guard }], guard := some (36, true) } : Oper)) rfl (fun K hK => ?_) AllReadyH.nil
  refine step_call (sealed_calls ps HL.out _) (enters_of Tryd.func19 (by kernel_rfl) rfl) _ _ rfl rfl rfl ?_
  rintro e w12 ⟨rfl, b12⟩
  rw [HD.out]
  refine ⟨_, rfl, hK.out _ _ (hHeld.trans (b12.mono hHeld.size)) (fun hHeld => ?_)⟩
  clear hK K
  try simp only [Act.put, List.setIfInBounds_toArray, List.set_cons_zero, List.set_cons_succ]
  refine wpAnyH_ready (rs := [41]) (by kernel_rfl) (by simp) ?_
  refine AllReadyH.cons (o := ({ dst := some 72, op := Op.call { callee := Callee.value (Operand.func 18), args := #[Operand.tmp 71], argTypes := #[28] }, type := 28, pos := _, after := #[{ on := 40, ground := Ground.data }, { on := 38, ground := Ground.chain }, { on := 36, ground := Ground.guard }], guard := some (36, true) } : Oper)) rfl (fun K hK => ?_) AllReadyH.nil
  refine step_call (refseal_calls _ _ ps _ (IP.below hHeld (Nat.le_refl _)) hHeld.size (by intro h; cases h)) (enters_of Tryd.func18 (by kernel_rfl) rfl) _ _ rfl rfl rfl ?_
  rintro e w13 ⟨a13, c13, rfl, J13, b13⟩
  refine ⟨_, rfl, hK.out _ _ (hHeld.trans (b13.mono hHeld.size)) (fun hHeld => ?_)⟩
  clear hK K
  try simp only [Act.put, List.setIfInBounds_toArray, List.set_cons_zero, List.set_cons_succ]
  refine wpAnyH_ready (rs := [42]) (by kernel_rfl) (by simp) ?_
  refine AllReadyH.cons (o := ({ dst := some 73, op := Op.call { callee := Callee.value (Operand.func 15), args := #[Operand.tmp 70, Operand.tmp 72], argTypes := #[28, 28] }, type := 4, pos := _, after := #[{ on := 39, ground := Ground.data }, { on := 41, ground := Ground.data }, { on := 41, ground := Ground.chain }, { on := 36, ground := Ground.guard }], guard := some (36, true) } : Oper)) rfl (fun K hK => ?_) AllReadyH.nil
  refine step_call (same_calls _ _ _ _ _ _ _ _ _ (IP.below hHeld (Nat.le_refl _)) J13 hHeld.size (Nat.le_refl _) (by decide)) (enters_of Tryd.func15 (by kernel_rfl) rfl) _ _ rfl rfl rfl ?_
  rintro e w14 ⟨rfl, b14⟩
  rw [HD2.out]
  refine ⟨_, rfl, hK.out _ _ (hHeld.trans (b14.mono hHeld.size)) (fun hHeld => ?_)⟩
  clear hK K
  try simp only [Act.put, List.setIfInBounds_toArray, List.set_cons_zero, List.set_cons_succ]
  refine wpAnyH_take (i := 43) (oi := ({ dst := some 74, op := Op.binOp BinOp.eql 4 (Operand.tmp 69) (Operand.tmp 73) 4, type := 4, pos := _, after := #[{ on := 38, ground := Ground.data }, { on := 42, ground := Ground.data }, { on := 36, ground := Ground.guard }], guard := some (36, true) } : Oper)) (v := ?_) rfl (by kernel_rfl) (by kernel_rfl) (by kernel_rfl) (fun _ _ _ h => h) (Or.inl ⟨by rfl, ?_⟩) hHeld ?_
  rotate_left
  · (intro w hS; go_simp; try with_reducible rfl)
  try simp only [Act.put, List.setIfInBounds_toArray, List.set_cons_zero, List.set_cons_succ]
  refine wpAnyH_take (i := 44) (oi := ({ dst := some 75, op := Op.pick (Operand.tmp 67) (Operand.tmp 74) (Operand.const (Value.bool false)), type := 4, pos := _, after := #[{ on := 36, ground := Ground.data }, { on := 43, ground := Ground.data }], guard := none } : Oper)) (v := ?_) rfl (by kernel_rfl) (by kernel_rfl) (by kernel_rfl) (fun _ _ _ h => h) (Or.inl ⟨by rfl, ?_⟩) hHeld ?_
  rotate_left
  · (intro w hS; go_simp; try with_reducible rfl)
  try simp only [Act.put, List.setIfInBounds_toArray, List.set_cons_zero, List.set_cons_succ]
  refine wpAnyH_take (i := 45) (oi := ({ dst := some 6, op := Op.assign (Operand.tmp 75), type := 4, pos := _, after := #[{ on := 44, ground := Ground.data }, { on := 42, ground := Ground.chain }, { on := 0, ground := Ground.phase }, { on := 1, ground := Ground.phase }, { on := 2, ground := Ground.phase }, { on := 3, ground := Ground.phase }, { on := 4, ground := Ground.phase }, { on := 5, ground := Ground.phase }, { on := 6, ground := Ground.phase }, { on := 7, ground := Ground.phase }, { on := 8, ground := Ground.phase }, { on := 9, ground := Ground.phase }, { on := 10, ground := Ground.phase }, { on := 11, ground := Ground.phase }, { on := 12, ground := Ground.phase }, { on := 13, ground := Ground.phase }, { on := 14, ground := Ground.phase }, { on := 15, ground := Ground.phase }, { on := 16, ground := Ground.phase }, { on := 17, ground := Ground.phase }, { on := 18, ground := Ground.phase }, { on := 19, ground := Ground.phase }, { on := 20, ground := Ground.phase }, { on := 21, ground := Ground.phase }, { on := 22, ground := Ground.phase }, { on := 23, ground := Ground.phase }, { on := 24, ground := Ground.phase }, { on := 25, ground := Ground.phase }, { on := 26, ground := Ground.phase }, { on := 27, ground := Ground.phase }, { on := 28, ground := Ground.phase }, { on := 29, ground := Ground.phase }, { on := 30, ground := Ground.phase }, { on := 31, ground := Ground.phase }, { on := 32, ground := Ground.phase }, { on := 33, ground := Ground.phase }, { on := 34, ground := Ground.phase }, { on := 35, ground := Ground.phase }, { on := 36, ground := Ground.phase }, { on := 37, ground := Ground.phase }, { on := 38, ground := Ground.phase }, { on := 39, ground := Ground.phase }, { on := 40, ground := Ground.phase }, { on := 41, ground := Ground.phase }, { on := 42, ground := Ground.phase }, { on := 43, ground := Ground.phase }, { on := 44, ground := Ground.phase }], guard := none } : Oper)) (v := ?_) rfl (by kernel_rfl) (by kernel_rfl) (by kernel_rfl) (fun _ _ _ h => h) (Or.inl ⟨by rfl, ?_⟩) hHeld ?_
  rotate_left
  · (intro w hS; go_simp; try with_reducible rfl)
  try simp only [Act.put, List.setIfInBounds_toArray, List.set_cons_zero, List.set_cons_succ]
  refine wpAnyH_done (by kernel_rfl) ?_ _
  go_wp2
  go_ret
  exact ⟨ret_bool (by cases db <;> rfl), B6.trans (hHeld.mono B6.size)⟩
end Go.Proofs.YtpifmljbaogcbaaDoor

/- Proved here: the walk of CellBuilds, where the header cannot be. Conditions: as each theorem states them. -/
namespace Go.Proofs.YtpifmljbaogcbaaDoor
set_option linter.unusedSimpArgs false
set_option linter.unusedVariables false
open Go.RowKit
open H (Tab rightB bytesN same_calls kindN refright_calls refkind_calls)

set_option maxRecDepth 20000 in
set_option maxHeartbeats 8000000 in
theorem builds_wt (g p v t c : Int) (ps : List UInt8) (hp : ps.length = 48) (nni : Bool) (w : World) (tab : Tab w) (hr : rightB nni g p v t c = false) (hk : (kindN p v t c == 2) = true) :
    Calls Tryd.prog 3 #[.agg (hdrV g p v t c), .agg (payV ps), .bool nni] w fun e w' => e = .returned (.bool true) ∧ Below w.heap.size w w' := by
  have HL : Hid (ps.length = 48) := hp
  have HR : Hid (rightB nni g p v t c = false) := hr
  have HM : Hid ((sealN ps).length = 48) := (sealN_length ps).trans hp
  obtain ⟨kk, hkk⟩ : ∃ kk, kindN p v t c = kk := ⟨_, rfl⟩
  have HK : Hid (kindN p v t c = kk) := hkk
  have HE : Hid (emptyB p v t c = (kk == 2 || kk == 3)) := by rw [Hid, emptyB, hkk]
  rw [hkk] at hk
  obtain ⟨b3, hb3⟩ : ∃ b3, (kk == 3) = b3 := ⟨_, rfl⟩
  have HE' : Hid (emptyB p v t c = true) := by rw [Hid, HE.out, hk, hb3]; rfl
  obtain ⟨db, hdb⟩ : ∃ db, decide (sealN ps = ps) = db := ⟨_, rfl⟩
  have HD : Hid (decide (sealN ps = ps) = db) := hdb
  have HD2 : Hid ((ps == sealN ps) = db) := by
    rw [Hid, ← hdb]
    by_cases h : sealN ps = ps
    · rw [h]; simp
    · rw [decide_eq_false h, beq_eq_false_iff_ne]; exact fun e => h e.symm
  have K0 := (bk_new w (hdrV g p v t c) 23).alloc (.cells (payV ps) 24)
  have P0 := bk_new (w.alloc (.cells (hdrV g p v t c) 23)) (payV ps) 24
  have A0 : Below w.heap.size w ((w.alloc (.cells (hdrV g p v t c) 23)).alloc (.cells (payV ps) 24)) := ((Below.refl _ w).alloc (Nat.le_refl _) _).alloc (by simp) _
  rw [World.size_alloc] at P0
  clear hp hr hkk hdb
  go_enter Tryd.func3, Tryd.ntmps3
  go_wp2_with fail
  refine (awake_calls _ (tab.below A0 tab.1)).mono ?_
  rintro e w1 ⟨rfl, b1⟩
  have K1 := K0.below b1 K0.lt
  have P1 := P0.below b1 P0.lt
  have B0 := A0.trans (b1.mono A0.size)
  clear K0 P0 A0 b1
  go_wp2_with (first | (with_reducible show wpList _ _ _ (Oper.mk _ (Op.load 23 _) _ _ _ _ :: _) _ _; refine wpList_ld rfl rfl rfl (run_ld23 _ _ _ _ _ _ _ _ (by assumption)) ?_; (try simp only [Act.put, List.setIfInBounds_toArray, List.set_cons_zero, List.set_cons_succ, World.size_alloc])) | (with_reducible show wpList _ _ _ (Oper.mk _ (Op.load 24 _) _ _ _ _ :: _) _ _; refine wpList_ld rfl rfl rfl (run_ld24 _ _ _ _ (by assumption) (by first | exact HL.out | exact HM.out)) ?_; (try simp only [Act.put, List.setIfInBounds_toArray, List.set_cons_zero, List.set_cons_succ, World.size_alloc])) | (with_reducible show wpList _ _ _ (Oper.mk _ (Op.build 27 _) _ _ _ _ :: _) _ _; refine wpList_bldf rfl (by first | exact HL.out | exact HM.out) rfl rfl rfl ?_; (try simp only [Act.put, List.setIfInBounds_toArray, List.set_cons_zero, List.set_cons_succ, World.size_alloc])) | ((with_reducible show wpList _ _ _ (Oper.mk _ (Op.alloc 27) _ _ _ _ :: Oper.mk _ (Op.store 27 _ _) _ _ _ _ :: _) _ _; refine wpList_defL rfl rfl rfl rfl rfl zero27 (by rw [size27, cellV_size]; (try simp only [Option.some.injEq, zer, List.length_replicate]) <;> first | rfl | (have := HL.out; omega) | (have := HM.out; omega)) (by first | rfl | (simp only [cellV_size]; done) | (rw [cellV_size, cellV_size]; (try simp only [zer, List.length_replicate]) <;> first | rfl | (have := HL.out; omega) | (have := HM.out; omega) | (have := HL.out; have := HM.out; omega))) (cellV_one _ _ _ _ _ _) rfl ?_); intro W1 C1 b1 z1; have K1' := K1.below b1 K1.lt; have P1' := P1.below b1 P1.lt; clear K1 P1; try simp only [Act.put, List.setIfInBounds_toArray, List.set_cons_zero, List.set_cons_succ]) | (with_reducible show wpList _ _ _ (Oper.mk _ (Op.load 27 _) _ _ _ _ :: _) _ _; refine wpList_ld rfl rfl rfl (run_ld27 _ _ _ _ _ _ _ _ _ (by assumption) (by first | exact HL.out | exact HM.out)) ?_; (try simp only [Act.put, List.setIfInBounds_toArray, List.set_cons_zero, List.set_cons_succ, World.size_alloc])))
  have B1 := B0.trans (b1.mono B0.size)
  clear B0 b1 z1
  refine (build_no nni g p v t c ps _ (tab.below B1 tab.1) HR.out).mono ?_
  rintro e w2 ⟨rfl, b2⟩
  have K2 := K1'.below b2 K1'.lt
  have P2 := P1'.below b2 P1'.lt
  have C2 := C1.below b2 C1.lt
  have B2 := B1.trans (b2.mono B1.size)
  clear K1' P1' C1 B1 b2
  go_wp2_with (first | (with_reducible show wpList _ _ _ (Oper.mk _ (Op.load 23 _) _ _ _ _ :: _) _ _; refine wpList_ld rfl rfl rfl (run_ld23 _ _ _ _ _ _ _ _ (by assumption)) ?_; (try simp only [Act.put, List.setIfInBounds_toArray, List.set_cons_zero, List.set_cons_succ, World.size_alloc])))
  refine (refright_calls nni g p v t c _).mono ?_
  rintro e w3 ⟨rfl, b3'⟩
  rw [HR.out]
  have K3 := K2.below b3' K2.lt
  have P3 := P2.below b3' P2.lt
  have C3 := C2.below b3' C2.lt
  have B3 := B2.trans (b3'.mono B2.size)
  clear K2 P2 C2 B2 b3'
  go_wp2_with (first | (with_reducible show wpList _ _ _ (Oper.mk _ (Op.load 24 _) _ _ _ _ :: _) _ _; refine wpList_ld rfl rfl rfl (run_ld24 _ _ _ _ (by assumption) (by first | exact HL.out | exact HM.out)) ?_; (try simp only [Act.put, List.setIfInBounds_toArray, List.set_cons_zero, List.set_cons_succ, World.size_alloc])))
  refine (cseal_calls ps HL.out _).mono ?_
  rintro e w4 ⟨rfl, b4⟩
  have K4 := K3.below b4 K3.lt
  have P4 := P3.below b4 P3.lt
  have C4 := C3.below b4 C3.lt
  have B4 := B3.trans (b4.mono B3.size)
  clear K3 P3 C3 B3 b4
  go_wp2_with (first | ((with_reducible show wpList _ _ _ (Oper.mk _ (Op.alloc 24) _ _ _ _ :: Oper.mk _ (Op.store 24 _ _) _ _ _ _ :: _) _ _; refine wpList_defL rfl rfl rfl rfl rfl zero24 (by rw [size24, payV_size]; (try simp only [Option.some.injEq, zer, List.length_replicate]) <;> first | rfl | (have := HL.out; omega) | (have := HM.out; omega)) (by first | rfl | (simp only [payV_size]; done) | (rw [payV_size, payV_size]; (try simp only [zer, List.length_replicate]) <;> first | rfl | (have := HL.out; omega) | (have := HM.out; omega) | (have := HL.out; have := HM.out; omega))) (payV_one _) rfl ?_); intro W5 S5 b5 z5; have K5 := K4.below b5 K4.lt; have P5 := P4.below b5 P4.lt; have C5 := C4.below b5 C4.lt; clear K4 P4 C4; try simp only [Act.put, List.setIfInBounds_toArray, List.set_cons_zero, List.set_cons_succ]) | (with_reducible show wpList _ _ _ (Oper.mk _ (Op.load 23 _) _ _ _ _ :: _) _ _; refine wpList_ld rfl rfl rfl (run_ld23 _ _ _ _ _ _ _ _ (by assumption)) ?_; (try simp only [Act.put, List.setIfInBounds_toArray, List.set_cons_zero, List.set_cons_succ, World.size_alloc])))
  have B5 := B4.trans (b5.mono B4.size)
  clear B4 b5
  refine (refkind_calls g p v t c _).mono ?_
  rintro e w6 ⟨rfl, b6⟩
  rw [HK.out]
  have K6 := K5.below b6 K5.lt
  have P6 := P5.below b6 P5.lt
  have C6 := C5.below b6 C5.lt
  have S6 := S5.below b6 S5.lt
  have B6 := B5.trans (b6.mono B5.size)
  have IP := P6.pay
  rw [HL.out] at IP
  have IS := S6.pay
  rw [HM.out] at IS
  clear K5 P5 C5 S5 B5 b6
  go_wp2
  refine wp_region_held_drew (S := (fun w' => Below w6.heap.size w6 w')) (by kernel_rfl) (Below.refl _ w6).drew (fun hHeld => ?_)
  refine wpAnyH_take (i := 0) (oi := ({ dst := some 31, op := Op.move (Operand.tmp 8), type := 28, pos := _, after := #[], guard := none } : Oper)) (v := ?_) rfl (by kernel_rfl) (by kernel_rfl) (by kernel_rfl) (fun _ _ _ h => h) (Or.inl ⟨by rfl, ?_⟩) hHeld ?_
  rotate_left
  · (intro w hS; go_simp; try with_reducible rfl)
  try simp only [Act.put, List.setIfInBounds_toArray, List.set_cons_zero, List.set_cons_succ]
  refine wpAnyH_take (i := 1) (oi := ({ dst := some 32, op := Op.load 23 (Operand.tmp 3), type := 23, pos := _, after := #[], guard := none } : Oper))  rfl (by kernel_rfl) (by kernel_rfl) (by kernel_rfl) (fun _ _ _ h => h) (yields_ld rfl rfl rfl (fun w hS => run_ld23 w _ _ _ _ _ _ _ (K6.below hS K6.lt))) hHeld ?_
  try simp only [Act.put, List.setIfInBounds_toArray, List.set_cons_zero, List.set_cons_succ]
  refine wpAnyH_take (i := 2) (oi := ({ dst := some 33, op := Op.slice 24 (Operand.tmp 4) none none none, type := 28, pos := _, after := #[], guard := none } : Oper)) (v := ?_) rfl (by kernel_rfl) (by kernel_rfl) (by kernel_rfl) (fun _ _ _ h => h) (Or.inl ⟨by rfl, ?_⟩) hHeld ?_
  rotate_left
  · (intro w hS; go_simp; try with_reducible rfl)
  try simp only [Act.put, List.setIfInBounds_toArray, List.set_cons_zero, List.set_cons_succ]
  refine wpAnyH_take (i := 3) (oi := ({ dst := some 34, op := Op.move (Operand.tmp 2), type := 4, pos := _, after := #[], guard := none } : Oper)) (v := ?_) rfl (by kernel_rfl) (by kernel_rfl) (by kernel_rfl) (fun _ _ _ h => h) (Or.inl ⟨by rfl, ?_⟩) hHeld ?_
  rotate_left
  · (intro w hS; go_simp; try with_reducible rfl)
  try simp only [Act.put, List.setIfInBounds_toArray, List.set_cons_zero, List.set_cons_succ]
  refine wpAnyH_ready (rs := [4]) (by kernel_rfl) (by simp) ?_
  refine AllReadyH.cons (o := ({ dst := some 35, op := Op.call { callee := Callee.value (Operand.func 16), args := #[Operand.tmp 32, Operand.tmp 33, Operand.tmp 34], argTypes := #[23, 28, 4] }, type := 28, pos := _, after := #[{ on := 1, ground := Ground.data }, { on := 2, ground := Ground.data }, { on := 3, ground := Ground.data }], guard := none } : Oper)) rfl (fun K hK => ?_) AllReadyH.nil
  refine step_call (refbuild_no nni g p v t c _ _ HR.out) (enters_of Tryd.func16 (by kernel_rfl) rfl) _ _ rfl rfl rfl ?_
  rintro e w7 ⟨rfl, b7⟩
  refine ⟨_, rfl, hK.out _ _ (hHeld.trans (b7.mono hHeld.size)) (fun hHeld => ?_)⟩
  clear hK K
  try simp only [Act.put, List.setIfInBounds_toArray, List.set_cons_zero, List.set_cons_succ]
  refine wpAnyH_ready (rs := [5]) (by kernel_rfl) (by simp) ?_
  refine AllReadyH.cons (o := ({ dst := some 36, op := Op.call { callee := Callee.value (Operand.func 15), args := #[Operand.tmp 31, Operand.tmp 35], argTypes := #[28, 28] }, type := 4, pos := _, after := #[{ on := 0, ground := Ground.data }, { on := 4, ground := Ground.data }, { on := 4, ground := Ground.chain }], guard := none } : Oper)) rfl (fun K hK => ?_) AllReadyH.nil
  refine step_call (same_calls _ _ _ _ _ _ _ _ _ (isB_nil w6.heap.size _) (isB_nil w6.heap.size _) hHeld.size hHeld.size (by decide)) (enters_of Tryd.func15 (by kernel_rfl) rfl) _ _ rfl rfl rfl ?_
  rintro e w8 ⟨rfl, b8⟩
  rw [beq_self_eq_true]
  refine ⟨_, rfl, hK.out _ _ (hHeld.trans (b8.mono hHeld.size)) (fun hHeld => ?_)⟩
  clear hK K
  try simp only [Act.put, List.setIfInBounds_toArray, List.set_cons_zero, List.set_cons_succ]
  refine wpAnyH_take (i := 6) (oi := ({ dst := some 37, op := Op.move (Operand.tmp 36), type := 4, pos := _, after := #[{ on := 5, ground := Ground.data }, { on := 5, ground := Ground.chain }], guard := none } : Oper)) (v := ?_) rfl (by kernel_rfl) (by kernel_rfl) (by kernel_rfl) (fun _ _ _ h => h) (Or.inl ⟨by rfl, ?_⟩) hHeld ?_
  rotate_left
  · (intro w hS; go_simp; try with_reducible rfl)
  try simp only [Act.put, List.setIfInBounds_toArray, List.set_cons_zero, List.set_cons_succ]
  refine wpAnyH_take (i := 7) (oi := ({ dst := some 38, op := Op.move (Operand.tmp 9), type := 29, pos := _, after := #[{ on := 6, ground := Ground.guard }], guard := some (6, true) } : Oper)) (v := ?_) rfl (by kernel_rfl) (by kernel_rfl) (by kernel_rfl) (fun _ _ _ h => h) (Or.inl ⟨by rfl, ?_⟩) hHeld ?_
  rotate_left
  · (intro w hS; go_simp; try with_reducible rfl)
  try simp only [Act.put, List.setIfInBounds_toArray, List.set_cons_zero, List.set_cons_succ]
  refine wpAnyH_take (i := 8) (oi := ({ dst := some 39, op := Op.binOp BinOp.eql 29 (Operand.tmp 38) (Operand.const (Value.int IntKind.i64 0)) 29, type := 4, pos := _, after := #[{ on := 7, ground := Ground.data }, { on := 6, ground := Ground.guard }], guard := some (6, true) } : Oper)) (v := ?_) rfl (by kernel_rfl) (by kernel_rfl) (by kernel_rfl) (fun _ _ _ h => h) (Or.inl ⟨by rfl, ?_⟩) hHeld ?_
  rotate_left
  · (intro w hS; go_simp; try with_reducible rfl)
  try simp only [Act.put, List.setIfInBounds_toArray, List.set_cons_zero, List.set_cons_succ]
  refine wpAnyH_take (i := 9) (oi := ({ dst := some 40, op := Op.move (Operand.tmp 10), type := 4, pos := _, after := #[{ on := 6, ground := Ground.guard }], guard := some (6, true) } : Oper)) (v := ?_) rfl (by kernel_rfl) (by kernel_rfl) (by kernel_rfl) (fun _ _ _ h => h) (Or.inl ⟨by rfl, ?_⟩) hHeld ?_
  rotate_left
  · (intro w hS; go_simp; try with_reducible rfl)
  try simp only [Act.put, List.setIfInBounds_toArray, List.set_cons_zero, List.set_cons_succ]
  refine wpAnyH_take (i := 10) (oi := ({ dst := some 41, op := Op.binOp BinOp.eql 4 (Operand.tmp 39) (Operand.tmp 40) 4, type := 4, pos := _, after := #[{ on := 8, ground := Ground.data }, { on := 9, ground := Ground.data }, { on := 6, ground := Ground.guard }], guard := some (6, true) } : Oper)) (v := ?_) rfl (by kernel_rfl) (by kernel_rfl) (by kernel_rfl) (fun _ _ _ h => h) (Or.inl ⟨by rfl, ?_⟩) hHeld ?_
  rotate_left
  · (intro w hS; go_simp; try with_reducible rfl)
  try simp only [Act.put, List.setIfInBounds_toArray, List.set_cons_zero, List.set_cons_succ]
  refine wpAnyH_take (i := 11) (oi := ({ dst := some 42, op := Op.pick (Operand.tmp 37) (Operand.tmp 41) (Operand.const (Value.bool false)), type := 4, pos := _, after := #[{ on := 6, ground := Ground.data }, { on := 10, ground := Ground.data }], guard := none } : Oper)) (v := ?_) rfl (by kernel_rfl) (by kernel_rfl) (by kernel_rfl) (fun _ _ _ h => h) (Or.inl ⟨by rfl, ?_⟩) hHeld ?_
  rotate_left
  · (intro w hS; go_simp; try with_reducible rfl)
  try simp only [Act.put, List.setIfInBounds_toArray, List.set_cons_zero, List.set_cons_succ]
  refine wpAnyH_take (i := 12) (oi := ({ dst := some 43, op := Op.move (Operand.tmp 42), type := 4, pos := _, after := #[{ on := 11, ground := Ground.data }, { on := 6, ground := Ground.chain }], guard := none } : Oper)) (v := ?_) rfl (by kernel_rfl) (by kernel_rfl) (by kernel_rfl) (fun _ _ _ h => h) (Or.inl ⟨by rfl, ?_⟩) hHeld ?_
  rotate_left
  · (intro w hS; go_simp; try with_reducible rfl)
  try simp only [Act.put, List.setIfInBounds_toArray, List.set_cons_zero, List.set_cons_succ]
  refine wpAnyH_take (i := 13) (oi := ({ dst := some 44, op := Op.move (Operand.tmp 10), type := 4, pos := _, after := #[{ on := 12, ground := Ground.guard }], guard := some (12, true) } : Oper)) (v := ?_) rfl (by kernel_rfl) (by kernel_rfl) (by kernel_rfl) (fun _ _ _ h => h) (Or.inl ⟨by rfl, ?_⟩) hHeld ?_
  rotate_left
  · (intro w hS; go_simp; try with_reducible rfl)
  try simp only [Act.put, List.setIfInBounds_toArray, List.set_cons_zero, List.set_cons_succ]
  refine wpAnyH_take (i := 14) (oi := ({ dst := some 45, op := Op.move (Operand.tmp 44), type := 4, pos := _, after := #[{ on := 13, ground := Ground.data }, { on := 12, ground := Ground.chain }, { on := 12, ground := Ground.guard }], guard := some (12, true) } : Oper)) (v := ?_) rfl (by kernel_rfl) (by kernel_rfl) (by kernel_rfl) (fun _ _ _ h => h) (Or.inl ⟨by rfl, ?_⟩) hHeld ?_
  rotate_left
  · (intro w hS; go_simp; try with_reducible rfl)
  try simp only [Act.put, List.setIfInBounds_toArray, List.set_cons_zero, List.set_cons_succ]
  refine wpAnyH_take (i := 15) (oi := ({ dst := some 46, op := Op.move (Operand.tmp 9), type := 29, pos := _, after := #[{ on := 14, ground := Ground.guard }], guard := some (14, false) } : Oper)) (v := ?_) rfl (by kernel_rfl) (by kernel_rfl) (by kernel_rfl) (fun _ _ _ h => h) (Or.inl ⟨by rfl, ?_⟩) hHeld ?_
  rotate_left
  · (intro w hS; go_simp; try with_reducible rfl)
  try simp only [Act.put, List.setIfInBounds_toArray, List.set_cons_zero, List.set_cons_succ]
  refine wpAnyH_take (i := 16) (oi := ({ dst := some 47, op := Op.binOp BinOp.eql 29 (Operand.tmp 46) (Operand.const (Value.int IntKind.i64 1)) 29, type := 4, pos := _, after := #[{ on := 15, ground := Ground.data }, { on := 14, ground := Ground.guard }], guard := some (14, false) } : Oper)) (v := ?_) rfl (by kernel_rfl) (by kernel_rfl) (by kernel_rfl) (fun _ _ _ h => h) (Or.inl ⟨by rfl, ?_⟩) hHeld ?_
  rotate_left
  · (intro w hS; go_simp; try with_reducible rfl)
  try simp only [Act.put, List.setIfInBounds_toArray, List.set_cons_zero, List.set_cons_succ]
  refine wpAnyH_take (i := 17) (oi := ({ dst := some 48, op := Op.pick (Operand.tmp 45) (Operand.const (Value.bool true)) (Operand.tmp 47), type := 4, pos := _, after := #[{ on := 14, ground := Ground.data }, { on := 16, ground := Ground.data }, { on := 12, ground := Ground.guard }], guard := some (12, true) } : Oper)) (v := ?_) rfl (by kernel_rfl) (by kernel_rfl) (by kernel_rfl) (fun _ _ _ h => h) (Or.inl ⟨by rfl, ?_⟩) hHeld ?_
  rotate_left
  · (intro w hS; go_simp; try with_reducible rfl)
  try simp only [Act.put, List.setIfInBounds_toArray, List.set_cons_zero, List.set_cons_succ]
  refine wpAnyH_take (i := 18) (oi := ({ dst := some 49, op := Op.pick (Operand.tmp 43) (Operand.tmp 48) (Operand.const (Value.bool false)), type := 4, pos := _, after := #[{ on := 12, ground := Ground.data }, { on := 17, ground := Ground.data }], guard := none } : Oper)) (v := ?_) rfl (by kernel_rfl) (by kernel_rfl) (by kernel_rfl) (fun _ _ _ h => h) (Or.inl ⟨by rfl, ?_⟩) hHeld ?_
  rotate_left
  · (intro w hS; go_simp; try with_reducible rfl)
  try simp only [Act.put, List.setIfInBounds_toArray, List.set_cons_zero, List.set_cons_succ]
  refine wpAnyH_take (i := 19) (oi := ({ dst := some 50, op := Op.move (Operand.tmp 49), type := 4, pos := _, after := #[{ on := 18, ground := Ground.data }, { on := 14, ground := Ground.chain }], guard := none } : Oper)) (v := ?_) rfl (by kernel_rfl) (by kernel_rfl) (by kernel_rfl) (fun _ _ _ h => h) (Or.inl ⟨by rfl, ?_⟩) hHeld ?_
  rotate_left
  · (intro w hS; go_simp; try with_reducible rfl)
  try simp only [Act.put, List.setIfInBounds_toArray, List.set_cons_zero, List.set_cons_succ]
  refine wpAnyH_take (i := 20) (oi := ({ dst := some 51, op := Op.load 27 (Operand.tmp 7), type := 27, pos := _, after := #[{ on := 19, ground := Ground.guard }], guard := some (19, true) } : Oper))  rfl (by kernel_rfl) (by kernel_rfl) (by kernel_rfl) (fun _ _ _ h => h) (yields_ld rfl rfl rfl (fun w hS => run_ld27 w _ _ _ _ _ _ _ _ (C6.below hS C6.lt) HL.out)) hHeld ?_
  try simp only [Act.put, List.setIfInBounds_toArray, List.set_cons_zero, List.set_cons_succ]
  refine wpAnyH_take (i := 22) (oi := ({ dst := some 53, op := Op.move (Operand.tmp 12), type := 3, pos := _, after := #[{ on := 19, ground := Ground.guard }], guard := some (19, true) } : Oper)) (v := ?_) rfl (by kernel_rfl) (by kernel_rfl) (by kernel_rfl) (fun _ _ _ h => h) (Or.inl ⟨by rfl, ?_⟩) hHeld ?_
  rotate_left
  · (intro w hS; go_simp; try with_reducible rfl)
  try simp only [Act.put, List.setIfInBounds_toArray, List.set_cons_zero, List.set_cons_succ]
  refine wpAnyH_take (i := 23) (oi := ({ dst := some 54, op := Op.binOp BinOp.eql 3 (Operand.tmp 53) (Operand.const (Value.int IntKind.i64 2)) 3, type := 4, pos := _, after := #[{ on := 22, ground := Ground.data }, { on := 19, ground := Ground.guard }], guard := some (19, true) } : Oper)) (v := ?_) rfl (by kernel_rfl) (by kernel_rfl) (by kernel_rfl) (fun _ _ _ h => h) (Or.inl ⟨by rfl, ?_⟩) hHeld ?_
  rotate_left
  · (intro w hS; go_simp; try with_reducible rfl)
  try simp only [Act.put, List.setIfInBounds_toArray, List.set_cons_zero, List.set_cons_succ]
  refine wpAnyH_ready (rs := [21]) (by kernel_rfl) (by simp) ?_
  refine AllReadyH.cons (o := ({ dst := some 52, op := Op.call { callee := Callee.value (Operand.func 17), args := #[Operand.tmp 51], argTypes := #[27] }, type := 4, pos := _, after := #[{ on := 20, ground := Ground.data }, { on := 19, ground := Ground.chain }, { on := 19, ground := Ground.guard }], guard := some (19, true) } : Oper)) rfl (fun K hK => ?_) AllReadyH.nil
  refine step_call (empty_calls g p v t c ps _) (enters_of Tryd.func17 (by kernel_rfl) rfl) _ _ rfl rfl rfl ?_
  rintro e w9 ⟨rfl, b9⟩
  rw [HE'.out]
  refine ⟨_, rfl, hK.out _ _ (hHeld.trans (b9.mono hHeld.size)) (fun hHeld => ?_)⟩
  clear hK K
  try simp only [Act.put, List.setIfInBounds_toArray, List.set_cons_zero, List.set_cons_succ]
  refine wpAnyH_take (i := 24) (oi := ({ dst := some 55, op := Op.move (Operand.tmp 54), type := 4, pos := _, after := #[{ on := 23, ground := Ground.data }, { on := 21, ground := Ground.chain }, { on := 19, ground := Ground.guard }], guard := some (19, true) } : Oper)) (v := ?_) rfl (by kernel_rfl) (by kernel_rfl) (by kernel_rfl) (fun _ _ _ h => h) (Or.inl ⟨by rfl, ?_⟩) hHeld ?_
  rotate_left
  · (intro w hS; go_simp; try with_reducible rfl)
  try simp only [Act.put, List.setIfInBounds_toArray, List.set_cons_zero, List.set_cons_succ]
  refine wpAnyH_take (i := 25) (oi := ({ dst := some 56, op := Op.move (Operand.tmp 12), type := 3, pos := _, after := #[{ on := 24, ground := Ground.guard }], guard := some (24, false) } : Oper)) (v := undef) rfl (by kernel_rfl) (by kernel_rfl) (by kernel_rfl) (fun _ _ _ h => h) (Or.inr ⟨by rfl, rfl⟩) hHeld ?_
  try simp only [Act.put, List.setIfInBounds_toArray, List.set_cons_zero, List.set_cons_succ]
  refine wpAnyH_take (i := 26) (oi := ({ dst := some 57, op := Op.binOp BinOp.eql 3 (Operand.tmp 56) (Operand.const (Value.int IntKind.i64 3)) 3, type := 4, pos := _, after := #[{ on := 25, ground := Ground.data }, { on := 24, ground := Ground.guard }], guard := some (24, false) } : Oper)) (v := undef) rfl (by kernel_rfl) (by kernel_rfl) (by kernel_rfl) (fun _ _ _ h => h) (Or.inr ⟨by rfl, rfl⟩) hHeld ?_
  try simp only [Act.put, List.setIfInBounds_toArray, List.set_cons_zero, List.set_cons_succ]
  refine wpAnyH_take (i := 27) (oi := ({ dst := some 58, op := Op.pick (Operand.tmp 55) (Operand.const (Value.bool true)) (Operand.tmp 57), type := 4, pos := _, after := #[{ on := 24, ground := Ground.data }, { on := 26, ground := Ground.data }, { on := 19, ground := Ground.guard }], guard := some (19, true) } : Oper)) (v := ?_) rfl (by kernel_rfl) (by kernel_rfl) (by kernel_rfl) (fun _ _ _ h => h) (Or.inl ⟨by rfl, ?_⟩) hHeld ?_
  rotate_left
  · (intro w hS; go_simp; try with_reducible rfl)
  try simp only [Act.put, List.setIfInBounds_toArray, List.set_cons_zero, List.set_cons_succ]
  refine wpAnyH_take (i := 28) (oi := ({ dst := some 59, op := Op.binOp BinOp.eql 4 (Operand.tmp 52) (Operand.tmp 58) 4, type := 4, pos := _, after := #[{ on := 21, ground := Ground.data }, { on := 27, ground := Ground.data }, { on := 19, ground := Ground.guard }], guard := some (19, true) } : Oper)) (v := ?_) rfl (by kernel_rfl) (by kernel_rfl) (by kernel_rfl) (fun _ _ _ h => h) (Or.inl ⟨by rfl, ?_⟩) hHeld ?_
  rotate_left
  · (intro w hS; go_simp; try with_reducible rfl)
  try simp only [Act.put, List.setIfInBounds_toArray, List.set_cons_zero, List.set_cons_succ]
  refine wpAnyH_take (i := 29) (oi := ({ dst := some 60, op := Op.pick (Operand.tmp 50) (Operand.tmp 59) (Operand.const (Value.bool false)), type := 4, pos := _, after := #[{ on := 19, ground := Ground.data }, { on := 28, ground := Ground.data }], guard := none } : Oper)) (v := ?_) rfl (by kernel_rfl) (by kernel_rfl) (by kernel_rfl) (fun _ _ _ h => h) (Or.inl ⟨by rfl, ?_⟩) hHeld ?_
  rotate_left
  · (intro w hS; go_simp; try with_reducible rfl)
  try simp only [Act.put, List.setIfInBounds_toArray, List.set_cons_zero, List.set_cons_succ]
  refine wpAnyH_take (i := 30) (oi := ({ dst := some 61, op := Op.move (Operand.tmp 60), type := 4, pos := _, after := #[{ on := 29, ground := Ground.data }, { on := 24, ground := Ground.chain }], guard := none } : Oper)) (v := ?_) rfl (by kernel_rfl) (by kernel_rfl) (by kernel_rfl) (fun _ _ _ h => h) (Or.inl ⟨by rfl, ?_⟩) hHeld ?_
  rotate_left
  · (intro w hS; go_simp; try with_reducible rfl)
  try simp only [Act.put, List.setIfInBounds_toArray, List.set_cons_zero, List.set_cons_succ]
  refine wpAnyH_take (i := 31) (oi := ({ dst := some 62, op := Op.slice 24 (Operand.tmp 11) none none none, type := 28, pos := _, after := #[{ on := 30, ground := Ground.guard }], guard := some (30, true) } : Oper)) (v := ?_) rfl (by kernel_rfl) (by kernel_rfl) (by kernel_rfl) (fun _ _ _ h => h) (Or.inl ⟨by rfl, ?_⟩) hHeld ?_
  rotate_left
  · (intro w hS; go_simp; try with_reducible rfl)
  try simp only [Act.put, List.setIfInBounds_toArray, List.set_cons_zero, List.set_cons_succ]
  refine wpAnyH_take (i := 32) (oi := ({ dst := some 63, op := Op.slice 24 (Operand.tmp 4) none none none, type := 28, pos := _, after := #[{ on := 30, ground := Ground.guard }], guard := some (30, true) } : Oper)) (v := ?_) rfl (by kernel_rfl) (by kernel_rfl) (by kernel_rfl) (fun _ _ _ h => h) (Or.inl ⟨by rfl, ?_⟩) hHeld ?_
  rotate_left
  · (intro w hS; go_simp; try with_reducible rfl)
  try simp only [Act.put, List.setIfInBounds_toArray, List.set_cons_zero, List.set_cons_succ]
  refine wpAnyH_ready (rs := [33]) (by kernel_rfl) (by simp) ?_
  refine AllReadyH.cons (o := ({ dst := some 64, op := Op.call { callee := Callee.value (Operand.func 18), args := #[Operand.tmp 63], argTypes := #[28] }, type := 28, pos := _, after := #[{ on := 32, ground := Ground.data }, { on := 30, ground := Ground.chain }, { on := 30, ground := Ground.guard }], guard := some (30, true) } : Oper)) rfl (fun K hK => ?_) AllReadyH.nil
  refine step_call (refseal_calls _ _ ps _ (IP.below hHeld (Nat.le_refl _)) hHeld.size (by intro h; cases h)) (enters_of Tryd.func18 (by kernel_rfl) rfl) _ _ rfl rfl rfl ?_
  rintro e w10 ⟨a10, c10, rfl, J10, b10⟩
  refine ⟨_, rfl, hK.out _ _ (hHeld.trans (b10.mono hHeld.size)) (fun hHeld => ?_)⟩
  clear hK K
  try simp only [Act.put, List.setIfInBounds_toArray, List.set_cons_zero, List.set_cons_succ]
  refine wpAnyH_ready (rs := [34]) (by kernel_rfl) (by simp) ?_
  refine AllReadyH.cons (o := ({ dst := some 65, op := Op.call { callee := Callee.value (Operand.func 15), args := #[Operand.tmp 62, Operand.tmp 64], argTypes := #[28, 28] }, type := 4, pos := _, after := #[{ on := 31, ground := Ground.data }, { on := 33, ground := Ground.data }, { on := 33, ground := Ground.chain }, { on := 30, ground := Ground.guard }], guard := some (30, true) } : Oper)) rfl (fun K hK => ?_) AllReadyH.nil
  refine step_call (same_calls _ _ _ _ _ _ _ _ _ (IS.below hHeld (Nat.le_refl _)) J10 hHeld.size (Nat.le_refl _) (by decide)) (enters_of Tryd.func15 (by kernel_rfl) rfl) _ _ rfl rfl rfl ?_
  rintro e w11 ⟨rfl, b11⟩
  rw [beq_self_eq_true]
  refine ⟨_, rfl, hK.out _ _ (hHeld.trans (b11.mono hHeld.size)) (fun hHeld => ?_)⟩
  clear hK K
  try simp only [Act.put, List.setIfInBounds_toArray, List.set_cons_zero, List.set_cons_succ]
  refine wpAnyH_take (i := 35) (oi := ({ dst := some 66, op := Op.pick (Operand.tmp 61) (Operand.tmp 65) (Operand.const (Value.bool false)), type := 4, pos := _, after := #[{ on := 30, ground := Ground.data }, { on := 34, ground := Ground.data }], guard := none } : Oper)) (v := ?_) rfl (by kernel_rfl) (by kernel_rfl) (by kernel_rfl) (fun _ _ _ h => h) (Or.inl ⟨by rfl, ?_⟩) hHeld ?_
  rotate_left
  · (intro w hS; go_simp; try with_reducible rfl)
  try simp only [Act.put, List.setIfInBounds_toArray, List.set_cons_zero, List.set_cons_succ]
  refine wpAnyH_take (i := 36) (oi := ({ dst := some 67, op := Op.move (Operand.tmp 66), type := 4, pos := _, after := #[{ on := 35, ground := Ground.data }, { on := 34, ground := Ground.chain }], guard := none } : Oper)) (v := ?_) rfl (by kernel_rfl) (by kernel_rfl) (by kernel_rfl) (fun _ _ _ h => h) (Or.inl ⟨by rfl, ?_⟩) hHeld ?_
  rotate_left
  · (intro w hS; go_simp; try with_reducible rfl)
  try simp only [Act.put, List.setIfInBounds_toArray, List.set_cons_zero, List.set_cons_succ]
  refine wpAnyH_take (i := 37) (oi := ({ dst := some 68, op := Op.load 24 (Operand.tmp 4), type := 24, pos := _, after := #[{ on := 36, ground := Ground.guard }], guard := some (36, true) } : Oper))  rfl (by kernel_rfl) (by kernel_rfl) (by kernel_rfl) (fun _ _ _ h => h) (yields_ld rfl rfl rfl (fun w hS => run_ld24 w _ _ _ (P6.below hS P6.lt) HL.out)) hHeld ?_
  try simp only [Act.put, List.setIfInBounds_toArray, List.set_cons_zero, List.set_cons_succ]
  refine wpAnyH_take (i := 39) (oi := ({ dst := some 70, op := Op.slice 24 (Operand.tmp 4) none none none, type := 28, pos := _, after := #[{ on := 36, ground := Ground.guard }], guard := some (36, true) } : Oper)) (v := ?_) rfl (by kernel_rfl) (by kernel_rfl) (by kernel_rfl) (fun _ _ _ h => h) (Or.inl ⟨by rfl, ?_⟩) hHeld ?_
  rotate_left
  · (intro w hS; go_simp; try with_reducible rfl)
  try simp only [Act.put, List.setIfInBounds_toArray, List.set_cons_zero, List.set_cons_succ]
  refine wpAnyH_take (i := 40) (oi := ({ dst := some 71, op := Op.slice 24 (Operand.tmp 4) none none none, type := 28, pos := _, after := #[{ on := 36, ground := Ground.guard }], guard := some (36, true) } : Oper)) (v := ?_) rfl (by kernel_rfl) (by kernel_rfl) (by kernel_rfl) (fun _ _ _ h => h) (Or.inl ⟨by rfl, ?_⟩) hHeld ?_
  rotate_left
  · (intro w hS; go_simp; try with_reducible rfl)
  try simp only [Act.put, List.setIfInBounds_toArray, List.set_cons_zero, List.set_cons_succ]
  refine wpAnyH_ready (rs := [38]) (by kernel_rfl) (by simp) ?_
  refine AllReadyH.cons (o := ({ dst := some 69, op := Op.call { callee := Callee.value (Operand.func 19), args := #[Operand.tmp 68], argTypes := #[24] }, type := 4, pos := _, after := #[{ on := 37, ground := Ground.data }, { on := 36, ground := Ground.chain }, { on := 36, ground := Ground.guard }], guard := some (36, true) } : Oper)) rfl (fun K hK => ?_) AllReadyH.nil
  refine step_call (sealed_calls ps HL.out _) (enters_of Tryd.func19 (by kernel_rfl) rfl) _ _ rfl rfl rfl ?_
  rintro e w12 ⟨rfl, b12⟩
  rw [HD.out]
  refine ⟨_, rfl, hK.out _ _ (hHeld.trans (b12.mono hHeld.size)) (fun hHeld => ?_)⟩
  clear hK K
  try simp only [Act.put, List.setIfInBounds_toArray, List.set_cons_zero, List.set_cons_succ]
  refine wpAnyH_ready (rs := [41]) (by kernel_rfl) (by simp) ?_
  refine AllReadyH.cons (o := ({ dst := some 72, op := Op.call { callee := Callee.value (Operand.func 18), args := #[Operand.tmp 71], argTypes := #[28] }, type := 28, pos := _, after := #[{ on := 40, ground := Ground.data }, { on := 38, ground := Ground.chain }, { on := 36, ground := Ground.guard }], guard := some (36, true) } : Oper)) rfl (fun K hK => ?_) AllReadyH.nil
  refine step_call (refseal_calls _ _ ps _ (IP.below hHeld (Nat.le_refl _)) hHeld.size (by intro h; cases h)) (enters_of Tryd.func18 (by kernel_rfl) rfl) _ _ rfl rfl rfl ?_
  rintro e w13 ⟨a13, c13, rfl, J13, b13⟩
  refine ⟨_, rfl, hK.out _ _ (hHeld.trans (b13.mono hHeld.size)) (fun hHeld => ?_)⟩
  clear hK K
  try simp only [Act.put, List.setIfInBounds_toArray, List.set_cons_zero, List.set_cons_succ]
  refine wpAnyH_ready (rs := [42]) (by kernel_rfl) (by simp) ?_
  refine AllReadyH.cons (o := ({ dst := some 73, op := Op.call { callee := Callee.value (Operand.func 15), args := #[Operand.tmp 70, Operand.tmp 72], argTypes := #[28, 28] }, type := 4, pos := _, after := #[{ on := 39, ground := Ground.data }, { on := 41, ground := Ground.data }, { on := 41, ground := Ground.chain }, { on := 36, ground := Ground.guard }], guard := some (36, true) } : Oper)) rfl (fun K hK => ?_) AllReadyH.nil
  refine step_call (same_calls _ _ _ _ _ _ _ _ _ (IP.below hHeld (Nat.le_refl _)) J13 hHeld.size (Nat.le_refl _) (by decide)) (enters_of Tryd.func15 (by kernel_rfl) rfl) _ _ rfl rfl rfl ?_
  rintro e w14 ⟨rfl, b14⟩
  rw [HD2.out]
  refine ⟨_, rfl, hK.out _ _ (hHeld.trans (b14.mono hHeld.size)) (fun hHeld => ?_)⟩
  clear hK K
  try simp only [Act.put, List.setIfInBounds_toArray, List.set_cons_zero, List.set_cons_succ]
  refine wpAnyH_take (i := 43) (oi := ({ dst := some 74, op := Op.binOp BinOp.eql 4 (Operand.tmp 69) (Operand.tmp 73) 4, type := 4, pos := _, after := #[{ on := 38, ground := Ground.data }, { on := 42, ground := Ground.data }, { on := 36, ground := Ground.guard }], guard := some (36, true) } : Oper)) (v := ?_) rfl (by kernel_rfl) (by kernel_rfl) (by kernel_rfl) (fun _ _ _ h => h) (Or.inl ⟨by rfl, ?_⟩) hHeld ?_
  rotate_left
  · (intro w hS; go_simp; try with_reducible rfl)
  try simp only [Act.put, List.setIfInBounds_toArray, List.set_cons_zero, List.set_cons_succ]
  refine wpAnyH_take (i := 44) (oi := ({ dst := some 75, op := Op.pick (Operand.tmp 67) (Operand.tmp 74) (Operand.const (Value.bool false)), type := 4, pos := _, after := #[{ on := 36, ground := Ground.data }, { on := 43, ground := Ground.data }], guard := none } : Oper)) (v := ?_) rfl (by kernel_rfl) (by kernel_rfl) (by kernel_rfl) (fun _ _ _ h => h) (Or.inl ⟨by rfl, ?_⟩) hHeld ?_
  rotate_left
  · (intro w hS; go_simp; try with_reducible rfl)
  try simp only [Act.put, List.setIfInBounds_toArray, List.set_cons_zero, List.set_cons_succ]
  refine wpAnyH_take (i := 45) (oi := ({ dst := some 6, op := Op.assign (Operand.tmp 75), type := 4, pos := _, after := #[{ on := 44, ground := Ground.data }, { on := 42, ground := Ground.chain }, { on := 0, ground := Ground.phase }, { on := 1, ground := Ground.phase }, { on := 2, ground := Ground.phase }, { on := 3, ground := Ground.phase }, { on := 4, ground := Ground.phase }, { on := 5, ground := Ground.phase }, { on := 6, ground := Ground.phase }, { on := 7, ground := Ground.phase }, { on := 8, ground := Ground.phase }, { on := 9, ground := Ground.phase }, { on := 10, ground := Ground.phase }, { on := 11, ground := Ground.phase }, { on := 12, ground := Ground.phase }, { on := 13, ground := Ground.phase }, { on := 14, ground := Ground.phase }, { on := 15, ground := Ground.phase }, { on := 16, ground := Ground.phase }, { on := 17, ground := Ground.phase }, { on := 18, ground := Ground.phase }, { on := 19, ground := Ground.phase }, { on := 20, ground := Ground.phase }, { on := 21, ground := Ground.phase }, { on := 22, ground := Ground.phase }, { on := 23, ground := Ground.phase }, { on := 24, ground := Ground.phase }, { on := 25, ground := Ground.phase }, { on := 26, ground := Ground.phase }, { on := 27, ground := Ground.phase }, { on := 28, ground := Ground.phase }, { on := 29, ground := Ground.phase }, { on := 30, ground := Ground.phase }, { on := 31, ground := Ground.phase }, { on := 32, ground := Ground.phase }, { on := 33, ground := Ground.phase }, { on := 34, ground := Ground.phase }, { on := 35, ground := Ground.phase }, { on := 36, ground := Ground.phase }, { on := 37, ground := Ground.phase }, { on := 38, ground := Ground.phase }, { on := 39, ground := Ground.phase }, { on := 40, ground := Ground.phase }, { on := 41, ground := Ground.phase }, { on := 42, ground := Ground.phase }, { on := 43, ground := Ground.phase }, { on := 44, ground := Ground.phase }], guard := none } : Oper)) (v := ?_) rfl (by kernel_rfl) (by kernel_rfl) (by kernel_rfl) (fun _ _ _ h => h) (Or.inl ⟨by rfl, ?_⟩) hHeld ?_
  rotate_left
  · (intro w hS; go_simp; try with_reducible rfl)
  try simp only [Act.put, List.setIfInBounds_toArray, List.set_cons_zero, List.set_cons_succ]
  refine wpAnyH_done (by kernel_rfl) ?_ _
  go_wp2
  go_ret
  exact ⟨ret_bool (by cases db <;> rfl), B6.trans (hHeld.mono B6.size)⟩

set_option maxRecDepth 20000 in
set_option maxHeartbeats 8000000 in
theorem builds_wf (g p v t c : Int) (ps : List UInt8) (hp : ps.length = 48) (nni : Bool) (w : World) (tab : Tab w) (hr : rightB nni g p v t c = false) (hk : (kindN p v t c == 2) = false) :
    Calls Tryd.prog 3 #[.agg (hdrV g p v t c), .agg (payV ps), .bool nni] w fun e w' => e = .returned (.bool true) ∧ Below w.heap.size w w' := by
  have HL : Hid (ps.length = 48) := hp
  have HR : Hid (rightB nni g p v t c = false) := hr
  have HM : Hid ((sealN ps).length = 48) := (sealN_length ps).trans hp
  obtain ⟨kk, hkk⟩ : ∃ kk, kindN p v t c = kk := ⟨_, rfl⟩
  have HK : Hid (kindN p v t c = kk) := hkk
  have HE : Hid (emptyB p v t c = (kk == 2 || kk == 3)) := by rw [Hid, emptyB, hkk]
  rw [hkk] at hk
  obtain ⟨b3, hb3⟩ : ∃ b3, (kk == 3) = b3 := ⟨_, rfl⟩
  have HE' : Hid (emptyB p v t c = b3) := by rw [Hid, HE.out, hk, hb3]; rfl
  obtain ⟨db, hdb⟩ : ∃ db, decide (sealN ps = ps) = db := ⟨_, rfl⟩
  have HD : Hid (decide (sealN ps = ps) = db) := hdb
  have HD2 : Hid ((ps == sealN ps) = db) := by
    rw [Hid, ← hdb]
    by_cases h : sealN ps = ps
    · rw [h]; simp
    · rw [decide_eq_false h, beq_eq_false_iff_ne]; exact fun e => h e.symm
  have K0 := (bk_new w (hdrV g p v t c) 23).alloc (.cells (payV ps) 24)
  have P0 := bk_new (w.alloc (.cells (hdrV g p v t c) 23)) (payV ps) 24
  have A0 : Below w.heap.size w ((w.alloc (.cells (hdrV g p v t c) 23)).alloc (.cells (payV ps) 24)) := ((Below.refl _ w).alloc (Nat.le_refl _) _).alloc (by simp) _
  rw [World.size_alloc] at P0
  clear hp hr hkk hdb
  go_enter Tryd.func3, Tryd.ntmps3
  go_wp2_with fail
  refine (awake_calls _ (tab.below A0 tab.1)).mono ?_
  rintro e w1 ⟨rfl, b1⟩
  have K1 := K0.below b1 K0.lt
  have P1 := P0.below b1 P0.lt
  have B0 := A0.trans (b1.mono A0.size)
  clear K0 P0 A0 b1
  go_wp2_with (first | (with_reducible show wpList _ _ _ (Oper.mk _ (Op.load 23 _) _ _ _ _ :: _) _ _; refine wpList_ld rfl rfl rfl (run_ld23 _ _ _ _ _ _ _ _ (by assumption)) ?_; (try simp only [Act.put, List.setIfInBounds_toArray, List.set_cons_zero, List.set_cons_succ, World.size_alloc])) | (with_reducible show wpList _ _ _ (Oper.mk _ (Op.load 24 _) _ _ _ _ :: _) _ _; refine wpList_ld rfl rfl rfl (run_ld24 _ _ _ _ (by assumption) (by first | exact HL.out | exact HM.out)) ?_; (try simp only [Act.put, List.setIfInBounds_toArray, List.set_cons_zero, List.set_cons_succ, World.size_alloc])) | (with_reducible show wpList _ _ _ (Oper.mk _ (Op.build 27 _) _ _ _ _ :: _) _ _; refine wpList_bldf rfl (by first | exact HL.out | exact HM.out) rfl rfl rfl ?_; (try simp only [Act.put, List.setIfInBounds_toArray, List.set_cons_zero, List.set_cons_succ, World.size_alloc])) | ((with_reducible show wpList _ _ _ (Oper.mk _ (Op.alloc 27) _ _ _ _ :: Oper.mk _ (Op.store 27 _ _) _ _ _ _ :: _) _ _; refine wpList_defL rfl rfl rfl rfl rfl zero27 (by rw [size27, cellV_size]; (try simp only [Option.some.injEq, zer, List.length_replicate]) <;> first | rfl | (have := HL.out; omega) | (have := HM.out; omega)) (by first | rfl | (simp only [cellV_size]; done) | (rw [cellV_size, cellV_size]; (try simp only [zer, List.length_replicate]) <;> first | rfl | (have := HL.out; omega) | (have := HM.out; omega) | (have := HL.out; have := HM.out; omega))) (cellV_one _ _ _ _ _ _) rfl ?_); intro W1 C1 b1 z1; have K1' := K1.below b1 K1.lt; have P1' := P1.below b1 P1.lt; clear K1 P1; try simp only [Act.put, List.setIfInBounds_toArray, List.set_cons_zero, List.set_cons_succ]) | (with_reducible show wpList _ _ _ (Oper.mk _ (Op.load 27 _) _ _ _ _ :: _) _ _; refine wpList_ld rfl rfl rfl (run_ld27 _ _ _ _ _ _ _ _ _ (by assumption) (by first | exact HL.out | exact HM.out)) ?_; (try simp only [Act.put, List.setIfInBounds_toArray, List.set_cons_zero, List.set_cons_succ, World.size_alloc])))
  have B1 := B0.trans (b1.mono B0.size)
  clear B0 b1 z1
  refine (build_no nni g p v t c ps _ (tab.below B1 tab.1) HR.out).mono ?_
  rintro e w2 ⟨rfl, b2⟩
  have K2 := K1'.below b2 K1'.lt
  have P2 := P1'.below b2 P1'.lt
  have C2 := C1.below b2 C1.lt
  have B2 := B1.trans (b2.mono B1.size)
  clear K1' P1' C1 B1 b2
  go_wp2_with (first | (with_reducible show wpList _ _ _ (Oper.mk _ (Op.load 23 _) _ _ _ _ :: _) _ _; refine wpList_ld rfl rfl rfl (run_ld23 _ _ _ _ _ _ _ _ (by assumption)) ?_; (try simp only [Act.put, List.setIfInBounds_toArray, List.set_cons_zero, List.set_cons_succ, World.size_alloc])))
  refine (refright_calls nni g p v t c _).mono ?_
  rintro e w3 ⟨rfl, b3'⟩
  rw [HR.out]
  have K3 := K2.below b3' K2.lt
  have P3 := P2.below b3' P2.lt
  have C3 := C2.below b3' C2.lt
  have B3 := B2.trans (b3'.mono B2.size)
  clear K2 P2 C2 B2 b3'
  go_wp2_with (first | (with_reducible show wpList _ _ _ (Oper.mk _ (Op.load 24 _) _ _ _ _ :: _) _ _; refine wpList_ld rfl rfl rfl (run_ld24 _ _ _ _ (by assumption) (by first | exact HL.out | exact HM.out)) ?_; (try simp only [Act.put, List.setIfInBounds_toArray, List.set_cons_zero, List.set_cons_succ, World.size_alloc])))
  refine (cseal_calls ps HL.out _).mono ?_
  rintro e w4 ⟨rfl, b4⟩
  have K4 := K3.below b4 K3.lt
  have P4 := P3.below b4 P3.lt
  have C4 := C3.below b4 C3.lt
  have B4 := B3.trans (b4.mono B3.size)
  clear K3 P3 C3 B3 b4
  go_wp2_with (first | ((with_reducible show wpList _ _ _ (Oper.mk _ (Op.alloc 24) _ _ _ _ :: Oper.mk _ (Op.store 24 _ _) _ _ _ _ :: _) _ _; refine wpList_defL rfl rfl rfl rfl rfl zero24 (by rw [size24, payV_size]; (try simp only [Option.some.injEq, zer, List.length_replicate]) <;> first | rfl | (have := HL.out; omega) | (have := HM.out; omega)) (by first | rfl | (simp only [payV_size]; done) | (rw [payV_size, payV_size]; (try simp only [zer, List.length_replicate]) <;> first | rfl | (have := HL.out; omega) | (have := HM.out; omega) | (have := HL.out; have := HM.out; omega))) (payV_one _) rfl ?_); intro W5 S5 b5 z5; have K5 := K4.below b5 K4.lt; have P5 := P4.below b5 P4.lt; have C5 := C4.below b5 C4.lt; clear K4 P4 C4; try simp only [Act.put, List.setIfInBounds_toArray, List.set_cons_zero, List.set_cons_succ]) | (with_reducible show wpList _ _ _ (Oper.mk _ (Op.load 23 _) _ _ _ _ :: _) _ _; refine wpList_ld rfl rfl rfl (run_ld23 _ _ _ _ _ _ _ _ (by assumption)) ?_; (try simp only [Act.put, List.setIfInBounds_toArray, List.set_cons_zero, List.set_cons_succ, World.size_alloc])))
  have B5 := B4.trans (b5.mono B4.size)
  clear B4 b5
  refine (refkind_calls g p v t c _).mono ?_
  rintro e w6 ⟨rfl, b6⟩
  rw [HK.out]
  have K6 := K5.below b6 K5.lt
  have P6 := P5.below b6 P5.lt
  have C6 := C5.below b6 C5.lt
  have S6 := S5.below b6 S5.lt
  have B6 := B5.trans (b6.mono B5.size)
  have IP := P6.pay
  rw [HL.out] at IP
  have IS := S6.pay
  rw [HM.out] at IS
  clear K5 P5 C5 S5 B5 b6
  go_wp2
  refine wp_region_held_drew (S := (fun w' => Below w6.heap.size w6 w')) (by kernel_rfl) (Below.refl _ w6).drew (fun hHeld => ?_)
  refine wpAnyH_take (i := 0) (oi := ({ dst := some 31, op := Op.move (Operand.tmp 8), type := 28, pos := _, after := #[], guard := none } : Oper)) (v := ?_) rfl (by kernel_rfl) (by kernel_rfl) (by kernel_rfl) (fun _ _ _ h => h) (Or.inl ⟨by rfl, ?_⟩) hHeld ?_
  rotate_left
  · (intro w hS; go_simp; try with_reducible rfl)
  try simp only [Act.put, List.setIfInBounds_toArray, List.set_cons_zero, List.set_cons_succ]
  refine wpAnyH_take (i := 1) (oi := ({ dst := some 32, op := Op.load 23 (Operand.tmp 3), type := 23, pos := _, after := #[], guard := none } : Oper))  rfl (by kernel_rfl) (by kernel_rfl) (by kernel_rfl) (fun _ _ _ h => h) (yields_ld rfl rfl rfl (fun w hS => run_ld23 w _ _ _ _ _ _ _ (K6.below hS K6.lt))) hHeld ?_
  try simp only [Act.put, List.setIfInBounds_toArray, List.set_cons_zero, List.set_cons_succ]
  refine wpAnyH_take (i := 2) (oi := ({ dst := some 33, op := Op.slice 24 (Operand.tmp 4) none none none, type := 28, pos := _, after := #[], guard := none } : Oper)) (v := ?_) rfl (by kernel_rfl) (by kernel_rfl) (by kernel_rfl) (fun _ _ _ h => h) (Or.inl ⟨by rfl, ?_⟩) hHeld ?_
  rotate_left
  · (intro w hS; go_simp; try with_reducible rfl)
  try simp only [Act.put, List.setIfInBounds_toArray, List.set_cons_zero, List.set_cons_succ]
  refine wpAnyH_take (i := 3) (oi := ({ dst := some 34, op := Op.move (Operand.tmp 2), type := 4, pos := _, after := #[], guard := none } : Oper)) (v := ?_) rfl (by kernel_rfl) (by kernel_rfl) (by kernel_rfl) (fun _ _ _ h => h) (Or.inl ⟨by rfl, ?_⟩) hHeld ?_
  rotate_left
  · (intro w hS; go_simp; try with_reducible rfl)
  try simp only [Act.put, List.setIfInBounds_toArray, List.set_cons_zero, List.set_cons_succ]
  refine wpAnyH_ready (rs := [4]) (by kernel_rfl) (by simp) ?_
  refine AllReadyH.cons (o := ({ dst := some 35, op := Op.call { callee := Callee.value (Operand.func 16), args := #[Operand.tmp 32, Operand.tmp 33, Operand.tmp 34], argTypes := #[23, 28, 4] }, type := 28, pos := _, after := #[{ on := 1, ground := Ground.data }, { on := 2, ground := Ground.data }, { on := 3, ground := Ground.data }], guard := none } : Oper)) rfl (fun K hK => ?_) AllReadyH.nil
  refine step_call (refbuild_no nni g p v t c _ _ HR.out) (enters_of Tryd.func16 (by kernel_rfl) rfl) _ _ rfl rfl rfl ?_
  rintro e w7 ⟨rfl, b7⟩
  refine ⟨_, rfl, hK.out _ _ (hHeld.trans (b7.mono hHeld.size)) (fun hHeld => ?_)⟩
  clear hK K
  try simp only [Act.put, List.setIfInBounds_toArray, List.set_cons_zero, List.set_cons_succ]
  refine wpAnyH_ready (rs := [5]) (by kernel_rfl) (by simp) ?_
  refine AllReadyH.cons (o := ({ dst := some 36, op := Op.call { callee := Callee.value (Operand.func 15), args := #[Operand.tmp 31, Operand.tmp 35], argTypes := #[28, 28] }, type := 4, pos := _, after := #[{ on := 0, ground := Ground.data }, { on := 4, ground := Ground.data }, { on := 4, ground := Ground.chain }], guard := none } : Oper)) rfl (fun K hK => ?_) AllReadyH.nil
  refine step_call (same_calls _ _ _ _ _ _ _ _ _ (isB_nil w6.heap.size _) (isB_nil w6.heap.size _) hHeld.size hHeld.size (by decide)) (enters_of Tryd.func15 (by kernel_rfl) rfl) _ _ rfl rfl rfl ?_
  rintro e w8 ⟨rfl, b8⟩
  rw [beq_self_eq_true]
  refine ⟨_, rfl, hK.out _ _ (hHeld.trans (b8.mono hHeld.size)) (fun hHeld => ?_)⟩
  clear hK K
  try simp only [Act.put, List.setIfInBounds_toArray, List.set_cons_zero, List.set_cons_succ]
  refine wpAnyH_take (i := 6) (oi := ({ dst := some 37, op := Op.move (Operand.tmp 36), type := 4, pos := _, after := #[{ on := 5, ground := Ground.data }, { on := 5, ground := Ground.chain }], guard := none } : Oper)) (v := ?_) rfl (by kernel_rfl) (by kernel_rfl) (by kernel_rfl) (fun _ _ _ h => h) (Or.inl ⟨by rfl, ?_⟩) hHeld ?_
  rotate_left
  · (intro w hS; go_simp; try with_reducible rfl)
  try simp only [Act.put, List.setIfInBounds_toArray, List.set_cons_zero, List.set_cons_succ]
  refine wpAnyH_take (i := 7) (oi := ({ dst := some 38, op := Op.move (Operand.tmp 9), type := 29, pos := _, after := #[{ on := 6, ground := Ground.guard }], guard := some (6, true) } : Oper)) (v := ?_) rfl (by kernel_rfl) (by kernel_rfl) (by kernel_rfl) (fun _ _ _ h => h) (Or.inl ⟨by rfl, ?_⟩) hHeld ?_
  rotate_left
  · (intro w hS; go_simp; try with_reducible rfl)
  try simp only [Act.put, List.setIfInBounds_toArray, List.set_cons_zero, List.set_cons_succ]
  refine wpAnyH_take (i := 8) (oi := ({ dst := some 39, op := Op.binOp BinOp.eql 29 (Operand.tmp 38) (Operand.const (Value.int IntKind.i64 0)) 29, type := 4, pos := _, after := #[{ on := 7, ground := Ground.data }, { on := 6, ground := Ground.guard }], guard := some (6, true) } : Oper)) (v := ?_) rfl (by kernel_rfl) (by kernel_rfl) (by kernel_rfl) (fun _ _ _ h => h) (Or.inl ⟨by rfl, ?_⟩) hHeld ?_
  rotate_left
  · (intro w hS; go_simp; try with_reducible rfl)
  try simp only [Act.put, List.setIfInBounds_toArray, List.set_cons_zero, List.set_cons_succ]
  refine wpAnyH_take (i := 9) (oi := ({ dst := some 40, op := Op.move (Operand.tmp 10), type := 4, pos := _, after := #[{ on := 6, ground := Ground.guard }], guard := some (6, true) } : Oper)) (v := ?_) rfl (by kernel_rfl) (by kernel_rfl) (by kernel_rfl) (fun _ _ _ h => h) (Or.inl ⟨by rfl, ?_⟩) hHeld ?_
  rotate_left
  · (intro w hS; go_simp; try with_reducible rfl)
  try simp only [Act.put, List.setIfInBounds_toArray, List.set_cons_zero, List.set_cons_succ]
  refine wpAnyH_take (i := 10) (oi := ({ dst := some 41, op := Op.binOp BinOp.eql 4 (Operand.tmp 39) (Operand.tmp 40) 4, type := 4, pos := _, after := #[{ on := 8, ground := Ground.data }, { on := 9, ground := Ground.data }, { on := 6, ground := Ground.guard }], guard := some (6, true) } : Oper)) (v := ?_) rfl (by kernel_rfl) (by kernel_rfl) (by kernel_rfl) (fun _ _ _ h => h) (Or.inl ⟨by rfl, ?_⟩) hHeld ?_
  rotate_left
  · (intro w hS; go_simp; try with_reducible rfl)
  try simp only [Act.put, List.setIfInBounds_toArray, List.set_cons_zero, List.set_cons_succ]
  refine wpAnyH_take (i := 11) (oi := ({ dst := some 42, op := Op.pick (Operand.tmp 37) (Operand.tmp 41) (Operand.const (Value.bool false)), type := 4, pos := _, after := #[{ on := 6, ground := Ground.data }, { on := 10, ground := Ground.data }], guard := none } : Oper)) (v := ?_) rfl (by kernel_rfl) (by kernel_rfl) (by kernel_rfl) (fun _ _ _ h => h) (Or.inl ⟨by rfl, ?_⟩) hHeld ?_
  rotate_left
  · (intro w hS; go_simp; try with_reducible rfl)
  try simp only [Act.put, List.setIfInBounds_toArray, List.set_cons_zero, List.set_cons_succ]
  refine wpAnyH_take (i := 12) (oi := ({ dst := some 43, op := Op.move (Operand.tmp 42), type := 4, pos := _, after := #[{ on := 11, ground := Ground.data }, { on := 6, ground := Ground.chain }], guard := none } : Oper)) (v := ?_) rfl (by kernel_rfl) (by kernel_rfl) (by kernel_rfl) (fun _ _ _ h => h) (Or.inl ⟨by rfl, ?_⟩) hHeld ?_
  rotate_left
  · (intro w hS; go_simp; try with_reducible rfl)
  try simp only [Act.put, List.setIfInBounds_toArray, List.set_cons_zero, List.set_cons_succ]
  refine wpAnyH_take (i := 13) (oi := ({ dst := some 44, op := Op.move (Operand.tmp 10), type := 4, pos := _, after := #[{ on := 12, ground := Ground.guard }], guard := some (12, true) } : Oper)) (v := ?_) rfl (by kernel_rfl) (by kernel_rfl) (by kernel_rfl) (fun _ _ _ h => h) (Or.inl ⟨by rfl, ?_⟩) hHeld ?_
  rotate_left
  · (intro w hS; go_simp; try with_reducible rfl)
  try simp only [Act.put, List.setIfInBounds_toArray, List.set_cons_zero, List.set_cons_succ]
  refine wpAnyH_take (i := 14) (oi := ({ dst := some 45, op := Op.move (Operand.tmp 44), type := 4, pos := _, after := #[{ on := 13, ground := Ground.data }, { on := 12, ground := Ground.chain }, { on := 12, ground := Ground.guard }], guard := some (12, true) } : Oper)) (v := ?_) rfl (by kernel_rfl) (by kernel_rfl) (by kernel_rfl) (fun _ _ _ h => h) (Or.inl ⟨by rfl, ?_⟩) hHeld ?_
  rotate_left
  · (intro w hS; go_simp; try with_reducible rfl)
  try simp only [Act.put, List.setIfInBounds_toArray, List.set_cons_zero, List.set_cons_succ]
  refine wpAnyH_take (i := 15) (oi := ({ dst := some 46, op := Op.move (Operand.tmp 9), type := 29, pos := _, after := #[{ on := 14, ground := Ground.guard }], guard := some (14, false) } : Oper)) (v := ?_) rfl (by kernel_rfl) (by kernel_rfl) (by kernel_rfl) (fun _ _ _ h => h) (Or.inl ⟨by rfl, ?_⟩) hHeld ?_
  rotate_left
  · (intro w hS; go_simp; try with_reducible rfl)
  try simp only [Act.put, List.setIfInBounds_toArray, List.set_cons_zero, List.set_cons_succ]
  refine wpAnyH_take (i := 16) (oi := ({ dst := some 47, op := Op.binOp BinOp.eql 29 (Operand.tmp 46) (Operand.const (Value.int IntKind.i64 1)) 29, type := 4, pos := _, after := #[{ on := 15, ground := Ground.data }, { on := 14, ground := Ground.guard }], guard := some (14, false) } : Oper)) (v := ?_) rfl (by kernel_rfl) (by kernel_rfl) (by kernel_rfl) (fun _ _ _ h => h) (Or.inl ⟨by rfl, ?_⟩) hHeld ?_
  rotate_left
  · (intro w hS; go_simp; try with_reducible rfl)
  try simp only [Act.put, List.setIfInBounds_toArray, List.set_cons_zero, List.set_cons_succ]
  refine wpAnyH_take (i := 17) (oi := ({ dst := some 48, op := Op.pick (Operand.tmp 45) (Operand.const (Value.bool true)) (Operand.tmp 47), type := 4, pos := _, after := #[{ on := 14, ground := Ground.data }, { on := 16, ground := Ground.data }, { on := 12, ground := Ground.guard }], guard := some (12, true) } : Oper)) (v := ?_) rfl (by kernel_rfl) (by kernel_rfl) (by kernel_rfl) (fun _ _ _ h => h) (Or.inl ⟨by rfl, ?_⟩) hHeld ?_
  rotate_left
  · (intro w hS; go_simp; try with_reducible rfl)
  try simp only [Act.put, List.setIfInBounds_toArray, List.set_cons_zero, List.set_cons_succ]
  refine wpAnyH_take (i := 18) (oi := ({ dst := some 49, op := Op.pick (Operand.tmp 43) (Operand.tmp 48) (Operand.const (Value.bool false)), type := 4, pos := _, after := #[{ on := 12, ground := Ground.data }, { on := 17, ground := Ground.data }], guard := none } : Oper)) (v := ?_) rfl (by kernel_rfl) (by kernel_rfl) (by kernel_rfl) (fun _ _ _ h => h) (Or.inl ⟨by rfl, ?_⟩) hHeld ?_
  rotate_left
  · (intro w hS; go_simp; try with_reducible rfl)
  try simp only [Act.put, List.setIfInBounds_toArray, List.set_cons_zero, List.set_cons_succ]
  refine wpAnyH_take (i := 19) (oi := ({ dst := some 50, op := Op.move (Operand.tmp 49), type := 4, pos := _, after := #[{ on := 18, ground := Ground.data }, { on := 14, ground := Ground.chain }], guard := none } : Oper)) (v := ?_) rfl (by kernel_rfl) (by kernel_rfl) (by kernel_rfl) (fun _ _ _ h => h) (Or.inl ⟨by rfl, ?_⟩) hHeld ?_
  rotate_left
  · (intro w hS; go_simp; try with_reducible rfl)
  try simp only [Act.put, List.setIfInBounds_toArray, List.set_cons_zero, List.set_cons_succ]
  refine wpAnyH_take (i := 20) (oi := ({ dst := some 51, op := Op.load 27 (Operand.tmp 7), type := 27, pos := _, after := #[{ on := 19, ground := Ground.guard }], guard := some (19, true) } : Oper))  rfl (by kernel_rfl) (by kernel_rfl) (by kernel_rfl) (fun _ _ _ h => h) (yields_ld rfl rfl rfl (fun w hS => run_ld27 w _ _ _ _ _ _ _ _ (C6.below hS C6.lt) HL.out)) hHeld ?_
  try simp only [Act.put, List.setIfInBounds_toArray, List.set_cons_zero, List.set_cons_succ]
  refine wpAnyH_take (i := 22) (oi := ({ dst := some 53, op := Op.move (Operand.tmp 12), type := 3, pos := _, after := #[{ on := 19, ground := Ground.guard }], guard := some (19, true) } : Oper)) (v := ?_) rfl (by kernel_rfl) (by kernel_rfl) (by kernel_rfl) (fun _ _ _ h => h) (Or.inl ⟨by rfl, ?_⟩) hHeld ?_
  rotate_left
  · (intro w hS; go_simp; try with_reducible rfl)
  try simp only [Act.put, List.setIfInBounds_toArray, List.set_cons_zero, List.set_cons_succ]
  refine wpAnyH_take (i := 23) (oi := ({ dst := some 54, op := Op.binOp BinOp.eql 3 (Operand.tmp 53) (Operand.const (Value.int IntKind.i64 2)) 3, type := 4, pos := _, after := #[{ on := 22, ground := Ground.data }, { on := 19, ground := Ground.guard }], guard := some (19, true) } : Oper)) (v := ?_) rfl (by kernel_rfl) (by kernel_rfl) (by kernel_rfl) (fun _ _ _ h => h) (Or.inl ⟨by rfl, ?_⟩) hHeld ?_
  rotate_left
  · (intro w hS; go_simp; try with_reducible rfl)
  try simp only [Act.put, List.setIfInBounds_toArray, List.set_cons_zero, List.set_cons_succ]
  refine wpAnyH_ready (rs := [21]) (by kernel_rfl) (by simp) ?_
  refine AllReadyH.cons (o := ({ dst := some 52, op := Op.call { callee := Callee.value (Operand.func 17), args := #[Operand.tmp 51], argTypes := #[27] }, type := 4, pos := _, after := #[{ on := 20, ground := Ground.data }, { on := 19, ground := Ground.chain }, { on := 19, ground := Ground.guard }], guard := some (19, true) } : Oper)) rfl (fun K hK => ?_) AllReadyH.nil
  refine step_call (empty_calls g p v t c ps _) (enters_of Tryd.func17 (by kernel_rfl) rfl) _ _ rfl rfl rfl ?_
  rintro e w9 ⟨rfl, b9⟩
  rw [HE'.out]
  refine ⟨_, rfl, hK.out _ _ (hHeld.trans (b9.mono hHeld.size)) (fun hHeld => ?_)⟩
  clear hK K
  try simp only [Act.put, List.setIfInBounds_toArray, List.set_cons_zero, List.set_cons_succ]
  refine wpAnyH_take (i := 24) (oi := ({ dst := some 55, op := Op.move (Operand.tmp 54), type := 4, pos := _, after := #[{ on := 23, ground := Ground.data }, { on := 21, ground := Ground.chain }, { on := 19, ground := Ground.guard }], guard := some (19, true) } : Oper)) (v := ?_) rfl (by kernel_rfl) (by kernel_rfl) (by kernel_rfl) (fun _ _ _ h => h) (Or.inl ⟨by rfl, ?_⟩) hHeld ?_
  rotate_left
  · (intro w hS; go_simp; try with_reducible rfl)
  try simp only [Act.put, List.setIfInBounds_toArray, List.set_cons_zero, List.set_cons_succ]
  refine wpAnyH_take (i := 25) (oi := ({ dst := some 56, op := Op.move (Operand.tmp 12), type := 3, pos := _, after := #[{ on := 24, ground := Ground.guard }], guard := some (24, false) } : Oper)) (v := ?_) rfl (by kernel_rfl) (by kernel_rfl) (by kernel_rfl) (fun _ _ _ h => h) (Or.inl ⟨by rfl, ?_⟩) hHeld ?_
  rotate_left
  · (intro w hS; go_simp; try with_reducible rfl)
  try simp only [Act.put, List.setIfInBounds_toArray, List.set_cons_zero, List.set_cons_succ]
  refine wpAnyH_take (i := 26) (oi := ({ dst := some 57, op := Op.binOp BinOp.eql 3 (Operand.tmp 56) (Operand.const (Value.int IntKind.i64 3)) 3, type := 4, pos := _, after := #[{ on := 25, ground := Ground.data }, { on := 24, ground := Ground.guard }], guard := some (24, false) } : Oper)) (v := ?_) rfl (by kernel_rfl) (by kernel_rfl) (by kernel_rfl) (fun _ _ _ h => h) (Or.inl ⟨by rfl, ?_⟩) hHeld ?_
  rotate_left
  · (intro w hS; go_simp; try with_reducible rfl)
  try simp only [Act.put, List.setIfInBounds_toArray, List.set_cons_zero, List.set_cons_succ]
  refine wpAnyH_take (i := 27) (oi := ({ dst := some 58, op := Op.pick (Operand.tmp 55) (Operand.const (Value.bool true)) (Operand.tmp 57), type := 4, pos := _, after := #[{ on := 24, ground := Ground.data }, { on := 26, ground := Ground.data }, { on := 19, ground := Ground.guard }], guard := some (19, true) } : Oper)) (v := ?_) rfl (by kernel_rfl) (by kernel_rfl) (by kernel_rfl) (fun _ _ _ h => h) (Or.inl ⟨by rfl, ?_⟩) hHeld ?_
  rotate_left
  · (intro w hS; go_simp; try with_reducible rfl)
  try simp only [Act.put, List.setIfInBounds_toArray, List.set_cons_zero, List.set_cons_succ]
  refine wpAnyH_take (i := 28) (oi := ({ dst := some 59, op := Op.binOp BinOp.eql 4 (Operand.tmp 52) (Operand.tmp 58) 4, type := 4, pos := _, after := #[{ on := 21, ground := Ground.data }, { on := 27, ground := Ground.data }, { on := 19, ground := Ground.guard }], guard := some (19, true) } : Oper)) (v := ?_) rfl (by kernel_rfl) (by kernel_rfl) (by kernel_rfl) (fun _ _ _ h => h) (Or.inl ⟨by rfl, ?_⟩) hHeld ?_
  rotate_left
  · (intro w hS; go_simp; try with_reducible rfl)
  try simp only [Act.put, List.setIfInBounds_toArray, List.set_cons_zero, List.set_cons_succ]
  refine wpAnyH_take (i := 29) (oi := ({ dst := some 60, op := Op.pick (Operand.tmp 50) (Operand.tmp 59) (Operand.const (Value.bool false)), type := 4, pos := _, after := #[{ on := 19, ground := Ground.data }, { on := 28, ground := Ground.data }], guard := none } : Oper)) (v := ?_) rfl (by kernel_rfl) (by kernel_rfl) (by kernel_rfl) (fun _ _ _ h => h) (Or.inl ⟨by rfl, ?_⟩) hHeld ?_
  rotate_left
  · (intro w hS; go_simp; try with_reducible rfl)
  try simp only [Act.put, List.setIfInBounds_toArray, List.set_cons_zero, List.set_cons_succ]
  refine wpAnyH_take (i := 30) (oi := ({ dst := some 61, op := Op.move (Operand.tmp 60), type := 4, pos := _, after := #[{ on := 29, ground := Ground.data }, { on := 24, ground := Ground.chain }], guard := none } : Oper)) (v := ?_) rfl (by kernel_rfl) (by kernel_rfl) (by kernel_rfl) (fun _ _ _ h => h) (Or.inl ⟨by rfl, ?_⟩) hHeld ?_
  rotate_left
  · (intro w hS; go_simp; try with_reducible rfl)
  try simp only [Act.put, List.setIfInBounds_toArray, List.set_cons_zero, List.set_cons_succ]
  refine wpAnyH_take (i := 31) (oi := ({ dst := some 62, op := Op.slice 24 (Operand.tmp 11) none none none, type := 28, pos := _, after := #[{ on := 30, ground := Ground.guard }], guard := some (30, true) } : Oper)) (v := ?_) rfl (by kernel_rfl) (by kernel_rfl) (by kernel_rfl) (fun _ _ _ h => h) (Or.inl ⟨by rfl, ?_⟩) hHeld ?_
  rotate_left
  · (intro w hS; go_simp; try with_reducible rfl)
  try simp only [Act.put, List.setIfInBounds_toArray, List.set_cons_zero, List.set_cons_succ]
  refine wpAnyH_take (i := 32) (oi := ({ dst := some 63, op := Op.slice 24 (Operand.tmp 4) none none none, type := 28, pos := _, after := #[{ on := 30, ground := Ground.guard }], guard := some (30, true) } : Oper)) (v := ?_) rfl (by kernel_rfl) (by kernel_rfl) (by kernel_rfl) (fun _ _ _ h => h) (Or.inl ⟨by rfl, ?_⟩) hHeld ?_
  rotate_left
  · (intro w hS; go_simp; try with_reducible rfl)
  try simp only [Act.put, List.setIfInBounds_toArray, List.set_cons_zero, List.set_cons_succ]
  refine wpAnyH_ready (rs := [33]) (by kernel_rfl) (by simp) ?_
  refine AllReadyH.cons (o := ({ dst := some 64, op := Op.call { callee := Callee.value (Operand.func 18), args := #[Operand.tmp 63], argTypes := #[28] }, type := 28, pos := _, after := #[{ on := 32, ground := Ground.data }, { on := 30, ground := Ground.chain }, { on := 30, ground := Ground.guard }], guard := some (30, true) } : Oper)) rfl (fun K hK => ?_) AllReadyH.nil
  refine step_call (refseal_calls _ _ ps _ (IP.below hHeld (Nat.le_refl _)) hHeld.size (by intro h; cases h)) (enters_of Tryd.func18 (by kernel_rfl) rfl) _ _ rfl rfl rfl ?_
  rintro e w10 ⟨a10, c10, rfl, J10, b10⟩
  refine ⟨_, rfl, hK.out _ _ (hHeld.trans (b10.mono hHeld.size)) (fun hHeld => ?_)⟩
  clear hK K
  try simp only [Act.put, List.setIfInBounds_toArray, List.set_cons_zero, List.set_cons_succ]
  refine wpAnyH_ready (rs := [34]) (by kernel_rfl) (by simp) ?_
  refine AllReadyH.cons (o := ({ dst := some 65, op := Op.call { callee := Callee.value (Operand.func 15), args := #[Operand.tmp 62, Operand.tmp 64], argTypes := #[28, 28] }, type := 4, pos := _, after := #[{ on := 31, ground := Ground.data }, { on := 33, ground := Ground.data }, { on := 33, ground := Ground.chain }, { on := 30, ground := Ground.guard }], guard := some (30, true) } : Oper)) rfl (fun K hK => ?_) AllReadyH.nil
  refine step_call (same_calls _ _ _ _ _ _ _ _ _ (IS.below hHeld (Nat.le_refl _)) J10 hHeld.size (Nat.le_refl _) (by decide)) (enters_of Tryd.func15 (by kernel_rfl) rfl) _ _ rfl rfl rfl ?_
  rintro e w11 ⟨rfl, b11⟩
  rw [beq_self_eq_true]
  refine ⟨_, rfl, hK.out _ _ (hHeld.trans (b11.mono hHeld.size)) (fun hHeld => ?_)⟩
  clear hK K
  try simp only [Act.put, List.setIfInBounds_toArray, List.set_cons_zero, List.set_cons_succ]
  refine wpAnyH_take (i := 35) (oi := ({ dst := some 66, op := Op.pick (Operand.tmp 61) (Operand.tmp 65) (Operand.const (Value.bool false)), type := 4, pos := _, after := #[{ on := 30, ground := Ground.data }, { on := 34, ground := Ground.data }], guard := none } : Oper)) (v := ?_) rfl (by kernel_rfl) (by kernel_rfl) (by kernel_rfl) (fun _ _ _ h => h) (Or.inl ⟨by rfl, ?_⟩) hHeld ?_
  rotate_left
  · (intro w hS; go_simp; try with_reducible rfl)
  try simp only [Act.put, List.setIfInBounds_toArray, List.set_cons_zero, List.set_cons_succ]
  refine wpAnyH_take (i := 36) (oi := ({ dst := some 67, op := Op.move (Operand.tmp 66), type := 4, pos := _, after := #[{ on := 35, ground := Ground.data }, { on := 34, ground := Ground.chain }], guard := none } : Oper)) (v := ?_) rfl (by kernel_rfl) (by kernel_rfl) (by kernel_rfl) (fun _ _ _ h => h) (Or.inl ⟨by rfl, ?_⟩) hHeld ?_
  rotate_left
  · (intro w hS; go_simp; try with_reducible rfl)
  try simp only [Act.put, List.setIfInBounds_toArray, List.set_cons_zero, List.set_cons_succ]
  refine wpAnyH_take (i := 37) (oi := ({ dst := some 68, op := Op.load 24 (Operand.tmp 4), type := 24, pos := _, after := #[{ on := 36, ground := Ground.guard }], guard := some (36, true) } : Oper))  rfl (by kernel_rfl) (by kernel_rfl) (by kernel_rfl) (fun _ _ _ h => h) (yields_ld rfl rfl rfl (fun w hS => run_ld24 w _ _ _ (P6.below hS P6.lt) HL.out)) hHeld ?_
  try simp only [Act.put, List.setIfInBounds_toArray, List.set_cons_zero, List.set_cons_succ]
  refine wpAnyH_take (i := 39) (oi := ({ dst := some 70, op := Op.slice 24 (Operand.tmp 4) none none none, type := 28, pos := _, after := #[{ on := 36, ground := Ground.guard }], guard := some (36, true) } : Oper)) (v := ?_) rfl (by kernel_rfl) (by kernel_rfl) (by kernel_rfl) (fun _ _ _ h => h) (Or.inl ⟨by rfl, ?_⟩) hHeld ?_
  rotate_left
  · (intro w hS; go_simp; try with_reducible rfl)
  try simp only [Act.put, List.setIfInBounds_toArray, List.set_cons_zero, List.set_cons_succ]
  refine wpAnyH_take (i := 40) (oi := ({ dst := some 71, op := Op.slice 24 (Operand.tmp 4) none none none, type := 28, pos := _, after := #[{ on := 36, ground := Ground.guard }], guard := some (36, true) } : Oper)) (v := ?_) rfl (by kernel_rfl) (by kernel_rfl) (by kernel_rfl) (fun _ _ _ h => h) (Or.inl ⟨by rfl, ?_⟩) hHeld ?_
  rotate_left
  · (intro w hS; go_simp; try with_reducible rfl)
  try simp only [Act.put, List.setIfInBounds_toArray, List.set_cons_zero, List.set_cons_succ]
  refine wpAnyH_ready (rs := [38]) (by kernel_rfl) (by simp) ?_
  refine AllReadyH.cons (o := ({ dst := some 69, op := Op.call { callee := Callee.value (Operand.func 19), args := #[Operand.tmp 68], argTypes := #[24] }, type := 4, pos := _, after := #[{ on := 37, ground := Ground.data }, { on := 36, ground := Ground.chain }, { on := 36, ground := Ground.guard }], guard := some (36, true) } : Oper)) rfl (fun K hK => ?_) AllReadyH.nil
  refine step_call (sealed_calls ps HL.out _) (enters_of Tryd.func19 (by kernel_rfl) rfl) _ _ rfl rfl rfl ?_
  rintro e w12 ⟨rfl, b12⟩
  rw [HD.out]
  refine ⟨_, rfl, hK.out _ _ (hHeld.trans (b12.mono hHeld.size)) (fun hHeld => ?_)⟩
  clear hK K
  try simp only [Act.put, List.setIfInBounds_toArray, List.set_cons_zero, List.set_cons_succ]
  refine wpAnyH_ready (rs := [41]) (by kernel_rfl) (by simp) ?_
  refine AllReadyH.cons (o := ({ dst := some 72, op := Op.call { callee := Callee.value (Operand.func 18), args := #[Operand.tmp 71], argTypes := #[28] }, type := 28, pos := _, after := #[{ on := 40, ground := Ground.data }, { on := 38, ground := Ground.chain }, { on := 36, ground := Ground.guard }], guard := some (36, true) } : Oper)) rfl (fun K hK => ?_) AllReadyH.nil
  refine step_call (refseal_calls _ _ ps _ (IP.below hHeld (Nat.le_refl _)) hHeld.size (by intro h; cases h)) (enters_of Tryd.func18 (by kernel_rfl) rfl) _ _ rfl rfl rfl ?_
  rintro e w13 ⟨a13, c13, rfl, J13, b13⟩
  refine ⟨_, rfl, hK.out _ _ (hHeld.trans (b13.mono hHeld.size)) (fun hHeld => ?_)⟩
  clear hK K
  try simp only [Act.put, List.setIfInBounds_toArray, List.set_cons_zero, List.set_cons_succ]
  refine wpAnyH_ready (rs := [42]) (by kernel_rfl) (by simp) ?_
  refine AllReadyH.cons (o := ({ dst := some 73, op := Op.call { callee := Callee.value (Operand.func 15), args := #[Operand.tmp 70, Operand.tmp 72], argTypes := #[28, 28] }, type := 4, pos := _, after := #[{ on := 39, ground := Ground.data }, { on := 41, ground := Ground.data }, { on := 41, ground := Ground.chain }, { on := 36, ground := Ground.guard }], guard := some (36, true) } : Oper)) rfl (fun K hK => ?_) AllReadyH.nil
  refine step_call (same_calls _ _ _ _ _ _ _ _ _ (IP.below hHeld (Nat.le_refl _)) J13 hHeld.size (Nat.le_refl _) (by decide)) (enters_of Tryd.func15 (by kernel_rfl) rfl) _ _ rfl rfl rfl ?_
  rintro e w14 ⟨rfl, b14⟩
  rw [HD2.out]
  refine ⟨_, rfl, hK.out _ _ (hHeld.trans (b14.mono hHeld.size)) (fun hHeld => ?_)⟩
  clear hK K
  try simp only [Act.put, List.setIfInBounds_toArray, List.set_cons_zero, List.set_cons_succ]
  refine wpAnyH_take (i := 43) (oi := ({ dst := some 74, op := Op.binOp BinOp.eql 4 (Operand.tmp 69) (Operand.tmp 73) 4, type := 4, pos := _, after := #[{ on := 38, ground := Ground.data }, { on := 42, ground := Ground.data }, { on := 36, ground := Ground.guard }], guard := some (36, true) } : Oper)) (v := ?_) rfl (by kernel_rfl) (by kernel_rfl) (by kernel_rfl) (fun _ _ _ h => h) (Or.inl ⟨by rfl, ?_⟩) hHeld ?_
  rotate_left
  · (intro w hS; go_simp; try with_reducible rfl)
  try simp only [Act.put, List.setIfInBounds_toArray, List.set_cons_zero, List.set_cons_succ]
  refine wpAnyH_take (i := 44) (oi := ({ dst := some 75, op := Op.pick (Operand.tmp 67) (Operand.tmp 74) (Operand.const (Value.bool false)), type := 4, pos := _, after := #[{ on := 36, ground := Ground.data }, { on := 43, ground := Ground.data }], guard := none } : Oper)) (v := ?_) rfl (by kernel_rfl) (by kernel_rfl) (by kernel_rfl) (fun _ _ _ h => h) (Or.inl ⟨by rfl, ?_⟩) hHeld ?_
  rotate_left
  · (intro w hS; go_simp; try with_reducible rfl)
  try simp only [Act.put, List.setIfInBounds_toArray, List.set_cons_zero, List.set_cons_succ]
  refine wpAnyH_take (i := 45) (oi := ({ dst := some 6, op := Op.assign (Operand.tmp 75), type := 4, pos := _, after := #[{ on := 44, ground := Ground.data }, { on := 42, ground := Ground.chain }, { on := 0, ground := Ground.phase }, { on := 1, ground := Ground.phase }, { on := 2, ground := Ground.phase }, { on := 3, ground := Ground.phase }, { on := 4, ground := Ground.phase }, { on := 5, ground := Ground.phase }, { on := 6, ground := Ground.phase }, { on := 7, ground := Ground.phase }, { on := 8, ground := Ground.phase }, { on := 9, ground := Ground.phase }, { on := 10, ground := Ground.phase }, { on := 11, ground := Ground.phase }, { on := 12, ground := Ground.phase }, { on := 13, ground := Ground.phase }, { on := 14, ground := Ground.phase }, { on := 15, ground := Ground.phase }, { on := 16, ground := Ground.phase }, { on := 17, ground := Ground.phase }, { on := 18, ground := Ground.phase }, { on := 19, ground := Ground.phase }, { on := 20, ground := Ground.phase }, { on := 21, ground := Ground.phase }, { on := 22, ground := Ground.phase }, { on := 23, ground := Ground.phase }, { on := 24, ground := Ground.phase }, { on := 25, ground := Ground.phase }, { on := 26, ground := Ground.phase }, { on := 27, ground := Ground.phase }, { on := 28, ground := Ground.phase }, { on := 29, ground := Ground.phase }, { on := 30, ground := Ground.phase }, { on := 31, ground := Ground.phase }, { on := 32, ground := Ground.phase }, { on := 33, ground := Ground.phase }, { on := 34, ground := Ground.phase }, { on := 35, ground := Ground.phase }, { on := 36, ground := Ground.phase }, { on := 37, ground := Ground.phase }, { on := 38, ground := Ground.phase }, { on := 39, ground := Ground.phase }, { on := 40, ground := Ground.phase }, { on := 41, ground := Ground.phase }, { on := 42, ground := Ground.phase }, { on := 43, ground := Ground.phase }, { on := 44, ground := Ground.phase }], guard := none } : Oper)) (v := ?_) rfl (by kernel_rfl) (by kernel_rfl) (by kernel_rfl) (fun _ _ _ h => h) (Or.inl ⟨by rfl, ?_⟩) hHeld ?_
  rotate_left
  · (intro w hS; go_simp; try with_reducible rfl)
  try simp only [Act.put, List.setIfInBounds_toArray, List.set_cons_zero, List.set_cons_succ]
  refine wpAnyH_done (by kernel_rfl) ?_ _
  go_wp2
  go_ret
  exact ⟨ret_bool (by cases db <;> rfl), B6.trans (hHeld.mono B6.size)⟩

theorem builds_walk (g p v t c : Int) (ps : List UInt8) (hp : ps.length = 48) (nni : Bool) (w : World) (tab : Tab w) :
    Calls Tryd.prog 3 #[.agg (hdrV g p v t c), .agg (payV ps), .bool nni] w fun e w' => e = .returned (.bool true) ∧ Below w.heap.size w w' := by
  cases hr : rightB nni g p v t c with
  | true =>
    cases hk : kindN p v t c == 2 with
    | true => exact builds_rt g p v t c ps hp nni w tab hr hk
    | false => exact builds_rf g p v t c ps hp nni w tab hr hk
  | false =>
    cases hk : kindN p v t c == 2 with
    | true => exact builds_wt g p v t c ps hp nni w tab hr hk
    | false => exact builds_wf g p v t c ps hp nni w tab hr hk
end Go.Proofs.YtpifmljbaogcbaaDoor

/- Proved here: what the listed tables hold when a call begins, and a start that meets it. Conditions: as each theorem states them. -/
namespace Go.Proofs.YtpifmljbaogcbaaDoor.H
open Go.RowKit

def laidL : List (String × DataW Unit) := [("trunkline/header.userBits", Rows.laid_trunkline_header_userBits), ("trunkline/header.switchBits", Rows.laid_trunkline_header_switchBits)]

theorem gSwitch : Tryd.prog.globalNamed "trunkline/header.switchBits" = some 0 := by kernel_rfl
theorem gUser : Tryd.prog.globalNamed "trunkline/header.userBits" = some 1 := by kernel_rfl
theorem tSwitch : (Tryd.prog.globals[0]?).map (·.type) = some 97 := by kernel_rfl
theorem tUser : (Tryd.prog.globals[1]?).map (·.type) = some 97 := by kernel_rfl
theorem c47 : Tryd.prog.cellsOf 73 = 1 := by kernel_rfl
theorem c54 : Tryd.prog.cellsOf 97 = 5 := by kernel_rfl

theorem door_met (os : Os) (args : Array Value) : laidMetH Tryd.prog laidL ((World.doorLaid Tryd.prog 19 os).forCall (fun _ _ => 0) ⟨#[], args, []⟩).memory :=
  laidMetH_of_parts3 (fuel := 8) (laidMet_of_run' 8 (by kernel_rfl) (by kernel_rfl)) (by kernel_rfl) (by kernel_rfl)

theorem tab_of_laid {W : World} (h : laidMetH Tryd.prog laidL W) : Tab W := by
  rw [MakeChecks.laidMetH_plain _ _ _ (by kernel_rfl)] at h
  have u := Lib.tabIs_of_head (k := .u64) (zs := [4, 8, 16, 3, 1]) gUser tUser Tryd.underlying97 Tryd.underlying73 c47 c54 h
  have s := Lib.tabIs_of_head (k := .u64) (zs := [0, 12, 16, 3, 1]) gSwitch tSwitch Tryd.underlying97 Tryd.underlying73 c47 c54 h.tail
  have e := u.cell gUser 0 (by decide)
  exact ⟨World.block_lt_of_cell? W ⟨1, 0, none⟩ e, ⟨s.cell gSwitch 0 (by decide), s.cell gSwitch 1 (by decide), s.cell gSwitch 2 (by decide), s.cell gSwitch 3 (by decide), s.cell gSwitch 4 (by decide)⟩,
    e, u.cell gUser 1 (by decide), u.cell gUser 2 (by decide), u.cell gUser 3 (by decide), u.cell gUser 4 (by decide)⟩
end Go.Proofs.YtpifmljbaogcbaaDoor.H

/- Proved here: how an array and a struct of integers that came in read. Conditions: as each theorem states them. -/
namespace Go.Proofs.YtpifmljbaogcbaaDoor.H
open Go.RowKit Go.WideShapes

theorem okWide_array {P : Program} {w : World} {r : Reach} {base : Nat} {t : TypeId} {v : Value} {n : Nat} {e : TypeId} (ht : P.underlying t = some (.array n e)) (h : Value.okWide P w r base t v) : ∃ cs, v = .agg cs ∧ cs.size = P.cellsOf t := by
  simp only [Value.okWide, ht] at h
  obtain ⟨cs, h1, h2, _⟩ := h
  exact ⟨cs, h1, h2⟩

theorem open_arr {H : Type} {enc : TypeId × Value → H} {P : Program} {w : World} {base : Nat} {spare : Nat → Bool} {held : Bool} {r : Reach} {b0 : Nat} {t e : TypeId} {n : Nat} {k : IntKind} {v : Value} {d : DataW H} {p : List MemPlace}
    (ht : P.underlying t = some (.array n e)) (he : P.underlying e = some (.int k)) (hce : P.cellsOf e = 1) (hct : P.cellsOf t = n) (hv : Value.okWide P w r b0 t v) (h : DataW.Trod enc P w base spare held t v d p) :
    ∃ zs : List Int, zs.length = n ∧ v = .agg (zs.map fun z => Value.int k z).toArray ∧ ∀ z ∈ zs, (Lit.int k z).wf = true := by
  obtain ⟨cs, rfl, hsz⟩ := okWide_array ht hv
  obtain ⟨fuel, hf⟩ := h
  obtain ⟨xs, m, _, _, hl, hx, hall⟩ := DataW.trod_array ht hf
  have hcells : (Value.cells (.agg cs)).toList = cs.toList := rfl
  rw [hcells] at hl hall
  rw [hce] at hall
  have key : ∀ i, i < n → ∃ z, cs.toList[i]? = some (.int k z) ∧ (Lit.int k z).wf = true := by
    intro i hi
    have h1 := hall i hi
    obtain ⟨y, hy⟩ : ∃ y, xs[i]? = some y := ⟨xs[i]'(by omega), by rw [List.getElem?_eq_getElem]⟩
    rw [hy] at h1
    obtain ⟨z, hz, _, hwf⟩ := DataW.trod_int he h1
    refine ⟨z, ?_, hwf⟩
    have : (List.take 1 (List.drop (i * 1) cs.toList))[0]? = some (.int k z) := by rw [hz]; rfl
    simpa using this
  have hlen : cs.toList.length = n := hl.trans hct
  have hcs : cs.toList = (cs.toList.map intOf).map fun z => Value.int k z := by
    apply List.ext_getElem?
    intro i
    by_cases hi : i < n
    · obtain ⟨z, hz, _⟩ := key i hi
      rw [List.getElem?_map, List.getElem?_map, hz]; rfl
    · rw [List.getElem?_eq_none (by omega), List.getElem?_eq_none (by simp; simpa using (by omega : cs.toList.length ≤ i))]
  refine ⟨cs.toList.map intOf, by simpa using hlen, ?_, ?_⟩
  · rw [← hcs]
  · intro z hz
    obtain ⟨v, hv, rfl⟩ := List.mem_map.1 hz
    obtain ⟨i, hi, rfl⟩ := List.getElem_of_mem hv
    obtain ⟨z, hz, hwf⟩ := key i (by omega)
    rw [List.getElem?_eq_getElem hi] at hz
    rw [Option.some.inj hz]
    exact hwf

theorem open_struct_ints {H : Type} {enc : TypeId × Value → H} {P : Program} {w : World} {base : Nat} {spare : Nat → Bool} {held : Bool} {r : Reach} {b0 : Nat} {t e : TypeId} {n : Nat} {k : IntKind} {fs : Array Field} {v : Value} {d : DataW H} {p : List MemPlace}
    (ht : P.underlying t = some (.struct fs)) (he : P.underlying e = some (.int k)) (hce : P.cellsOf e = 1) (hct : P.cellsOf t = n)
    (hfs : ((List.range n).all fun i => match fs[i]? with | some f => f.type == e && f.offset == i | none => false) = true) (hfn : fs.size = n) (hv : Value.okWide P w r b0 t v) (h : DataW.Trod enc P w base spare held t v d p) :
    ∃ zs : List Int, zs.length = n ∧ v = .agg (zs.map fun z => Value.int k z).toArray ∧ ∀ z ∈ zs, (Lit.int k z).wf = true := by
  obtain ⟨cs, rfl, hsz⟩ := okWide_struct ht hv
  obtain ⟨fuel, hf⟩ := h
  obtain ⟨xs, m, _, _, hl, hx, hall⟩ := DataW.trod_struct ht hf
  have hcells : (Value.cells (.agg cs)).toList = cs.toList := rfl
  rw [hcells] at hl hall
  have key : ∀ i, i < n → ∃ z, cs.toList[i]? = some (.int k z) ∧ (Lit.int k z).wf = true := by
    intro i hi
    have hq := List.all_eq_true.1 hfs i (List.mem_range.2 hi)
    cases hfi : fs[i]? with
    | none => rw [hfi] at hq; simp at hq
    | some f =>
      rw [hfi] at hq
      simp only [Bool.and_eq_true, beq_iff_eq] at hq
      have h1 := hall i f hfi
      rw [hq.1, hq.2, hce] at h1
      obtain ⟨y, hy⟩ : ∃ y, xs[i]? = some y := ⟨xs[i]'(by omega), by rw [List.getElem?_eq_getElem]⟩
      rw [hy] at h1
      obtain ⟨z, hz, _, hwf⟩ := DataW.trod_int he h1
      refine ⟨z, ?_, hwf⟩
      have : (List.take 1 (List.drop i cs.toList))[0]? = some (.int k z) := by rw [hz]; rfl
      simpa using this
  have hlen : cs.toList.length = n := hl.trans hct
  have hcs : cs.toList = (cs.toList.map intOf).map fun z => Value.int k z := by
    apply List.ext_getElem?
    intro i
    by_cases hi : i < n
    · obtain ⟨z, hz, _⟩ := key i hi
      rw [List.getElem?_map, List.getElem?_map, hz]; rfl
    · rw [List.getElem?_eq_none (by omega), List.getElem?_eq_none (by simp; simpa using (by omega : cs.toList.length ≤ i))]
  refine ⟨cs.toList.map intOf, by simpa using hlen, ?_, ?_⟩
  · rw [← hcs]
  · intro z hz
    obtain ⟨v, hv, rfl⟩ := List.mem_map.1 hz
    obtain ⟨i, hi, rfl⟩ := List.getElem_of_mem hv
    obtain ⟨z, hz, hwf⟩ := key i (by omega)
    rw [List.getElem?_eq_getElem hi] at hz
    rw [Option.some.inj hz]
    exact hwf
theorem list5 {α : Type} : ∀ {l : List α}, l.length = 5 → ∃ y0 y1 y2 y3 y4, l = [y0, y1, y2, y3, y4]
  | [y0, y1, y2, y3, y4], _ => ⟨y0, y1, y2, y3, y4, rfl⟩
end Go.Proofs.YtpifmljbaogcbaaDoor.H
