/- Proved here: the walk of CellBack. Conditions: as each theorem states them. -/
import Derived.Test.YtpifmljbaogcbaaDoorCBase
namespace Go.Proofs.YtpifmljbaogcbaaDoor
set_option linter.unusedSimpArgs false
set_option linter.unusedVariables false
open Go.RowKit
open H (Tab rightB bytesN numN dG dP dV dT dC)

theorem flip_front (x0 x1 x2 x3 x4 : UInt8) (ps : List UInt8) (k : Nat) (hk : k < 40) : flipN ([x0, x1, x2, x3, x4] ++ ps) k = flipN [x0, x1, x2, x3, x4] k ++ ps := by
  unfold flipN
  rw [List.getElem?_append_left (by simp; omega), List.set_append_left _ _ (by simp; omega)]
theorem dam_ne : ∀ n, n < 40 → synN (dam n) ≠ 0 := by decide +kernel
theorem res_flip (x0 x1 x2 x3 y0 y1 y2 y3 y4 : UInt8) (k : Nat) (hk : k < 40) (h : flipN [x0, x1, x2, x3, chk x0 x1 x2 x3] k = [y0, y1, y2, y3, y4]) : res false [y0, y1, y2, y3, y4] = .fixed k := by
  have e : synN [y0, y1, y2, y3, y4] = synN (dam k) := by rw [← h, syn_flip _ _ _ _ _ k hk, syn_chk, Nat.zero_xor]
  unfold res
  rw [e, if_neg (dam_ne k hk), bitN_dam k hk]
  rfl
theorem res_chk (c : Bool) (x0 x1 x2 x3 : UInt8) : res c [x0, x1, x2, x3, chk x0 x1 x2 x3] = .right := by unfold res; rw [if_pos (syn_chk x0 x1 x2 x3)]
theorem num_of {n : Nat} (hn : n < 4294967296) {x0 x1 x2 x3 : UInt8} (h : bytesN n = [x0, x1, x2, x3]) : numN x0 x1 x2 x3 = n := by
  have := H.numN_bytes n hn
  simp only [bytesN, List.cons.injEq, and_true] at h
  rw [h.1, h.2.1, h.2.2.1, h.2.2.2] at this
  exact this

set_option maxRecDepth 20000 in
set_option maxHeartbeats 4000000 in
theorem back_wrong (g p v t c : Int) (ps : List UInt8) (hp : ps.length = 48) (nni : Bool) (i : Nat) (w : World) (tab : Tab w) (hr : rightB nni g p v t c = false) :
    Calls Tryd.prog 5 #[.agg (hdrV g p v t c), .agg (payV ps), .bool nni, .int .u8 i] w fun e w' => e = .returned (.bool true) ∧ Below w.heap.size w w' := by
  have HL : Hid (ps.length = 48) := hp
  have HR : Hid (rightB nni g p v t c = false) := hr
  have K0 := (bk_new w (hdrV g p v t c) 23).alloc (.cells (payV ps) 24)
  have P0 := bk_new (w.alloc (.cells (hdrV g p v t c) 23)) (payV ps) 24
  have A0 : Below w.heap.size w ((w.alloc (.cells (hdrV g p v t c) 23)).alloc (.cells (payV ps) 24)) := ((Below.refl _ w).alloc (Nat.le_refl _) _).alloc (by simp) _
  rw [World.size_alloc] at P0
  clear hp hr
  go_enter Tryd.func5, Tryd.ntmps5
  go_wp2_with fail
  refine (awake_calls _ (tab.below A0 tab.1)).mono ?_
  rintro e w1 ⟨rfl, b1⟩
  have K1 := K0.below b1 K0.lt
  have P1 := P0.below b1 P0.lt
  have C1 := bk_new w1 (cellV g p v t c ps) 27
  have B1 := (A0.trans (b1.mono A0.size)).alloc (o := .cells (cellV g p v t c ps) 27) (Nat.le_trans A0.size b1.size)
  clear K0 P0 A0 b1
  go_wp2_with (first | (with_reducible show wpList _ _ _ (Oper.mk _ (Op.load 23 _) _ _ _ _ :: _) _ _; refine wpList_ld rfl rfl rfl (run_ld23 _ _ _ _ _ _ _ _ (by assumption)) ?_; (try simp only [Act.put, List.setIfInBounds_toArray, List.set_cons_zero, List.set_cons_succ, World.size_alloc])) | (with_reducible show wpList _ _ _ (Oper.mk _ (Op.load 24 _) _ _ _ _ :: _) _ _; refine wpList_ld rfl rfl rfl (run_ld24 _ _ _ _ (by assumption) (by first | exact HL.out | exact HM.out)) ?_; (try simp only [Act.put, List.setIfInBounds_toArray, List.set_cons_zero, List.set_cons_succ, World.size_alloc])) | (with_reducible show wpList _ _ _ (Oper.mk _ (Op.build 27 _) _ _ _ _ :: _) _ _; refine wpList_bldf rfl (by first | exact HL.out | exact HM.out) rfl rfl rfl ?_; (try simp only [Act.put, List.setIfInBounds_toArray, List.set_cons_zero, List.set_cons_succ, World.size_alloc])) | (with_reducible show wpList _ _ _ (Oper.mk _ (Op.alloc 27) _ _ _ _ :: Oper.mk _ (Op.store 27 _ _) _ _ _ _ :: _) _ _; refine wpList_def rfl rfl rfl rfl rfl zero27 (by rw [size27, cellV_size]; (try simp only [Option.some.injEq, zer, List.length_replicate]) <;> first | rfl | (have := HL.out; omega) | (have := HM.out; omega)) (by first | rfl | (simp only [cellV_size]; done) | (rw [cellV_size, cellV_size]; (try simp only [zer, List.length_replicate]) <;> first | rfl | (have := HL.out; omega) | (have := HM.out; omega) | (have := HL.out; have := HM.out; omega))) (cellV_one _ _ _ _ _ _) rfl ?_; (try simp only [Act.put, List.setIfInBounds_toArray, List.set_cons_zero, List.set_cons_succ, World.size_alloc])) | (with_reducible show wpList _ _ _ (Oper.mk _ (Op.load 27 _) _ _ _ _ :: _) _ _; refine wpList_ld rfl rfl rfl (run_ld27 _ _ _ _ _ _ _ _ _ (by assumption) (by first | exact HL.out | exact HM.out)) ?_; (try simp only [Act.put, List.setIfInBounds_toArray, List.set_cons_zero, List.set_cons_succ, World.size_alloc])))
  refine (build_no nni g p v t c ps _ (tab.below B1 tab.1) HR.out).mono ?_
  rintro e w2 ⟨rfl, b2⟩
  have B2 := B1.trans (b2.mono B1.size)
  go_wp2
  go_ret
  exact ⟨rfl, B2⟩

set_option maxRecDepth 20000 in
set_option maxHeartbeats 8000000 in
theorem back_right (g p v t c : Int) (ps : List UInt8) (hp : ps.length = 48) (nni : Bool) (i : Nat) (hi : i < 256) (w : World) (tab : Tab w) (hr : rightB nni g p v t c = true) :
    Calls Tryd.prog 5 #[.agg (hdrV g p v t c), .agg (payV ps), .bool nni, .int .u8 i] w fun e w' => e = .returned (.bool true) ∧ Below w.heap.size w w' := by
  have HL : Hid (ps.length = 48) := hp
  have HR : Hid (rightB nni g p v t c = true) := hr
  obtain ⟨n, hn⟩ : ∃ n : Nat, H.word g p v t c = (n : Int) := ⟨(H.word g p v t c).toNat, by have := H.word_lt hr; omega⟩
  have hlt : n < 4294967296 := by have := H.word_lt hr; omega
  have HN : Hid (H.word g p v t c = (n : Int)) := hn
  obtain ⟨x0, x1, x2, x3, hx⟩ := four_of n
  have HX : Hid (bytesN n = [x0, x1, x2, x3]) := hx
  have hnum := num_of hlt hx
  obtain ⟨w1, w2, w3, w4, w5⟩ := H.of_word hr hn
  have HG : Hid (dG nni (numN x0 x1 x2 x3) = g) := by rw [Hid, hnum, w1]
  have HP : Hid (dP nni (numN x0 x1 x2 x3) = p) := by rw [Hid, hnum, w2]
  have HV : Hid (dV (numN x0 x1 x2 x3) = v) := by rw [Hid, hnum, w3]
  have HT : Hid (dT (numN x0 x1 x2 x3) = t) := by rw [Hid, hnum, w4]
  have HC : Hid (dC (numN x0 x1 x2 x3) = c) := by rw [Hid, hnum, w5]
  obtain ⟨k, hk⟩ : ∃ k, i % 40 = k := ⟨_, rfl⟩
  have k40 : k < 40 := by omega
  have ik : (i : Int) % 40 = (k : Int) := by omega
  obtain ⟨y0, y1, y2, y3, y4, hy⟩ := flip_list5 x0 x1 x2 x3 (chk x0 x1 x2 x3) k
  have HF : Hid (res false [y0, y1, y2, y3, y4] = .fixed k) := res_flip x0 x1 x2 x3 y0 y1 y2 y3 y4 k k40 hy
  have HB : Hid ((res false [y0, y1, y2, y3, y4]).out [y0, y1, y2, y3, y4] = [x0, x1, x2, x3]) := by
    rw [Hid, HF.out]
    show (flipN [y0, y1, y2, y3, y4] k).take 4 = _
    rw [← hy, flip_back _ _ _ _ _ k k40]; rfl
  have HY : Hid (flipN (cellB x0 x1 x2 x3 ps) k = [y0, y1, y2, y3, y4] ++ ps) := by
    rw [Hid, cellB, flip_front _ _ _ _ _ _ k k40, hy]
  have he : ∀ w, (binOp .eql 27 (.agg (cellV g p v t c ps)) (.agg (cellV g p v t c ps))).run Tryd.prog w = .ok (.bool true) w := fun w => by
    rw [eql27 _ _ _ _ _ _ _ _ _ _ _ _ HL.out HL.out w]; simp [hdrB_self]
  have K0 := (bk_new w (hdrV g p v t c) 23).alloc (.cells (payV ps) 24)
  have P0 := bk_new (w.alloc (.cells (hdrV g p v t c) 23)) (payV ps) 24
  have A0 : Below w.heap.size w ((w.alloc (.cells (hdrV g p v t c) 23)).alloc (.cells (payV ps) 24)) := ((Below.refl _ w).alloc (Nat.le_refl _) _).alloc (by simp) _
  rw [World.size_alloc] at P0
  have t2 := tab.1
  clear hp hr hn hx hnum w1 w2 w3 w4 w5 hk hy hlt
  go_enter Tryd.func5, Tryd.ntmps5
  go_wp2_with fail
  refine (awake_calls _ (tab.below A0 tab.1)).mono ?_
  rintro e w1 ⟨rfl, b1⟩
  have K1 := K0.below b1 K0.lt
  have P1 := P0.below b1 P0.lt
  have B0 := A0.trans (b1.mono A0.size)
  clear K0 P0 A0 b1
  go_wp2_with (first | (with_reducible show wpList _ _ _ (Oper.mk _ (Op.load 23 _) _ _ _ _ :: _) _ _; refine wpList_ld rfl rfl rfl (run_ld23 _ _ _ _ _ _ _ _ (by assumption)) ?_; (try simp only [Act.put, List.setIfInBounds_toArray, List.set_cons_zero, List.set_cons_succ, World.size_alloc])) | (with_reducible show wpList _ _ _ (Oper.mk _ (Op.load 24 _) _ _ _ _ :: _) _ _; refine wpList_ld rfl rfl rfl (run_ld24 _ _ _ _ (by assumption) (by first | exact HL.out | exact HM.out)) ?_; (try simp only [Act.put, List.setIfInBounds_toArray, List.set_cons_zero, List.set_cons_succ, World.size_alloc])) | (with_reducible show wpList _ _ _ (Oper.mk _ (Op.build 27 _) _ _ _ _ :: _) _ _; refine wpList_bldf rfl (by first | exact HL.out | exact HM.out) rfl rfl rfl ?_; (try simp only [Act.put, List.setIfInBounds_toArray, List.set_cons_zero, List.set_cons_succ, World.size_alloc])) | ((with_reducible show wpList _ _ _ (Oper.mk _ (Op.alloc 27) _ _ _ _ :: Oper.mk _ (Op.store 27 _ _) _ _ _ _ :: _) _ _; refine wpList_defL rfl rfl rfl rfl rfl zero27 (by rw [size27, cellV_size]; (try simp only [Option.some.injEq, zer, List.length_replicate]) <;> first | rfl | (have := HL.out; omega) | (have := HM.out; omega)) (by first | rfl | (simp only [cellV_size]; done) | (rw [cellV_size, cellV_size]; (try simp only [zer, List.length_replicate]) <;> first | rfl | (have := HL.out; omega) | (have := HM.out; omega) | (have := HL.out; have := HM.out; omega))) (cellV_one _ _ _ _ _ _) rfl ?_); intro W1 C1 b1 z1; clear K1 P1; try simp only [Act.put, List.setIfInBounds_toArray, List.set_cons_zero, List.set_cons_succ]) | (with_reducible show wpList _ _ _ (Oper.mk _ (Op.load 27 _) _ _ _ _ :: _) _ _; refine wpList_ld rfl rfl rfl (run_ld27 _ _ _ _ _ _ _ _ _ (by assumption) (by first | exact HL.out | exact HM.out)) ?_; (try simp only [Act.put, List.setIfInBounds_toArray, List.set_cons_zero, List.set_cons_succ, World.size_alloc])))
  have B1 := B0.trans (b1.mono B0.size)
  clear B0
  refine (build_yes nni g p v t c n x0 x1 x2 x3 ps HL.out _ (tab.below B1 tab.1) HR.out HN.out HX.out).mono ?_
  rintro e w2 ⟨a2, c2, rfl, o2, b2⟩
  have C2 := C1.below b2 C1.lt
  have B2 := B1.trans (b2.mono B1.size)
  obtain ⟨ga, cur, rfl, _, hga, _⟩ := o2.block (by decide)
  obtain ⟨I2, _, hc2⟩ := o2.isB
  have A3 := (Below.refl w2.heap.size w2).alloc (Nat.le_refl _) (.cells #[.int .i64 ((0 : Nat) : Int), .int .i64 ((0 : Nat) : Int), .bool false] 46)
  have R3 := bk_new w2 #[.int .i64 ((0 : Nat) : Int), .int .i64 ((0 : Nat) : Int), .bool false] 46
  have T3 := tab.below (B2.trans (A3.mono B2.size)) tab.1
  have z2 := B2.size
  clear C1 B1 b2 o2 b1 z1
  go_wp2_with fail
  refine (parse_yes nni w2.heap.size 0 0 false ga 0 c2 x0 x1 x2 x3 (chk x0 x1 x2 x3) x0 x1 x2 x3 ps HL.out _ (I2.below A3 (Nat.le_refl _)) (by simp) hc2 (by omega) (by omega) T3 R3 (by decide) (by decide) (by rw [res_chk]; rfl) (by rw [res_chk]; rfl) g p v t c HG.out HP.out HV.out HT.out HC.out).mono ?_
  rintro e w4 ⟨rfl, R4, b4⟩
  rw [res_chk] at R4
  have B4 : Below w2.heap.size w2 w4 := A3.trans (b4.below (m := w2.heap.size) (by simp) (Nat.le_refl _))
  have r4 : w2.heap.size < w4.heap.size := BK.lt R4
  have I4 := I2.below B4 (Nat.le_refl _)
  have C4 := C2.below B4 C2.lt
  have c2l := C2.lt
  clear R3 A3 I2 C2 T3 b4
  go_wp2_with (first | ((with_reducible show wpList _ _ _ (Oper.mk _ (Op.alloc 27) _ _ _ _ :: Oper.mk _ (Op.store 27 _ _) _ _ _ _ :: _) _ _; refine wpList_defL rfl rfl rfl rfl rfl zero27 (by rw [size27, cellV_size]; (try simp only [Option.some.injEq, zer, List.length_replicate]) <;> first | rfl | (have := HL.out; omega) | (have := HM.out; omega)) (by first | rfl | (simp only [cellV_size]; done) | (rw [cellV_size, cellV_size]; (try simp only [zer, List.length_replicate]) <;> first | rfl | (have := HL.out; omega) | (have := HM.out; omega) | (have := HL.out; have := HM.out; omega))) (cellV_one _ _ _ _ _ _) rfl ?_); intro W5 X5 A5 z5; try simp only [Act.put, List.setIfInBounds_toArray, List.set_cons_zero, List.set_cons_succ]) | fail)
  have R5 := BK.below R4 A5 (BK.lt R4)
  have C5 := C4.below A5 C4.lt
  have I5 := I4.below A5 (by omega)
  clear R4 C4 I4
  refine (flip_calls _ 53 c2 _ _ I5 (by omega) (by intro h; cases h) (by decide) k (by omega)).mono ?_
  rintro e w6 ⟨a6, c6, rfl, o6, b6⟩
  rw [HY.out] at o6
  obtain ⟨gf, cur, rfl, hg1, hg2, _⟩ := o6.block (by decide)
  obtain ⟨I6, _, hc6⟩ := o6.isB
  have R6 := BK.below R5 b6 (BK.lt R5)
  have C6 := C5.below b6 C5.lt
  have X6 := X5.below b6 X5.lt
  have B6 : Below w2.heap.size w2 w6 := (B4.trans (A5.mono B4.size)).trans (b6.mono (by omega))
  have T6 := tab.below (B2.trans (B6.mono B2.size)) tab.1
  have z6 := b6.size
  clear R5 C5 X5 I5 b6 A5 B4 o6
  go_wp2_with fail
  refine (parse_yes nni w2.heap.size 0 0 false gf 0 c6 y0 y1 y2 y3 y4 x0 x1 x2 x3 ps HL.out _ I6 (Nat.le_refl _) hc6 (by omega) (by omega) T6 R6 (by decide) (by decide) HB.out (by rw [HF.out]; rfl) g p v t c HG.out HP.out HV.out HT.out HC.out).mono ?_
  rintro e w7 ⟨rfl, R7, b7⟩
  rw [HF.out] at R7
  have C7 := C6.but b7 C6.lt (by omega)
  have X7 := X6.but b7 X6.lt (by omega)
  have B7 : Below w2.heap.size w2 w7 := B6.trans (b7.below (m := w2.heap.size) (by omega) (Nat.le_refl _))
  have B7' := B2.trans (B7.mono B2.size)
  clear R6 C6 X6 I6 T6 B6 B7 b7
  go_wp2_with (first | ((with_reducible show wpList _ _ _ (Oper.mk _ (Op.alloc 27) _ _ _ _ :: Oper.mk _ (Op.store 27 _ _) _ _ _ _ :: _) _ _; refine wpList_defL rfl rfl rfl rfl rfl zero27 (by rw [size27, cellV_size]; (try simp only [Option.some.injEq, zer, List.length_replicate]) <;> first | rfl | (have := HL.out; omega) | (have := HM.out; omega)) (by first | rfl | (simp only [cellV_size]; done) | (rw [cellV_size, cellV_size]; (try simp only [zer, List.length_replicate]) <;> first | rfl | (have := HL.out; omega) | (have := HM.out; omega) | (have := HL.out; have := HM.out; omega))) (cellV_one _ _ _ _ _ _) rfl ?_); intro W8 Y8 A8 z8; have R8 := BK.below R7 A8 (BK.lt R7); have C8 := C7.below A8 C7.lt; have X8 := X7.below A8 X7.lt; clear R7 C7 X7; try simp only [Act.put, List.setIfInBounds_toArray, List.set_cons_zero, List.set_cons_succ]) | (with_reducible show wpList _ _ _ (Oper.mk _ (Op.load 27 _) _ _ _ _ :: _) _ _; refine wpList_ld rfl rfl rfl (run_ld27 _ _ _ _ _ _ _ _ _ (by assumption) (by first | exact HL.out | exact HM.out)) ?_; (try simp only [Act.put, List.setIfInBounds_toArray, List.set_cons_zero, List.set_cons_succ, World.size_alloc])))
  have B8 := B7'.trans (A8.mono B7'.size)
  refine (careful_calls _ _ _ _ _ R8).mono ?_
  rintro e w9 ⟨rfl, rfl⟩
  go_wp2
  go_ret
  exact ⟨rfl, B8⟩

theorem back_walk (g p v t c : Int) (ps : List UInt8) (hp : ps.length = 48) (nni : Bool) (i : Nat) (hi : i < 256) (w : World) (tab : Tab w) :
    Calls Tryd.prog 5 #[.agg (hdrV g p v t c), .agg (payV ps), .bool nni, .int .u8 i] w fun e w' => e = .returned (.bool true) ∧ Below w.heap.size w w' := by
  cases hr : rightB nni g p v t c with
  | true => exact back_right g p v t c ps hp nni i hi w tab hr
  | false => exact back_wrong g p v t c ps hp nni i w tab hr
end Go.Proofs.YtpifmljbaogcbaaDoor
