/- Proved here: awake answers true. Conditions: as each theorem states them. -/
import Derived.Test.YtbjeljmnknibnaaDoorMa
import Derived.Test.YtbjeljmnknibnaaDoorMk
namespace Go.Proofs.YtbjeljmnknibnaaDoor
set_option linter.unusedSimpArgs false
set_option linter.unusedVariables false
set_option maxRecDepth 20000
open Go.RowKit Go.Shelf

theorem run_sl15 (x0 x1 x2 x3 x4 x5 x6 x7 x8 x9 x10 x11 x12 x13 x14 : UInt8) (w : World) : (Instr.buildSlice 25 15 #[(0, .int .u8 (x0.toNat : Int)), (1, .int .u8 (x1.toNat : Int)), (2, .int .u8 (x2.toNat : Int)), (3, .int .u8 (x3.toNat : Int)), (4, .int .u8 (x4.toNat : Int)), (5, .int .u8 (x5.toNat : Int)), (6, .int .u8 (x6.toNat : Int)), (7, .int .u8 (x7.toNat : Int)), (8, .int .u8 (x8.toNat : Int)), (9, .int .u8 (x9.toNat : Int)), (10, .int .u8 (x10.toNat : Int)), (11, .int .u8 (x11.toNat : Int)), (12, .int .u8 (x12.toNat : Int)), (13, .int .u8 (x13.toNat : Int)), (14, .int .u8 (x14.toNat : Int))]).run Tryd.prog w = .ok (.slice (some ⟨w.heap.size, 0, none⟩) 15 15) (w.alloc (.cells (vals [x0, x1, x2, x3, x4, x5, x6, x7, x8, x9, x10, x11, x12, x13, x14]).toArray 5)) := by kernel_rfl
def awL : List El := [⟨8, [0, 35]⟩]
theorem aw_right : rightM (mk 5 false 90 awL) = true := by decide
theorem aw_bytes : bytesM (mk 5 false 90 awL) = [9, 3, 0, 0, 5, 90, 128, 0, 6, 8, 128, 0, 2, 0, 35] := by decide
theorem aw_cause : caN awL = 35 := by decide
theorem unMe_bytes {m : Me} (hr : rightM m = true) (hl : (bytesM m).length ≤ 1000) : unMe (bytesM m) = m ∧ unMx (bytesM m) = 0 := unMe_ok (unM_bytes hr hl)

set_option maxHeartbeats 2000000 in
theorem awake_calls (w : World) (ht : Tab w) : Calls Tryd.prog 9 #[] w fun e w' => e = .returned (.bool true) ∧ Below w.heap.size w w' := by
  go_enter Tryd.func9, Tryd.ntmps9
  go_wp2_with (with_reducible show wpList _ _ _ (Oper.mk _ (Op.buildSlice _ _ _) _ _ _ _ :: _) _ _; refine stop_here ?_)
  refine ⟨?_⟩
  refine wpList_slB (zs := [0, 35]) (vs := [(0, .int .u8 ((0 : UInt8).toNat : Int)), (1, .int .u8 ((35 : UInt8).toNat : Int))]) (by rfl) w.heap.size (by rfl) (by rfl) (run_sl2 _ _) rfl (by decide) (Nat.le_refl _) ?_
  intro b1 w1 hb1 o1 e1
  go_wp2_with (with_reducible show wpList _ _ _ (Oper.mk _ (Op.buildSlice _ _ _) _ _ _ _ :: _) _ _; refine stop_here ?_)
  refine ⟨?_⟩
  refine wpList_slI (i := 8) (ab := some ⟨b1, 0, none⟩) (l := 2) (cb := 2) rfl (by rfl) (by rfl) ?_
  intro b2 w2 hb2 G2 e2
  have o2 := o1.below e2 (Nat.le_refl _)
  have B2 := e1.trans (e2.mono e1.size)
  have I2 : IsI w2.heap.size w2 (some ⟨b2, 0, none⟩) 1 awL := isI_bk G2 o2.isB.1 o2.isB.2.1 o2.isB.2.2
  have HP := mpack_calls 5 false 90 (some ⟨b2, 0, none⟩) 1 1 awL w2 I2 (Nat.le_refl _) (by decide) (ht.on B2)
  clear e1 e2 o1 o2 G2 I2 hb2 hb1
  go_wp2_with fail
  refine HP.mono ?_
  rintro e w3 ⟨b3, ⟨hr, _⟩ | ⟨_, hl, _⟩ | ⟨_, _, a3, c3, rfl, o3⟩⟩
  · rw [aw_right] at hr; cases hr
  · rw [aw_bytes] at hl; exact absurd hl (by decide)
  have B3 := B2.trans (b3.mono B2.size)
  have hln : (bytesM (mk 5 false 90 awL)).length = 15 := by rw [aw_bytes]; rfl
  rw [hln] at o3
  rw [hln]
  obtain ⟨zs, hzs⟩ : ∃ zs, bytesM (mk 5 false 90 awL) = zs := ⟨_, rfl⟩
  have HU := munpack_calls a3 15 c3 zs w3 (by rw [← hzs]; exact o3.isB.1) (Nat.le_refl _) o3.isB.2.2 (by decide) (ht.on B3)
  have hu := unMe_bytes aw_right (by rw [hln]; decide)
  rw [hzs] at hu o3
  have HZ : Hid (zs = [9, 3, 0, 0, 5, 90, 128, 0, 6, 8, 128, 0, 2, 0, 35]) := hzs.symm.trans aw_bytes
  unfold MuAll at HU
  rw [hu.1, hu.2] at HU
  clear HP b3 hu hzs hln
  go_wp2_with fail
  refine HU.mono ?_
  rintro e w4 ⟨a4, n4, c4, rfl, I4, hn4, b4⟩
  have B4 := B3.trans (b4.mono B3.size)
  have o4 := o3.below b4 (Nat.le_refl _)
  have A5 := me_below (w := w4) (r := 5) (b := false) (k := 90) (a := a4) (n := n4) (c := c4)
  have K5 := me_box (w := w4) (r := 5) (b := false) (k := 90) (a := a4) (n := n4) (c := c4)
  have I5 := I4.below A5 (Nat.le_refl _)
  have o5 := o4.below A5 (Nat.le_refl _)
  have B5 := B4.trans (A5.mono B4.size)
  have h45 := A5.size
  clear HU b4 o3 o4 I4 A5
  go_wp2_with (with_reducible show wpList _ _ _ (Oper.mk _ (Op.buildSlice _ _ _) _ _ _ _ :: _) _ _; refine stop_here ?_)
  refine ⟨?_⟩
  generalize w4.alloc (.cells (meC 5 false 90 a4 n4 c4) 24) = w5 at *
  refine wpList_slB (zs := [9, 3, 0, 0, 5, 90, 128, 0, 6, 8, 128, 0, 2, 0, 35]) (vs := [(0, .int .u8 ((9 : UInt8).toNat : Int)), (1, .int .u8 ((3 : UInt8).toNat : Int)), (2, .int .u8 ((0 : UInt8).toNat : Int)), (3, .int .u8 ((0 : UInt8).toNat : Int)), (4, .int .u8 ((5 : UInt8).toNat : Int)), (5, .int .u8 ((90 : UInt8).toNat : Int)), (6, .int .u8 ((128 : UInt8).toNat : Int)), (7, .int .u8 ((0 : UInt8).toNat : Int)), (8, .int .u8 ((6 : UInt8).toNat : Int)), (9, .int .u8 ((8 : UInt8).toNat : Int)), (10, .int .u8 ((128 : UInt8).toNat : Int)), (11, .int .u8 ((0 : UInt8).toNat : Int)), (12, .int .u8 ((2 : UInt8).toNat : Int)), (13, .int .u8 ((0 : UInt8).toNat : Int)), (14, .int .u8 ((35 : UInt8).toNat : Int))]) (by rfl) w5.heap.size (by rfl) (by rfl) (run_sl15 _ _ _ _ _ _ _ _ _ _ _ _ _ _ _) rfl (by decide) (Nat.le_refl _) ?_
  intro b6 w6 hb6 o6 e6
  have K6 := K5.below e6 K5.lt
  have I6 := I5.below e6 h45
  have HS := same_calls a3 (some ⟨b6, 0, none⟩) 15 c3 15 15 zs [9, 3, 0, 0, 5, 90, 128, 0, 6, 8, 128, 0, 2, 0, 35] w6 (o5.below e6 (Nat.le_refl _)).isB.1 o6.isB.1 (Nat.le_refl _) (Nat.le_refl _) (by decide)
  rw [show (zs == [9, 3, 0, 0, 5, 90, 128, 0, 6, 8, 128, 0, 2, 0, 35]) = true by rw [HZ.out]; decide] at HS
  have B6 := B5.trans (e6.mono B5.size)
  have hb46 : w4.heap.size ≤ w6.heap.size := Nat.le_trans h45 e6.size
  clear K5 I5 o5 o6 e6 hb6 h45
  go_wp2_with fail
  refine HS.mono ?_
  rintro e w7 ⟨rfl, b7⟩
  have K7 := K6.below b7 K6.lt
  have p0 := K7.cell 0 _ rfl
  have HC := mcause_calls 5 false 90 a4 n4 c4 awL w7 (I6.below b7 hb46) (Nat.le_trans hb46 b7.size) (by omega)
  rw [aw_cause] at HC
  have B7 := B6.trans (b7.mono B6.size)
  clear HS K6 I6
  go_wp2_with (with_reducible show wpList _ _ _ (Oper.mk _ (Op.load 24 _) _ _ _ _ :: _) _ _; refine wpList_ld rfl rfl rfl (run_ldM (by with_reducible assumption)) ?_; (try simp only [Act.put, List.setIfInBounds_toArray, List.set_cons_zero, List.set_cons_succ, World.size_alloc]))
  refine HC.mono ?_
  rintro e w8 ⟨rfl, b8⟩
  go_wp2
  go_ret
  exact ⟨rfl, B7.trans (b8.mono B7.size)⟩
end Go.Proofs.YtbjeljmnknibnaaDoor
