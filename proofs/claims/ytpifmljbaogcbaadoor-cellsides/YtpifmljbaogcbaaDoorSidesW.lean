/- Proved here: the walk of CellSides. Conditions: as each theorem states them. -/
import Derived.Test.YtpifmljbaogcbaaDoorCBase
namespace Go.Proofs.YtpifmljbaogcbaaDoor
set_option linter.unusedSimpArgs false
set_option linter.unusedVariables false
open Go.RowKit
open H (Tab rightB bytesN same_calls)

set_option maxRecDepth 20000 in
set_option maxHeartbeats 4000000 in
theorem sides_wrong (g p v t c : Int) (ps : List UInt8) (hp : ps.length = 48) (w : World) (tab : Tab w) (hr : rightB false 0 p v t c = false) :
    Calls Tryd.prog 8 #[.agg (hdrV g p v t c), .agg (payV ps)] w fun e w' => e = .returned (.bool true) ∧ Below w.heap.size w w' := by
  have HL : Hid (ps.length = 48) := hp
  have HR : Hid (rightB false 0 p v t c = false) := hr
  have K0 := (bk_new w (hdrV g p v t c) 23).alloc (.cells (payV ps) 24)
  have P0 := bk_new (w.alloc (.cells (hdrV g p v t c) 23)) (payV ps) 24
  have A0 : Below w.heap.size w ((w.alloc (.cells (hdrV g p v t c) 23)).alloc (.cells (payV ps) 24)) := ((Below.refl _ w).alloc (Nat.le_refl _) _).alloc (by simp) _
  rw [World.size_alloc] at P0
  clear hp hr
  go_enter Tryd.func8, Tryd.ntmps8
  go_wp2_with fail
  refine (awake_calls _ (tab.below A0 tab.1)).mono ?_
  rintro e w1 ⟨rfl, b1⟩
  have K1 := K0.below b1 K0.lt
  have k0 := K1.cell 0 _ rfl
  have f0 := K1.frozen 0
  have K2 : BK (w1.setCell ⟨w.heap.size, 0, none⟩ (.int .i64 0)) w.heap.size (hdrV 0 p v t c) 23 := K1.set 0 (.int .i64 0)
  have P2 := (P0.below b1 P0.lt).setOther (p := ⟨w.heap.size, 0, none⟩) (by simp) (.int .i64 0)
  have B2 := (A0.trans (b1.mono A0.size)).setCell (p := ⟨w.heap.size, 0, none⟩) (Nat.le_refl _) (.int .i64 0)
  clear K0 P0 A0 b1 K1
  go_wp2_with (first | (with_reducible show wpList _ _ _ (Oper.mk _ (Op.load 23 _) _ _ _ _ :: _) _ _; refine wpList_ld rfl rfl rfl (run_ld23 _ _ _ _ _ _ _ _ (by assumption)) ?_; (try simp only [Act.put, List.setIfInBounds_toArray, List.set_cons_zero, List.set_cons_succ, World.size_alloc])) | (with_reducible show wpList _ _ _ (Oper.mk _ (Op.load 24 _) _ _ _ _ :: _) _ _; refine wpList_ld rfl rfl rfl (run_ld24 _ _ _ _ (by assumption) (by first | exact HL.out | exact HM.out)) ?_; (try simp only [Act.put, List.setIfInBounds_toArray, List.set_cons_zero, List.set_cons_succ, World.size_alloc])) | (with_reducible show wpList _ _ _ (Oper.mk _ (Op.build 27 _) _ _ _ _ :: _) _ _; refine wpList_bldf rfl (by first | exact HL.out | exact HM.out) rfl rfl rfl ?_; (try simp only [Act.put, List.setIfInBounds_toArray, List.set_cons_zero, List.set_cons_succ, World.size_alloc])))
  refine (build_no false 0 p v t c ps _ (tab.below B2 tab.1) HR.out).mono ?_
  rintro e w3 ⟨rfl, b3⟩
  have K3 := K2.below b3 K2.lt
  have P3 := P2.below b3 P2.lt
  have B3 := B2.trans (b3.mono B2.size)
  clear K2 P2 B2 b3 k0 f0
  go_wp2_with (first | (with_reducible show wpList _ _ _ (Oper.mk _ (Op.load 23 _) _ _ _ _ :: _) _ _; refine wpList_ld rfl rfl rfl (run_ld23 _ _ _ _ _ _ _ _ (by assumption)) ?_; (try simp only [Act.put, List.setIfInBounds_toArray, List.set_cons_zero, List.set_cons_succ, World.size_alloc])) | (with_reducible show wpList _ _ _ (Oper.mk _ (Op.load 24 _) _ _ _ _ :: _) _ _; refine wpList_ld rfl rfl rfl (run_ld24 _ _ _ _ (by assumption) (by first | exact HL.out | exact HM.out)) ?_; (try simp only [Act.put, List.setIfInBounds_toArray, List.set_cons_zero, List.set_cons_succ, World.size_alloc])) | (with_reducible show wpList _ _ _ (Oper.mk _ (Op.build 27 _) _ _ _ _ :: _) _ _; refine wpList_bldf rfl (by first | exact HL.out | exact HM.out) rfl rfl rfl ?_; (try simp only [Act.put, List.setIfInBounds_toArray, List.set_cons_zero, List.set_cons_succ, World.size_alloc])))
  refine (build_any true 0 p v t c ps HL.out _ (tab.below B3 tab.1)).mono ?_
  rintro e w4 ⟨a4, n4, c4, e4, rfl, _, b4⟩
  have B4 := B3.trans (b4.mono B3.size)
  go_wp2
  go_ret
  exact ⟨rfl, B4⟩

set_option maxRecDepth 20000 in
set_option maxHeartbeats 4000000 in
theorem sides_right (g p v t c : Int) (ps : List UInt8) (hp : ps.length = 48) (w : World) (tab : Tab w) (hr : rightB false 0 p v t c = true) :
    Calls Tryd.prog 8 #[.agg (hdrV g p v t c), .agg (payV ps)] w fun e w' => e = .returned (.bool true) ∧ Below w.heap.size w w' := by
  have HL : Hid (ps.length = 48) := hp
  have HR : Hid (rightB false 0 p v t c = true) := hr
  have HS : Hid (rightB true 0 p v t c = true) := by
    rw [Hid, H.right_nni]
    have := H.right_user.1 hr
    exact ⟨rfl, ⟨this.2.1.1, by omega⟩, this.2.2.1, this.2.2.2.1, this.2.2.2.2⟩
  obtain ⟨n, hn⟩ : ∃ n : Nat, H.word 0 p v t c = (n : Int) := ⟨(H.word 0 p v t c).toNat, by have := H.word_lt hr; omega⟩
  have HN : Hid (H.word 0 p v t c = (n : Int)) := hn
  obtain ⟨x0, x1, x2, x3, hx⟩ := four_of n
  have HX : Hid (bytesN n = [x0, x1, x2, x3]) := hx
  have HZ : Hid (synN [x0, x1, x2, x3, chk x0 x1 x2 x3] = 0) := syn_chk x0 x1 x2 x3
  have K0 := (bk_new w (hdrV g p v t c) 23).alloc (.cells (payV ps) 24)
  have P0 := bk_new (w.alloc (.cells (hdrV g p v t c) 23)) (payV ps) 24
  have A0 : Below w.heap.size w ((w.alloc (.cells (hdrV g p v t c) 23)).alloc (.cells (payV ps) 24)) := ((Below.refl _ w).alloc (Nat.le_refl _) _).alloc (by simp) _
  rw [World.size_alloc] at P0
  clear hp hr hn hx
  go_enter Tryd.func8, Tryd.ntmps8
  go_wp2_with fail
  refine (awake_calls _ (tab.below A0 tab.1)).mono ?_
  rintro e w1 ⟨rfl, b1⟩
  have K1 := K0.below b1 K0.lt
  have k0 := K1.cell 0 _ rfl
  have f0 := K1.frozen 0
  have K2 : BK (w1.setCell ⟨w.heap.size, 0, none⟩ (.int .i64 0)) w.heap.size (hdrV 0 p v t c) 23 := K1.set 0 (.int .i64 0)
  have P2 := (P0.below b1 P0.lt).setOther (p := ⟨w.heap.size, 0, none⟩) (by simp) (.int .i64 0)
  have B2 := (A0.trans (b1.mono A0.size)).setCell (p := ⟨w.heap.size, 0, none⟩) (Nat.le_refl _) (.int .i64 0)
  clear K0 P0 A0 b1 K1
  go_wp2_with (first | (with_reducible show wpList _ _ _ (Oper.mk _ (Op.load 23 _) _ _ _ _ :: _) _ _; refine wpList_ld rfl rfl rfl (run_ld23 _ _ _ _ _ _ _ _ (by assumption)) ?_; (try simp only [Act.put, List.setIfInBounds_toArray, List.set_cons_zero, List.set_cons_succ, World.size_alloc])) | (with_reducible show wpList _ _ _ (Oper.mk _ (Op.load 24 _) _ _ _ _ :: _) _ _; refine wpList_ld rfl rfl rfl (run_ld24 _ _ _ _ (by assumption) (by first | exact HL.out | exact HM.out)) ?_; (try simp only [Act.put, List.setIfInBounds_toArray, List.set_cons_zero, List.set_cons_succ, World.size_alloc])) | (with_reducible show wpList _ _ _ (Oper.mk _ (Op.build 27 _) _ _ _ _ :: _) _ _; refine wpList_bldf rfl (by first | exact HL.out | exact HM.out) rfl rfl rfl ?_; (try simp only [Act.put, List.setIfInBounds_toArray, List.set_cons_zero, List.set_cons_succ, World.size_alloc])))
  refine (build_yes false 0 p v t c n x0 x1 x2 x3 ps HL.out _ (tab.below B2 tab.1) HR.out HN.out HX.out).mono ?_
  rintro e w3 ⟨a3, c3, rfl, o3, b3⟩
  obtain ⟨ga, cura, rfl, _, _, _⟩ := o3.block (by decide)
  obtain ⟨I3, _, hc3⟩ := o3.isB
  have K3 := K2.below b3 K2.lt
  have P3 := P2.below b3 P2.lt
  have B3 := B2.trans (b3.mono B2.size)
  clear K2 P2 B2 b3 k0 f0 o3
  go_wp2_with (first | (with_reducible show wpList _ _ _ (Oper.mk _ (Op.load 23 _) _ _ _ _ :: _) _ _; refine wpList_ld rfl rfl rfl (run_ld23 _ _ _ _ _ _ _ _ (by assumption)) ?_; (try simp only [Act.put, List.setIfInBounds_toArray, List.set_cons_zero, List.set_cons_succ, World.size_alloc])) | (with_reducible show wpList _ _ _ (Oper.mk _ (Op.load 24 _) _ _ _ _ :: _) _ _; refine wpList_ld rfl rfl rfl (run_ld24 _ _ _ _ (by assumption) (by first | exact HL.out | exact HM.out)) ?_; (try simp only [Act.put, List.setIfInBounds_toArray, List.set_cons_zero, List.set_cons_succ, World.size_alloc])) | (with_reducible show wpList _ _ _ (Oper.mk _ (Op.build 27 _) _ _ _ _ :: _) _ _; refine wpList_bldf rfl (by first | exact HL.out | exact HM.out) rfl rfl rfl ?_; (try simp only [Act.put, List.setIfInBounds_toArray, List.set_cons_zero, List.set_cons_succ, World.size_alloc])))
  refine (build_yes true 0 p v t c n x0 x1 x2 x3 ps HL.out _ (tab.below B3 tab.1) HS.out HN.out HX.out).mono ?_
  rintro e w4 ⟨a4, c4, rfl, o4, b4⟩
  obtain ⟨gb, curb, rfl, _, _, _⟩ := o4.block (by decide)
  obtain ⟨I4, _, hc4⟩ := o4.isB
  have B4 := B3.trans (b4.mono B3.size)
  have J3 := (I3.below b4 (Nat.le_refl _)).mono b4.size
  have P4 := (P3.below b4 P3.lt).pay
  rw [HL.out] at P4
  have D3 : IsB w4.heap.size w4 (some ⟨ga, 5, none⟩) 48 ps := by
    have := IsB.drop5 (x0 := x0) (x1 := x1) (x2 := x2) (x3 := x3) (x4 := chk x0 x1 x2 x3) J3
    rwa [Nat.zero_add, HL.out] at this
  have F3 : IsB w4.heap.size w4 (some ⟨ga, 0, none⟩) 5 [x0, x1, x2, x3, chk x0 x1 x2 x3] := J3.take 5 (by simp [cellB])
  have h53 : ¬ (c3 = 5) := by omega
  have h5c : 5 ≤ c3 := by omega
  have h5i : (5 : Int) ≤ (c3 : Int) := by omega
  clear I3 K3 P3 b4 B3 o4
  go_wp2
  refine wp_region_held_drew (S := (fun w' => Below w4.heap.size w4 w')) (by kernel_rfl) (Below.refl _ w4).drew (fun hHeld => ?_)
  refine wpAnyH_take (i := 0) (oi := ({ dst := some 31, op := Op.move (Operand.tmp 8), type := 29, pos := _, after := #[], guard := none } : Oper)) (v := ?_) rfl (by kernel_rfl) (by kernel_rfl) (by kernel_rfl) (fun _ _ _ h => h) (Or.inl ⟨by rfl, ?_⟩) hHeld ?_
  rotate_left
  · (intro w hS; go_simp; try with_reducible rfl)
  try simp only [Act.put, List.setIfInBounds_toArray, List.set_cons_zero, List.set_cons_succ]
  refine wpAnyH_take (i := 1) (oi := ({ dst := some 32, op := Op.binOp BinOp.eql 29 (Operand.tmp 31) (Operand.const (Value.int IntKind.i64 0)) 29, type := 4, pos := _, after := #[{ on := 0, ground := Ground.data }], guard := none } : Oper)) (v := ?_) rfl (by kernel_rfl) (by kernel_rfl) (by kernel_rfl) (fun _ _ _ h => h) (Or.inl ⟨by rfl, ?_⟩) hHeld ?_
  rotate_left
  · (intro w hS; go_simp; try with_reducible rfl)
  try simp only [Act.put, List.setIfInBounds_toArray, List.set_cons_zero, List.set_cons_succ]
  refine wpAnyH_take (i := 2) (oi := ({ dst := some 33, op := Op.move (Operand.tmp 32), type := 4, pos := _, after := #[{ on := 1, ground := Ground.data }], guard := none } : Oper)) (v := ?_) rfl (by kernel_rfl) (by kernel_rfl) (by kernel_rfl) (fun _ _ _ h => h) (Or.inl ⟨by rfl, ?_⟩) hHeld ?_
  rotate_left
  · (intro w hS; go_simp; try with_reducible rfl)
  try simp only [Act.put, List.setIfInBounds_toArray, List.set_cons_zero, List.set_cons_succ]
  refine wpAnyH_take (i := 3) (oi := ({ dst := some 34, op := Op.move (Operand.tmp 5), type := 28, pos := _, after := #[{ on := 2, ground := Ground.guard }], guard := some (2, true) } : Oper)) (v := ?_) rfl (by kernel_rfl) (by kernel_rfl) (by kernel_rfl) (fun _ _ _ h => h) (Or.inl ⟨by rfl, ?_⟩) hHeld ?_
  rotate_left
  · (intro w hS; go_simp; try with_reducible rfl)
  try simp only [Act.put, List.setIfInBounds_toArray, List.set_cons_zero, List.set_cons_succ]
  refine wpAnyH_take (i := 4) (oi := ({ dst := some 35, op := Op.move (Operand.tmp 7), type := 28, pos := _, after := #[{ on := 2, ground := Ground.guard }], guard := some (2, true) } : Oper)) (v := ?_) rfl (by kernel_rfl) (by kernel_rfl) (by kernel_rfl) (fun _ _ _ h => h) (Or.inl ⟨by rfl, ?_⟩) hHeld ?_
  rotate_left
  · (intro w hS; go_simp; try with_reducible rfl)
  try simp only [Act.put, List.setIfInBounds_toArray, List.set_cons_zero, List.set_cons_succ]
  refine wpAnyH_ready (rs := [5]) (by kernel_rfl) (by simp) ?_
  refine AllReadyH.cons (o := ({ dst := some 36, op := Op.call { callee := Callee.value (Operand.func 15), args := #[Operand.tmp 34, Operand.tmp 35], argTypes := #[28, 28] }, type := 4, pos := _, after := #[{ on := 3, ground := Ground.data }, { on := 4, ground := Ground.data }, { on := 2, ground := Ground.chain }, { on := 2, ground := Ground.guard }], guard := some (2, true) } : Oper)) rfl (fun K hK => ?_) AllReadyH.nil
  refine step_call (same_calls _ _ _ _ _ _ _ _ _ (J3.below hHeld (Nat.le_refl _)) (I4.below hHeld (Nat.le_refl _)) hHeld.size hHeld.size (by decide)) (enters_of Tryd.func15 (by kernel_rfl) rfl) _ _ rfl rfl rfl ?_
  rintro e w5 ⟨rfl, b5⟩
  rw [beq_self_eq_true]
  refine ⟨_, rfl, hK.out _ _ (hHeld.trans (b5.mono hHeld.size)) (fun hHeld => ?_)⟩
  clear hK K
  try simp only [Act.put, List.setIfInBounds_toArray, List.set_cons_zero, List.set_cons_succ]
  refine wpAnyH_take (i := 6) (oi := ({ dst := some 37, op := Op.pick (Operand.tmp 33) (Operand.tmp 36) (Operand.const (Value.bool false)), type := 4, pos := _, after := #[{ on := 2, ground := Ground.data }, { on := 5, ground := Ground.data }], guard := none } : Oper)) (v := ?_) rfl (by kernel_rfl) (by kernel_rfl) (by kernel_rfl) (fun _ _ _ h => h) (Or.inl ⟨by rfl, ?_⟩) hHeld ?_
  rotate_left
  · (intro w hS; go_simp; try with_reducible rfl)
  try simp only [Act.put, List.setIfInBounds_toArray, List.set_cons_zero, List.set_cons_succ]
  refine wpAnyH_take (i := 7) (oi := ({ dst := some 38, op := Op.move (Operand.tmp 37), type := 4, pos := _, after := #[{ on := 6, ground := Ground.data }, { on := 5, ground := Ground.chain }], guard := none } : Oper)) (v := ?_) rfl (by kernel_rfl) (by kernel_rfl) (by kernel_rfl) (fun _ _ _ h => h) (Or.inl ⟨by rfl, ?_⟩) hHeld ?_
  rotate_left
  · (intro w hS; go_simp; try with_reducible rfl)
  try simp only [Act.put, List.setIfInBounds_toArray, List.set_cons_zero, List.set_cons_succ]
  refine wpAnyH_take (i := 8) (oi := ({ dst := some 39, op := Op.move (Operand.tmp 5), type := 28, pos := _, after := #[{ on := 7, ground := Ground.guard }], guard := some (7, true) } : Oper)) (v := ?_) rfl (by kernel_rfl) (by kernel_rfl) (by kernel_rfl) (fun _ _ _ h => h) (Or.inl ⟨by rfl, ?_⟩) hHeld ?_
  rotate_left
  · (intro w hS; go_simp; try with_reducible rfl)
  try simp only [Act.put, List.setIfInBounds_toArray, List.set_cons_zero, List.set_cons_succ]
  refine wpAnyH_take (i := 9) (oi := ({ dst := some 40, op := Op.slice 28 (Operand.tmp 39) (some (Operand.const (Value.int IntKind.i64 5))) none none, type := 28, pos := _, after := #[{ on := 8, ground := Ground.data }, { on := 7, ground := Ground.guard }], guard := some (7, true) } : Oper)) (v := ?_) rfl (by kernel_rfl) (by kernel_rfl) (by kernel_rfl) (fun _ _ _ h => h) (Or.inl ⟨by rfl, ?_⟩) hHeld ?_
  rotate_left
  · (intro w hS; go_simp; try with_reducible rfl)
  try simp only [Act.put, List.setIfInBounds_toArray, List.set_cons_zero, List.set_cons_succ]
  refine wpAnyH_take (i := 10) (oi := ({ dst := some 41, op := Op.slice 24 (Operand.tmp 3) none none none, type := 28, pos := _, after := #[{ on := 7, ground := Ground.guard }], guard := some (7, true) } : Oper)) (v := ?_) rfl (by kernel_rfl) (by kernel_rfl) (by kernel_rfl) (fun _ _ _ h => h) (Or.inl ⟨by rfl, ?_⟩) hHeld ?_
  rotate_left
  · (intro w hS; go_simp; try with_reducible rfl)
  try simp only [Act.put, List.setIfInBounds_toArray, List.set_cons_zero, List.set_cons_succ]
  refine wpAnyH_ready (rs := [11]) (by kernel_rfl) (by simp) ?_
  refine AllReadyH.cons (o := ({ dst := some 42, op := Op.call { callee := Callee.value (Operand.func 15), args := #[Operand.tmp 40, Operand.tmp 41], argTypes := #[28, 28] }, type := 4, pos := _, after := #[{ on := 9, ground := Ground.data }, { on := 10, ground := Ground.data }, { on := 7, ground := Ground.chain }, { on := 7, ground := Ground.guard }], guard := some (7, true) } : Oper)) rfl (fun K hK => ?_) AllReadyH.nil
  refine step_call (same_calls _ _ _ _ _ _ _ _ _ (D3.below hHeld (Nat.le_refl _)) (P4.below hHeld (Nat.le_refl _)) hHeld.size hHeld.size (by decide)) (enters_of Tryd.func15 (by kernel_rfl) rfl) _ _ rfl rfl rfl ?_
  rintro e w6 ⟨rfl, b6⟩
  rw [beq_self_eq_true]
  refine ⟨_, rfl, hK.out _ _ (hHeld.trans (b6.mono hHeld.size)) (fun hHeld => ?_)⟩
  clear hK K
  try simp only [Act.put, List.setIfInBounds_toArray, List.set_cons_zero, List.set_cons_succ]
  refine wpAnyH_take (i := 12) (oi := ({ dst := some 43, op := Op.pick (Operand.tmp 38) (Operand.tmp 42) (Operand.const (Value.bool false)), type := 4, pos := _, after := #[{ on := 7, ground := Ground.data }, { on := 11, ground := Ground.data }], guard := none } : Oper)) (v := ?_) rfl (by kernel_rfl) (by kernel_rfl) (by kernel_rfl) (fun _ _ _ h => h) (Or.inl ⟨by rfl, ?_⟩) hHeld ?_
  rotate_left
  · (intro w hS; go_simp; try with_reducible rfl)
  try simp only [Act.put, List.setIfInBounds_toArray, List.set_cons_zero, List.set_cons_succ]
  refine wpAnyH_take (i := 13) (oi := ({ dst := some 44, op := Op.move (Operand.tmp 43), type := 4, pos := _, after := #[{ on := 12, ground := Ground.data }, { on := 11, ground := Ground.chain }], guard := none } : Oper)) (v := ?_) rfl (by kernel_rfl) (by kernel_rfl) (by kernel_rfl) (fun _ _ _ h => h) (Or.inl ⟨by rfl, ?_⟩) hHeld ?_
  rotate_left
  · (intro w hS; go_simp; try with_reducible rfl)
  try simp only [Act.put, List.setIfInBounds_toArray, List.set_cons_zero, List.set_cons_succ]
  refine wpAnyH_take (i := 14) (oi := ({ dst := some 45, op := Op.move (Operand.tmp 5), type := 28, pos := _, after := #[{ on := 13, ground := Ground.guard }], guard := some (13, true) } : Oper)) (v := ?_) rfl (by kernel_rfl) (by kernel_rfl) (by kernel_rfl) (fun _ _ _ h => h) (Or.inl ⟨by rfl, ?_⟩) hHeld ?_
  rotate_left
  · (intro w hS; go_simp; try with_reducible rfl)
  try simp only [Act.put, List.setIfInBounds_toArray, List.set_cons_zero, List.set_cons_succ]
  refine wpAnyH_take (i := 15) (oi := ({ dst := some 46, op := Op.slice 28 (Operand.tmp 45) none (some (Operand.const (Value.int IntKind.i64 5))) none, type := 28, pos := _, after := #[{ on := 14, ground := Ground.data }, { on := 13, ground := Ground.guard }], guard := some (13, true) } : Oper)) (v := ?_) rfl (by kernel_rfl) (by kernel_rfl) (by kernel_rfl) (fun _ _ _ h => h) (Or.inl ⟨by rfl, ?_⟩) hHeld ?_
  rotate_left
  · (intro w hS; go_simp; try with_reducible rfl)
  try simp only [Act.put, List.setIfInBounds_toArray, List.set_cons_zero, List.set_cons_succ]
  refine wpAnyH_ready (rs := [16]) (by kernel_rfl) (by simp) ?_
  refine AllReadyH.cons (o := ({ dst := some 47, op := Op.call { callee := Callee.value (Operand.func 26), args := #[Operand.tmp 46], argTypes := #[28] }, type := 5, pos := _, after := #[{ on := 15, ground := Ground.data }, { on := 13, ground := Ground.chain }, { on := 13, ground := Ground.guard }], guard := some (13, true) } : Oper)) rfl (fun K hK => ?_) AllReadyH.nil
  refine step_call (refsyn_calls _ _ _ [x0, x1, x2, x3, chk x0 x1 x2 x3] h5c (by decide) _ (F3.below hHeld (Nat.le_refl _)) hHeld.size) (enters_of Tryd.func26 (by kernel_rfl) rfl) _ _ rfl rfl rfl ?_
  rintro e w7 ⟨rfl, b7⟩
  rw [HZ.out]
  refine ⟨_, rfl, hK.out _ _ (hHeld.trans (b7.mono hHeld.size)) (fun hHeld => ?_)⟩
  clear hK K
  try simp only [Act.put, List.setIfInBounds_toArray, List.set_cons_zero, List.set_cons_succ]
  refine wpAnyH_take (i := 17) (oi := ({ dst := some 48, op := Op.binOp BinOp.eql 5 (Operand.tmp 47) (Operand.const (Value.int IntKind.u8 0)) 5, type := 4, pos := _, after := #[{ on := 16, ground := Ground.data }, { on := 13, ground := Ground.guard }], guard := some (13, true) } : Oper)) (v := ?_) rfl (by kernel_rfl) (by kernel_rfl) (by kernel_rfl) (fun _ _ _ h => h) (Or.inl ⟨by rfl, ?_⟩) hHeld ?_
  rotate_left
  · (intro w hS; go_simp; try with_reducible rfl)
  try simp only [Act.put, List.setIfInBounds_toArray, List.set_cons_zero, List.set_cons_succ]
  refine wpAnyH_take (i := 18) (oi := ({ dst := some 49, op := Op.pick (Operand.tmp 44) (Operand.tmp 48) (Operand.const (Value.bool false)), type := 4, pos := _, after := #[{ on := 13, ground := Ground.data }, { on := 17, ground := Ground.data }], guard := none } : Oper)) (v := ?_) rfl (by kernel_rfl) (by kernel_rfl) (by kernel_rfl) (fun _ _ _ h => h) (Or.inl ⟨by rfl, ?_⟩) hHeld ?_
  rotate_left
  · (intro w hS; go_simp; try with_reducible rfl)
  try simp only [Act.put, List.setIfInBounds_toArray, List.set_cons_zero, List.set_cons_succ]
  refine wpAnyH_take (i := 19) (oi := ({ dst := some 4, op := Op.assign (Operand.tmp 49), type := 4, pos := _, after := #[{ on := 18, ground := Ground.data }, { on := 16, ground := Ground.chain }, { on := 0, ground := Ground.phase }, { on := 1, ground := Ground.phase }, { on := 2, ground := Ground.phase }, { on := 3, ground := Ground.phase }, { on := 4, ground := Ground.phase }, { on := 5, ground := Ground.phase }, { on := 6, ground := Ground.phase }, { on := 7, ground := Ground.phase }, { on := 8, ground := Ground.phase }, { on := 9, ground := Ground.phase }, { on := 10, ground := Ground.phase }, { on := 11, ground := Ground.phase }, { on := 12, ground := Ground.phase }, { on := 13, ground := Ground.phase }, { on := 14, ground := Ground.phase }, { on := 15, ground := Ground.phase }, { on := 16, ground := Ground.phase }, { on := 17, ground := Ground.phase }, { on := 18, ground := Ground.phase }], guard := none } : Oper)) (v := ?_) rfl (by kernel_rfl) (by kernel_rfl) (by kernel_rfl) (fun _ _ _ h => h) (Or.inl ⟨by rfl, ?_⟩) hHeld ?_
  rotate_left
  · (intro w hS; go_simp; try with_reducible rfl)
  try simp only [Act.put, List.setIfInBounds_toArray, List.set_cons_zero, List.set_cons_succ]
  refine wpAnyH_done (by kernel_rfl) ?_ _
  go_wp2
  go_ret
  exact ⟨rfl, B4.trans (hHeld.mono B4.size)⟩

theorem sides_walk (g p v t c : Int) (ps : List UInt8) (hp : ps.length = 48) (w : World) (tab : Tab w) :
    Calls Tryd.prog 8 #[.agg (hdrV g p v t c), .agg (payV ps)] w fun e w' => e = .returned (.bool true) ∧ Below w.heap.size w w' := by
  cases hr : rightB false 0 p v t c with
  | true => exact sides_right g p v t c ps hp w tab hr
  | false => exact sides_wrong g p v t c ps hp w tab hr
end Go.Proofs.YtpifmljbaogcbaaDoor
