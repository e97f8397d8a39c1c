/- Proved here: the walk of CellEmpty. Conditions: as each theorem states them. -/
import Derived.Test.YtpifmljbaogcbaaDoorCBase
namespace Go.Proofs.YtpifmljbaogcbaaDoor
set_option linter.unusedSimpArgs false
set_option linter.unusedVariables false
open Go.RowKit
open H (Tab)

set_option maxRecDepth 20000 in
set_option maxHeartbeats 4000000 in
theorem empty_walk_t (g p v t c : Int) (ps qs : List UInt8) (hp : ps.length = 48) (hq : qs.length = 48) (w : World) (tab : Tab w) (hE : emptyB p v t c = true) :
    Calls Tryd.prog 7 #[.agg (hdrV g p v t c), .agg (payV ps), .agg (payV qs)] w fun e w' => e = .returned (.bool true) ∧ Below w.heap.size w w' := by
  have HP : Hid (ps.length = 48) := hp
  have HQ : Hid (qs.length = 48) := hq
  have HL : Hid ((zer 48).length = 48) := rfl
  obtain ⟨rfl, rfl⟩ := emptyB_of hE
  have HE : Hid (emptyB 0 0 t c = true) := hE
  have K0 := ((bk_new w (hdrV g 0 0 t c) 23).alloc (.cells (payV ps) 24)).alloc (.cells (payV qs) 24)
  have P0 := (bk_new (w.alloc (.cells (hdrV g 0 0 t c) 23)) (payV ps) 24).alloc (.cells (payV qs) 24)
  have Q0 := bk_new ((w.alloc (.cells (hdrV g 0 0 t c) 23)).alloc (.cells (payV ps) 24)) (payV qs) 24
  have A0 : Below w.heap.size w (((w.alloc (.cells (hdrV g 0 0 t c) 23)).alloc (.cells (payV ps) 24)).alloc (.cells (payV qs) 24)) := (((Below.refl _ w).alloc (Nat.le_refl _) _).alloc (by simp) _).alloc (by simp; omega) _
  rw [World.size_alloc] at P0 Q0
  rw [World.size_alloc] at Q0
  clear hp hq hE
  go_enter Tryd.func7, Tryd.ntmps7
  go_wp2_with fail
  refine (awake_calls _ (tab.below A0 tab.1)).mono ?_
  rintro e w1 ⟨rfl, b1⟩
  have K1 := K0.below b1 K0.lt
  have P1 := P0.below b1 P0.lt
  have Q1 := Q0.below b1 Q0.lt
  have B1 := A0.trans (b1.mono A0.size)
  clear K0 P0 Q0 A0 b1
  go_wp2
  refine wp_region_held_drew (S := (fun w' => Below w1.heap.size w1 w')) (by kernel_rfl) (Below.refl _ w1).drew (fun hHeld => ?_)
  refine wpAnyH_take (i := 0) (oi := ({ dst := some 15, op := Op.load 23 (Operand.tmp 3), type := 23, pos := _, after := #[], guard := none } : Oper))  rfl (by kernel_rfl) (by kernel_rfl) (by kernel_rfl) (fun _ _ _ h => h) (yields_ld rfl rfl rfl (fun w hS => run_ld23 w _ _ _ _ _ _ _ (K1.below hS K1.lt))) hHeld ?_
  try simp only [Act.put, List.setIfInBounds_toArray, List.set_cons_zero, List.set_cons_succ]
  refine wpAnyH_take (i := 1) (oi := ({ dst := some 16, op := Op.load 24 (Operand.tmp 4), type := 24, pos := _, after := #[], guard := none } : Oper))  rfl (by kernel_rfl) (by kernel_rfl) (by kernel_rfl) (fun _ _ _ h => h) (yields_ld rfl rfl rfl (fun w hS => run_ld24 w _ _ _ (P1.below hS P1.lt) HP.out)) hHeld ?_
  try simp only [Act.put, List.setIfInBounds_toArray, List.set_cons_zero, List.set_cons_succ]
  refine wpAnyH_take (i := 2) (oi := ({ dst := some 17, op := Op.build 27 #[(0, Operand.tmp 15), (1, Operand.tmp 16)], type := 27, pos := _, after := #[{ on := 0, ground := Ground.data }, { on := 1, ground := Ground.data }], guard := none } : Oper))  rfl (by kernel_rfl) (by kernel_rfl) (by kernel_rfl) (fun _ _ _ h => h) (yields_bldf rfl HP.out rfl rfl rfl) hHeld ?_
  try simp only [Act.put, List.setIfInBounds_toArray, List.set_cons_zero, List.set_cons_succ]
  refine wpAnyH_take (i := 4) (oi := ({ dst := some 19, op := Op.load 23 (Operand.tmp 3), type := 23, pos := _, after := #[], guard := none } : Oper))  rfl (by kernel_rfl) (by kernel_rfl) (by kernel_rfl) (fun _ _ _ h => h) (yields_ld rfl rfl rfl (fun w hS => run_ld23 w _ _ _ _ _ _ _ (K1.below hS K1.lt))) hHeld ?_
  try simp only [Act.put, List.setIfInBounds_toArray, List.set_cons_zero, List.set_cons_succ]
  refine wpAnyH_take (i := 5) (oi := ({ dst := some 20, op := Op.load 24 (Operand.tmp 5), type := 24, pos := _, after := #[], guard := none } : Oper))  rfl (by kernel_rfl) (by kernel_rfl) (by kernel_rfl) (fun _ _ _ h => h) (yields_ld rfl rfl rfl (fun w hS => run_ld24 w _ _ _ (Q1.below hS Q1.lt) HQ.out)) hHeld ?_
  try simp only [Act.put, List.setIfInBounds_toArray, List.set_cons_zero, List.set_cons_succ]
  refine wpAnyH_take (i := 6) (oi := ({ dst := some 21, op := Op.build 27 #[(0, Operand.tmp 19), (1, Operand.tmp 20)], type := 27, pos := _, after := #[{ on := 4, ground := Ground.data }, { on := 5, ground := Ground.data }], guard := none } : Oper))  rfl (by kernel_rfl) (by kernel_rfl) (by kernel_rfl) (fun _ _ _ h => h) (yields_bldf rfl HQ.out rfl rfl rfl) hHeld ?_
  try simp only [Act.put, List.setIfInBounds_toArray, List.set_cons_zero, List.set_cons_succ]
  refine wpAnyH_ready (rs := [3]) (by kernel_rfl) (by simp) ?_
  refine AllReadyH.cons (o := ({ dst := some 18, op := Op.call { callee := Callee.value (Operand.func 17), args := #[Operand.tmp 17], argTypes := #[27] }, type := 4, pos := _, after := #[{ on := 2, ground := Ground.data }], guard := none } : Oper)) rfl (fun K hK => ?_) AllReadyH.nil
  refine step_call (empty_calls g 0 0 t c ps _) (enters_of Tryd.func17 (by kernel_rfl) rfl) _ _ rfl rfl rfl ?_
  rintro e w2 ⟨rfl, b2⟩
  rw [HE.out]
  refine ⟨_, rfl, hK.out _ _ (hHeld.trans (b2.mono hHeld.size)) (fun hHeld => ?_)⟩
  clear hK K
  try simp only [Act.put, List.setIfInBounds_toArray, List.set_cons_zero, List.set_cons_succ]
  refine wpAnyH_ready (rs := [7]) (by kernel_rfl) (by simp) ?_
  refine AllReadyH.cons (o := ({ dst := some 22, op := Op.call { callee := Callee.value (Operand.func 17), args := #[Operand.tmp 21], argTypes := #[27] }, type := 4, pos := _, after := #[{ on := 6, ground := Ground.data }, { on := 3, ground := Ground.chain }], guard := none } : Oper)) rfl (fun K hK => ?_) AllReadyH.nil
  refine step_call (empty_calls g 0 0 t c qs _) (enters_of Tryd.func17 (by kernel_rfl) rfl) _ _ rfl rfl rfl ?_
  rintro e w3 ⟨rfl, b3⟩
  rw [HE.out]
  refine ⟨_, rfl, hK.out _ _ (hHeld.trans (b3.mono hHeld.size)) (fun hHeld => ?_)⟩
  clear hK K
  try simp only [Act.put, List.setIfInBounds_toArray, List.set_cons_zero, List.set_cons_succ]
  refine wpAnyH_take (i := 8) (oi := ({ dst := some 7, op := Op.assign (Operand.tmp 18), type := 4, pos := _, after := #[{ on := 3, ground := Ground.data }, { on := 7, ground := Ground.chain }, { on := 0, ground := Ground.phase }, { on := 1, ground := Ground.phase }, { on := 2, ground := Ground.phase }, { on := 3, ground := Ground.phase }, { on := 4, ground := Ground.textOnly Departure.lateStores }, { on := 5, ground := Ground.textOnly Departure.lateStores }, { on := 6, ground := Ground.textOnly Departure.lateStores }, { on := 7, ground := Ground.textOnly Departure.lateStoresUnsure }], guard := none } : Oper)) (v := ?_) rfl (by kernel_rfl) (by kernel_rfl) (by kernel_rfl) (fun _ _ _ h => h) (Or.inl ⟨by rfl, ?_⟩) hHeld ?_
  rotate_left
  · (intro w hS; go_simp; try with_reducible rfl)
  try simp only [Act.put, List.setIfInBounds_toArray, List.set_cons_zero, List.set_cons_succ]
  refine wpAnyH_take (i := 9) (oi := ({ dst := some 8, op := Op.assign (Operand.tmp 22), type := 4, pos := _, after := #[{ on := 7, ground := Ground.data }, { on := 8, ground := Ground.chain }, { on := 0, ground := Ground.phase }, { on := 1, ground := Ground.phase }, { on := 2, ground := Ground.phase }, { on := 3, ground := Ground.phase }, { on := 4, ground := Ground.phase }, { on := 5, ground := Ground.phase }, { on := 6, ground := Ground.phase }, { on := 7, ground := Ground.phase }, { on := 8, ground := Ground.phase }], guard := none } : Oper)) (v := ?_) rfl (by kernel_rfl) (by kernel_rfl) (by kernel_rfl) (fun _ _ _ h => h) (Or.inl ⟨by rfl, ?_⟩) hHeld ?_
  rotate_left
  · (intro w hS; go_simp; try with_reducible rfl)
  try simp only [Act.put, List.setIfInBounds_toArray, List.set_cons_zero, List.set_cons_succ]
  refine wpAnyH_done (by kernel_rfl) ?_ _
  have K3 := K1.below hHeld K1.lt
  have B3 := B1.trans (hHeld.mono B1.size)
  clear hHeld b2 b3 K1 P1 Q1 B1
  go_wp2_with fail
  refine (parse_short false none 0 0 _ (by decide) _).mono ?_
  rintro e w4 ⟨rfl, b4⟩
  have b5 : Below w3.heap.size w3 (w4.alloc (.cells (cellV 0 0 0 0 0 (zer 48)) 27)) := b4.alloc b4.size _
  have K5 := K3.below b5 K3.lt
  have B5 := B3.trans (b5.mono B3.size)
  clear b4 b5 K3 B3
  obtain ⟨w6, hmk, o6, b6, z6⟩ := run_mkc (w4.alloc (.cells (cellV 0 0 0 0 0 (zer 48)) 27)) (w4.alloc (.cells (cellV 0 0 0 0 0 (zer 48)) 27)).heap.size 53 53 53 53 rfl rfl (by decide) (by decide) (Nat.le_refl _)
  have I6 := o6.isB.1
  rw [show List.replicate 53 (0 : UInt8) = [0, 0, 0, 0, 0] ++ List.replicate 48 0 from rfl] at I6
  simp only [World.size_alloc] at hmk I6
  have K6 := K5.below b6 K5.lt
  have B6 := B5.trans (b6.mono B5.size)
  clear o6 b6 z6 K5 B5
  go_wp2_with (first | (with_reducible show wpList _ _ _ (Oper.mk _ (Op.alloc 27) _ _ _ _ :: Oper.mk _ (Op.store 27 _ _) _ _ _ _ :: _) _ _; refine wpList_def rfl rfl rfl rfl rfl zero27 (by rw [size27, cellV_size]; (try simp only [Option.some.injEq, zer, List.length_replicate]) <;> first | rfl | (have := HL.out; omega) | (have := HM.out; omega)) (by first | rfl | (simp only [cellV_size]; done) | (rw [cellV_size, cellV_size]; (try simp only [zer, List.length_replicate]) <;> first | rfl | (have := HL.out; omega) | (have := HM.out; omega) | (have := HL.out; have := HM.out; omega))) (cellV_one _ _ _ _ _ _) rfl ?_; (try simp only [Act.put, List.setIfInBounds_toArray, List.set_cons_zero, List.set_cons_succ, World.size_alloc])) | fail)
  refine (parse_nil true _ _ _ _ _ _ _ _ _ _ I6 (Nat.le_refl _)).mono ?_
  rintro e w7 ⟨rfl, b7⟩
  have b8 : Below w6.heap.size w6 (w7.alloc (.cells (cellV 0 0 0 0 0 (zer 48)) 27)) := b7.alloc b7.size _
  have K8 := K6.below b8 K6.lt
  have B8 := B6.trans (b8.mono B6.size)
  clear b7 b8 K6 B6 hmk I6
  have k1 := K8.cell 1 _ rfl
  have k2 := K8.cell 2 _ rfl
  go_wp2_with (first | (with_reducible show wpList _ _ _ (Oper.mk _ (Op.alloc 27) _ _ _ _ :: Oper.mk _ (Op.store 27 _ _) _ _ _ _ :: _) _ _; refine wpList_def rfl rfl rfl rfl rfl zero27 (by rw [size27, cellV_size]; (try simp only [Option.some.injEq, zer, List.length_replicate]) <;> first | rfl | (have := HL.out; omega) | (have := HM.out; omega)) (by first | rfl | (simp only [cellV_size]; done) | (rw [cellV_size, cellV_size]; (try simp only [zer, List.length_replicate]) <;> first | rfl | (have := HL.out; omega) | (have := HM.out; omega) | (have := HL.out; have := HM.out; omega))) (cellV_one _ _ _ _ _ _) rfl ?_; (try simp only [Act.put, List.setIfInBounds_toArray, List.set_cons_zero, List.set_cons_succ, World.size_alloc])) | fail)
  go_ret
  exact ⟨rfl, B8⟩

set_option maxRecDepth 20000 in
set_option maxHeartbeats 4000000 in
theorem empty_walk_f (g p v t c : Int) (ps qs : List UInt8) (hp : ps.length = 48) (hq : qs.length = 48) (w : World) (tab : Tab w) (hE : emptyB p v t c = false) :
    Calls Tryd.prog 7 #[.agg (hdrV g p v t c), .agg (payV ps), .agg (payV qs)] w fun e w' => e = .returned (.bool true) ∧ Below w.heap.size w w' := by
  have HP : Hid (ps.length = 48) := hp
  have HQ : Hid (qs.length = 48) := hq
  have HL : Hid ((zer 48).length = 48) := rfl
  have HE : Hid (emptyB p v t c = false) := hE
  have K0 := ((bk_new w (hdrV g p v t c) 23).alloc (.cells (payV ps) 24)).alloc (.cells (payV qs) 24)
  have P0 := (bk_new (w.alloc (.cells (hdrV g p v t c) 23)) (payV ps) 24).alloc (.cells (payV qs) 24)
  have Q0 := bk_new ((w.alloc (.cells (hdrV g p v t c) 23)).alloc (.cells (payV ps) 24)) (payV qs) 24
  have A0 : Below w.heap.size w (((w.alloc (.cells (hdrV g p v t c) 23)).alloc (.cells (payV ps) 24)).alloc (.cells (payV qs) 24)) := (((Below.refl _ w).alloc (Nat.le_refl _) _).alloc (by simp) _).alloc (by simp; omega) _
  rw [World.size_alloc] at P0 Q0
  rw [World.size_alloc] at Q0
  clear hp hq hE
  go_enter Tryd.func7, Tryd.ntmps7
  go_wp2_with fail
  refine (awake_calls _ (tab.below A0 tab.1)).mono ?_
  rintro e w1 ⟨rfl, b1⟩
  have K1 := K0.below b1 K0.lt
  have P1 := P0.below b1 P0.lt
  have Q1 := Q0.below b1 Q0.lt
  have B1 := A0.trans (b1.mono A0.size)
  clear K0 P0 Q0 A0 b1
  go_wp2
  refine wp_region_held_drew (S := (fun w' => Below w1.heap.size w1 w')) (by kernel_rfl) (Below.refl _ w1).drew (fun hHeld => ?_)
  refine wpAnyH_take (i := 0) (oi := ({ dst := some 15, op := Op.load 23 (Operand.tmp 3), type := 23, pos := _, after := #[], guard := none } : Oper))  rfl (by kernel_rfl) (by kernel_rfl) (by kernel_rfl) (fun _ _ _ h => h) (yields_ld rfl rfl rfl (fun w hS => run_ld23 w _ _ _ _ _ _ _ (K1.below hS K1.lt))) hHeld ?_
  try simp only [Act.put, List.setIfInBounds_toArray, List.set_cons_zero, List.set_cons_succ]
  refine wpAnyH_take (i := 1) (oi := ({ dst := some 16, op := Op.load 24 (Operand.tmp 4), type := 24, pos := _, after := #[], guard := none } : Oper))  rfl (by kernel_rfl) (by kernel_rfl) (by kernel_rfl) (fun _ _ _ h => h) (yields_ld rfl rfl rfl (fun w hS => run_ld24 w _ _ _ (P1.below hS P1.lt) HP.out)) hHeld ?_
  try simp only [Act.put, List.setIfInBounds_toArray, List.set_cons_zero, List.set_cons_succ]
  refine wpAnyH_take (i := 2) (oi := ({ dst := some 17, op := Op.build 27 #[(0, Operand.tmp 15), (1, Operand.tmp 16)], type := 27, pos := _, after := #[{ on := 0, ground := Ground.data }, { on := 1, ground := Ground.data }], guard := none } : Oper))  rfl (by kernel_rfl) (by kernel_rfl) (by kernel_rfl) (fun _ _ _ h => h) (yields_bldf rfl HP.out rfl rfl rfl) hHeld ?_
  try simp only [Act.put, List.setIfInBounds_toArray, List.set_cons_zero, List.set_cons_succ]
  refine wpAnyH_take (i := 4) (oi := ({ dst := some 19, op := Op.load 23 (Operand.tmp 3), type := 23, pos := _, after := #[], guard := none } : Oper))  rfl (by kernel_rfl) (by kernel_rfl) (by kernel_rfl) (fun _ _ _ h => h) (yields_ld rfl rfl rfl (fun w hS => run_ld23 w _ _ _ _ _ _ _ (K1.below hS K1.lt))) hHeld ?_
  try simp only [Act.put, List.setIfInBounds_toArray, List.set_cons_zero, List.set_cons_succ]
  refine wpAnyH_take (i := 5) (oi := ({ dst := some 20, op := Op.load 24 (Operand.tmp 5), type := 24, pos := _, after := #[], guard := none } : Oper))  rfl (by kernel_rfl) (by kernel_rfl) (by kernel_rfl) (fun _ _ _ h => h) (yields_ld rfl rfl rfl (fun w hS => run_ld24 w _ _ _ (Q1.below hS Q1.lt) HQ.out)) hHeld ?_
  try simp only [Act.put, List.setIfInBounds_toArray, List.set_cons_zero, List.set_cons_succ]
  refine wpAnyH_take (i := 6) (oi := ({ dst := some 21, op := Op.build 27 #[(0, Operand.tmp 19), (1, Operand.tmp 20)], type := 27, pos := _, after := #[{ on := 4, ground := Ground.data }, { on := 5, ground := Ground.data }], guard := none } : Oper))  rfl (by kernel_rfl) (by kernel_rfl) (by kernel_rfl) (fun _ _ _ h => h) (yields_bldf rfl HQ.out rfl rfl rfl) hHeld ?_
  try simp only [Act.put, List.setIfInBounds_toArray, List.set_cons_zero, List.set_cons_succ]
  refine wpAnyH_ready (rs := [3]) (by kernel_rfl) (by simp) ?_
  refine AllReadyH.cons (o := ({ dst := some 18, op := Op.call { callee := Callee.value (Operand.func 17), args := #[Operand.tmp 17], argTypes := #[27] }, type := 4, pos := _, after := #[{ on := 2, ground := Ground.data }], guard := none } : Oper)) rfl (fun K hK => ?_) AllReadyH.nil
  refine step_call (empty_calls g p v t c ps _) (enters_of Tryd.func17 (by kernel_rfl) rfl) _ _ rfl rfl rfl ?_
  rintro e w2 ⟨rfl, b2⟩
  rw [HE.out]
  refine ⟨_, rfl, hK.out _ _ (hHeld.trans (b2.mono hHeld.size)) (fun hHeld => ?_)⟩
  clear hK K
  try simp only [Act.put, List.setIfInBounds_toArray, List.set_cons_zero, List.set_cons_succ]
  refine wpAnyH_ready (rs := [7]) (by kernel_rfl) (by simp) ?_
  refine AllReadyH.cons (o := ({ dst := some 22, op := Op.call { callee := Callee.value (Operand.func 17), args := #[Operand.tmp 21], argTypes := #[27] }, type := 4, pos := _, after := #[{ on := 6, ground := Ground.data }, { on := 3, ground := Ground.chain }], guard := none } : Oper)) rfl (fun K hK => ?_) AllReadyH.nil
  refine step_call (empty_calls g p v t c qs _) (enters_of Tryd.func17 (by kernel_rfl) rfl) _ _ rfl rfl rfl ?_
  rintro e w3 ⟨rfl, b3⟩
  rw [HE.out]
  refine ⟨_, rfl, hK.out _ _ (hHeld.trans (b3.mono hHeld.size)) (fun hHeld => ?_)⟩
  clear hK K
  try simp only [Act.put, List.setIfInBounds_toArray, List.set_cons_zero, List.set_cons_succ]
  refine wpAnyH_take (i := 8) (oi := ({ dst := some 7, op := Op.assign (Operand.tmp 18), type := 4, pos := _, after := #[{ on := 3, ground := Ground.data }, { on := 7, ground := Ground.chain }, { on := 0, ground := Ground.phase }, { on := 1, ground := Ground.phase }, { on := 2, ground := Ground.phase }, { on := 3, ground := Ground.phase }, { on := 4, ground := Ground.textOnly Departure.lateStores }, { on := 5, ground := Ground.textOnly Departure.lateStores }, { on := 6, ground := Ground.textOnly Departure.lateStores }, { on := 7, ground := Ground.textOnly Departure.lateStoresUnsure }], guard := none } : Oper)) (v := ?_) rfl (by kernel_rfl) (by kernel_rfl) (by kernel_rfl) (fun _ _ _ h => h) (Or.inl ⟨by rfl, ?_⟩) hHeld ?_
  rotate_left
  · (intro w hS; go_simp; try with_reducible rfl)
  try simp only [Act.put, List.setIfInBounds_toArray, List.set_cons_zero, List.set_cons_succ]
  refine wpAnyH_take (i := 9) (oi := ({ dst := some 8, op := Op.assign (Operand.tmp 22), type := 4, pos := _, after := #[{ on := 7, ground := Ground.data }, { on := 8, ground := Ground.chain }, { on := 0, ground := Ground.phase }, { on := 1, ground := Ground.phase }, { on := 2, ground := Ground.phase }, { on := 3, ground := Ground.phase }, { on := 4, ground := Ground.phase }, { on := 5, ground := Ground.phase }, { on := 6, ground := Ground.phase }, { on := 7, ground := Ground.phase }, { on := 8, ground := Ground.phase }], guard := none } : Oper)) (v := ?_) rfl (by kernel_rfl) (by kernel_rfl) (by kernel_rfl) (fun _ _ _ h => h) (Or.inl ⟨by rfl, ?_⟩) hHeld ?_
  rotate_left
  · (intro w hS; go_simp; try with_reducible rfl)
  try simp only [Act.put, List.setIfInBounds_toArray, List.set_cons_zero, List.set_cons_succ]
  refine wpAnyH_done (by kernel_rfl) ?_ _
  have K3 := K1.below hHeld K1.lt
  have B3 := B1.trans (hHeld.mono B1.size)
  clear hHeld b2 b3 K1 P1 Q1 B1
  go_wp2_with fail
  refine (parse_short false none 0 0 _ (by decide) _).mono ?_
  rintro e w4 ⟨rfl, b4⟩
  have b5 : Below w3.heap.size w3 (w4.alloc (.cells (cellV 0 0 0 0 0 (zer 48)) 27)) := b4.alloc b4.size _
  have K5 := K3.below b5 K3.lt
  have B5 := B3.trans (b5.mono B3.size)
  clear b4 b5 K3 B3
  obtain ⟨w6, hmk, o6, b6, z6⟩ := run_mkc (w4.alloc (.cells (cellV 0 0 0 0 0 (zer 48)) 27)) (w4.alloc (.cells (cellV 0 0 0 0 0 (zer 48)) 27)).heap.size 53 53 53 53 rfl rfl (by decide) (by decide) (Nat.le_refl _)
  have I6 := o6.isB.1
  rw [show List.replicate 53 (0 : UInt8) = [0, 0, 0, 0, 0] ++ List.replicate 48 0 from rfl] at I6
  simp only [World.size_alloc] at hmk I6
  have K6 := K5.below b6 K5.lt
  have B6 := B5.trans (b6.mono B5.size)
  clear o6 b6 z6 K5 B5
  go_wp2_with (first | (with_reducible show wpList _ _ _ (Oper.mk _ (Op.alloc 27) _ _ _ _ :: Oper.mk _ (Op.store 27 _ _) _ _ _ _ :: _) _ _; refine wpList_def rfl rfl rfl rfl rfl zero27 (by rw [size27, cellV_size]; (try simp only [Option.some.injEq, zer, List.length_replicate]) <;> first | rfl | (have := HL.out; omega) | (have := HM.out; omega)) (by first | rfl | (simp only [cellV_size]; done) | (rw [cellV_size, cellV_size]; (try simp only [zer, List.length_replicate]) <;> first | rfl | (have := HL.out; omega) | (have := HM.out; omega) | (have := HL.out; have := HM.out; omega))) (cellV_one _ _ _ _ _ _) rfl ?_; (try simp only [Act.put, List.setIfInBounds_toArray, List.set_cons_zero, List.set_cons_succ, World.size_alloc])) | fail)
  refine (parse_nil true _ _ _ _ _ _ _ _ _ _ I6 (Nat.le_refl _)).mono ?_
  rintro e w7 ⟨rfl, b7⟩
  have b8 : Below w6.heap.size w6 (w7.alloc (.cells (cellV 0 0 0 0 0 (zer 48)) 27)) := b7.alloc b7.size _
  have K8 := K6.below b8 K6.lt
  have B8 := B6.trans (b8.mono B6.size)
  clear b7 b8 K6 B6 hmk I6
  have k1 := K8.cell 1 _ rfl
  have k2 := K8.cell 2 _ rfl
  go_wp2_with (first | (with_reducible show wpList _ _ _ (Oper.mk _ (Op.alloc 27) _ _ _ _ :: Oper.mk _ (Op.store 27 _ _) _ _ _ _ :: _) _ _; refine wpList_def rfl rfl rfl rfl rfl zero27 (by rw [size27, cellV_size]; (try simp only [Option.some.injEq, zer, List.length_replicate]) <;> first | rfl | (have := HL.out; omega) | (have := HM.out; omega)) (by first | rfl | (simp only [cellV_size]; done) | (rw [cellV_size, cellV_size]; (try simp only [zer, List.length_replicate]) <;> first | rfl | (have := HL.out; omega) | (have := HM.out; omega) | (have := HL.out; have := HM.out; omega))) (cellV_one _ _ _ _ _ _) rfl ?_; (try simp only [Act.put, List.setIfInBounds_toArray, List.set_cons_zero, List.set_cons_succ, World.size_alloc])) | fail)
  go_ret
  exact ⟨rfl, B8⟩

theorem empty_walk (g p v t c : Int) (ps qs : List UInt8) (hp : ps.length = 48) (hq : qs.length = 48) (w : World) (tab : Tab w) :
    Calls Tryd.prog 7 #[.agg (hdrV g p v t c), .agg (payV ps), .agg (payV qs)] w fun e w' => e = .returned (.bool true) ∧ Below w.heap.size w w' := by
  cases hE : emptyB p v t c with
  | true => exact empty_walk_t g p v t c ps qs hp hq w tab hE
  | false => exact empty_walk_f g p v t c ps qs hp hq w tab hE
end Go.Proofs.YtpifmljbaogcbaaDoor
