/- Proved here: what cell.Parse answers where the header is taken, and all of its answers at one glance. Conditions: as each theorem states them. -/
import Derived.Test.YtpifmljbaogcbaaDoorCParse
namespace Go.Proofs.YtpifmljbaogcbaaDoor
set_option linter.unusedSimpArgs false
set_option linter.unusedVariables false
open Go.RowKit
open H (Tab numN dG dP dV dT dC unpack_four)

set_option maxHeartbeats 4000000 in
theorem parse_yes (nni : Bool) (r p d : Nat) (c : Bool) (b off cap : Nat) (x0 x1 x2 x3 x4 y0 y1 y2 y3 : UInt8) (ps : List UInt8) (hl : ps.length = 48) (w : World) {n : Nat} (hI : IsB n w (some ⟨b, off, none⟩) 53 ([x0, x1, x2, x3, x4] ++ ps)) (hn : n ≤ w.heap.size) (hcap : 53 ≤ cap) (hbr : b ≠ r) (hr2 : 2 ≤ r)
    (tab : Tab w) (hR : RC w r p d c) (hp : p < 1000000) (hd : d < 1000000) (hy : (res c [x0, x1, x2, x3, x4]).out [x0, x1, x2, x3, x4] = [y0, y1, y2, y3]) (hok : (res c [x0, x1, x2, x3, x4]).ok = true)
    (G P V T C : Int) (hG : dG nni (numN y0 y1 y2 y3) = G) (hP : dP nni (numN y0 y1 y2 y3) = P) (hV : dV (numN y0 y1 y2 y3) = V) (hT : dT (numN y0 y1 y2 y3) = T) (hC : dC (numN y0 y1 y2 y3) = C) :
    Calls Tryd.prog 20 #[.slice (some ⟨b, off, none⟩) 53 cap, .pointer (some ⟨r, 0, none⟩), .bool nni] w fun e w' => e = .returned (.tuple #[.agg (cellV G P V T C ps), .int .i64 0]) ∧
      RC w' r (p + (res c [x0, x1, x2, x3, x4]).rep) (d + (res c [x0, x1, x2, x3, x4]).drop) (res c [x0, x1, x2, x3, x4]).careful ∧ But r w.heap.size w w' := by
  have A0 : Below w.heap.size w (w.alloc (.cells (cellV 0 0 0 0 0 (zer 48)) 27)) := (Below.refl _ w).alloc (Nat.le_refl _) _
  have K0 := bk_new w (cellV 0 0 0 0 0 (zer 48)) 27
  have A1 := A0.alloc (o := .cells #[.int .u8 0, .int .u8 0, .int .u8 0, .int .u8 0, .int .u8 0] 66) A0.size
  have K1 := K0.alloc (.cells #[.int .u8 0, .int .u8 0, .int .u8 0, .int .u8 0, .int .u8 0] 66)
  have F1 := bk_new (w.alloc (.cells (cellV 0 0 0 0 0 (zer 48)) 27)) #[.int .u8 0, .int .u8 0, .int .u8 0, .int .u8 0, .int .u8 0] 66
  rw [World.size_alloc] at F1
  obtain ⟨w2, hcp, F2, b2, but2, z2⟩ := run_cp ((w.alloc (.cells (cellV 0 0 0 0 0 (zer 48)) 27)).alloc (.cells #[.int .u8 0, .int .u8 0, .int .u8 0, .int .u8 0, .int .u8 0] 66)) 3 (w.heap.size + 1) 0 5 5 _ _ F1 (some ⟨b, off, none⟩) 53 cap _ (hI.below A1 hn) (by decide) (by decide) (by decide)
  rw [show List.take 5 ([x0, x1, x2, x3, x4] ++ ps) = [x0, x1, x2, x3, x4] from rfl, laidIn_all _ _ rfl] at F2
  have B2 : Below w.heap.size w w2 := A1.trans (b2 _ (by omega))
  have K2 := K1.but but2 K1.lt (by omega)
  have I2 := hI.below B2 hn
  have T2 := tab.below B2 tab.1
  obtain ⟨s0, s1, s2, s3, s4⟩ := F2.five
  have hrl := hR.lt
  have R2 := hR.below B2 hrl
  have HO : Hid ((res c [x0, x1, x2, x3, x4]).ok = true) := hok
  have HY : Hid ((res c [x0, x1, x2, x3, x4]).out [x0, x1, x2, x3, x4] = [y0, y1, y2, y3]) := hy
  have HG : Hid (dG nni (numN y0 y1 y2 y3) = G) := hG
  have HP : Hid (dP nni (numN y0 y1 y2 y3) = P) := hP
  have HV : Hid (dV (numN y0 y1 y2 y3) = V) := hV
  have HT : Hid (dT (numN y0 y1 y2 y3) = T) := hT
  have HC : Hid (dC (numN y0 y1 y2 y3) = C) := hC
  have HL : Hid (ps.length = 48) := hl
  have wn : n ≤ w2.heap.size := Nat.le_trans hn B2.size
  clear A0 A1 K0 K1 F1 F2 b2 but2 hI hn hR hok hy hG hP hV hT hC tab hl
  go_enter Tryd.func20, Tryd.ntmps20
  go_wp2_with (first | (with_reducible show wpList _ _ _ (Oper.mk _ (Op.alloc 27) _ _ _ _ :: _) _ _; refine wpList_al rfl rfl zero27 ?_; (try simp only [Act.put, List.setIfInBounds_toArray, List.set_cons_zero, List.set_cons_succ, World.size_alloc])) | (at_builtin; refine wpList_cp hcp _ _ rfl rfl rfl rfl rfl ?_))
  refine (take_calls r p d c x0 x1 x2 x3 x4 _ R2 hp hd).mono ?_
  rintro e w3 ⟨v0, v1, v2, v3, hv, rfl, R3, b3⟩
  rw [HY.out] at hv
  simp only [List.cons.injEq, and_true] at hv
  obtain ⟨rfl, rfl, rfl, rfl⟩ := hv
  rw [HO.out]
  have K3 := K2.but b3 K2.lt (by omega)
  have I3 := I2.but b3 wn (fun ad e => by cases e; exact hbr)
  have T3 : Tab w3 := T2.below (b3.below (m := 2) T2.1 hr2) (Nat.le_refl _)
  have B3 := (But.of (r := r) B2).trans (b3.mono B2.size)
  have z3 : w.heap.size < w3.heap.size := K3.lt
  have wn3 : n ≤ w3.heap.size := Nat.le_trans wn b3.size
  have J4 : IsB (w3.heap.size + 1) (w3.alloc (.cells #[.int .u8 (y0.toNat : Int), .int .u8 (y1.toNat : Int), .int .u8 (y2.toNat : Int), .int .u8 (y3.toNat : Int)] 65)) (some ⟨w3.heap.size, 0, none⟩) 4 [y0, y1, y2, y3] := isB_new w3 [y0, y1, y2, y3] 65 (0, 0)
  have b4 := (Below.refl w3.heap.size w3).alloc (Nat.le_refl _) (.cells #[.int .u8 (y0.toNat : Int), .int .u8 (y1.toNat : Int), .int .u8 (y2.toNat : Int), .int .u8 (y3.toNat : Int)] 65)
  clear s0 s1 s2 s3 s4 K2 B2 b3 hcp R2 I2 T2
  go_wp2_with fail
  refine (unpack_four nni _ _ y0 y1 y2 y3 _ J4 (by simp) (T3.below b4 T3.1)).mono ?_
  rintro e w5 ⟨rfl, b5⟩
  rw [HG.out, HP.out, HV.out, HT.out, HC.out]
  have b5' : Below w3.heap.size w3 w5 := b4.trans (b5.mono (by simp))
  have b6 : Below w3.heap.size w3 ((w5.alloc (.cells #[.int .i64 G, .int .i64 P, .int .i64 V, .int .i64 T, .int .i64 C] 23)).alloc (.cells (cellV G P V T C (zer 48)) 27)).drew := ((b5'.alloc b5'.size _).alloc (by have := b5'.size; simp; omega) _).drew
  have F6 := (bk_new (w5.alloc (.cells #[.int .i64 G, .int .i64 P, .int .i64 V, .int .i64 T, .int .i64 C] 23)) (cellV G P V T C (zer 48)) 27).drew
  rw [World.size_alloc] at F6
  have z5 := b5'.size
  have J6 := (I3.below b6 wn3).drop5
  rw [HL.out] at J6
  obtain ⟨w7, hcp7, F7, b7, but7, z7⟩ := run_cp _ 3 (w5.heap.size + 1) 5 48 48 _ _ F6 (some ⟨b, off + 5, none⟩) 48 (cap - 5) _ J6 (by decide) (by decide) (by rw [cellV_size]; decide)
  rw [List.take_of_length_le (by have := HL.out; omega), laidIn_cell G P V T C (zer 48) ps (by rw [HL.out]; rfl)] at F7
  have K7 := K3.below (b6.trans (b7 w3.heap.size (by omega))) z3
  have R7 : RC w7 r _ _ _ := R3.below (b6.trans (b7 w3.heap.size (by omega))) (BK.lt R3)
  have B7 : But r w.heap.size w w7 := B3.trans (But.of ((b6.trans (b7 w3.heap.size (by omega))).mono (by omega)))
  have hc5 : ¬ (cap = 5) := by omega
  have hn7 : w5.heap.size + 1 ≠ w.heap.size := by omega
  clear K3 R3 B3 I3 J6 F6 b6 b7 but7 b5' b5 b4 J4 T3
  go_wp2_with (first | (with_reducible show wpList _ _ _ (Oper.mk _ (Op.build 27 _) _ _ _ _ :: _) _ _; refine wpList_bldh rfl rfl rfl ?_; (try simp only [Act.put, List.setIfInBounds_toArray, List.set_cons_zero, List.set_cons_succ, World.size_alloc])) | (with_reducible show wpList _ _ _ (Oper.mk _ (Op.alloc 27) _ _ _ _ :: Oper.mk _ (Op.store 27 _ _) _ _ _ _ :: _) _ _; refine wpList_def rfl rfl rfl rfl rfl zero27 (by rw [size27, cellV_size]; (try simp only [Option.some.injEq, zer, List.length_replicate]) <;> first | rfl | (have := HL.out; omega) | (have := HM.out; omega)) (by first | rfl | (simp only [cellV_size]; done) | (rw [cellV_size, cellV_size]; (try simp only [zer, List.length_replicate]) <;> first | rfl | (have := HL.out; omega) | (have := HM.out; omega) | (have := HL.out; have := HM.out; omega))) (cellV_one _ _ _ _ _ _) rfl ?_; (try simp only [Act.put, List.setIfInBounds_toArray, List.set_cons_zero, List.set_cons_succ, World.size_alloc])))
  refine wp_region_held_drew (S := (fun _ => True)) (by kernel_rfl) trivial (fun hHeld => ?_)
  refine wpAnyH_take (i := 0) (oi := ({ dst := some 46, op := Op.fieldAddr 27 (Operand.tmp 13) 1, type := 0, pos := _, after := #[], guard := none } : Oper)) (v := ?_) rfl (by kernel_rfl) (by kernel_rfl) (by kernel_rfl) (fun _ _ _ h => h) (Or.inl ⟨by rfl, ?_⟩) hHeld ?_
  rotate_left
  · (intro w hS; go_simp; try with_reducible rfl)
  try simp only [Act.put, List.setIfInBounds_toArray, List.set_cons_zero, List.set_cons_succ]
  refine wpAnyH_take (i := 1) (oi := ({ dst := some 47, op := Op.slice 24 (Operand.tmp 46) none none none, type := 28, pos := _, after := #[{ on := 0, ground := Ground.data }], guard := none } : Oper)) (v := ?_) rfl (by kernel_rfl) (by kernel_rfl) (by kernel_rfl) (fun _ _ _ h => h) (Or.inl ⟨by rfl, ?_⟩) hHeld ?_
  rotate_left
  · (intro w hS; go_simp; try with_reducible rfl)
  try simp only [Act.put, List.setIfInBounds_toArray, List.set_cons_zero, List.set_cons_succ]
  refine wpAnyH_take (i := 2) (oi := ({ dst := some 48, op := Op.move (Operand.tmp 0), type := 28, pos := _, after := #[], guard := none } : Oper)) (v := ?_) rfl (by kernel_rfl) (by kernel_rfl) (by kernel_rfl) (fun _ _ _ h => h) (Or.inl ⟨by rfl, ?_⟩) hHeld ?_
  rotate_left
  · (intro w hS; go_simp; try with_reducible rfl)
  try simp only [Act.put, List.setIfInBounds_toArray, List.set_cons_zero, List.set_cons_succ]
  refine wpAnyH_take (i := 3) (oi := ({ dst := some 49, op := Op.slice 28 (Operand.tmp 48) (some (Operand.const (Value.int IntKind.i64 5))) none none, type := 28, pos := _, after := #[{ on := 2, ground := Ground.data }], guard := none } : Oper)) (v := ?_) rfl (by kernel_rfl) (by kernel_rfl) (by kernel_rfl) (fun _ _ _ h => h) (Or.inl ⟨by rfl, ?_⟩) hHeld ?_
  rotate_left
  · (intro w hS; go_simp; try with_reducible rfl)
  try simp only [Act.put, List.setIfInBounds_toArray, List.set_cons_zero, List.set_cons_succ]
  refine wpAnyH_ready (rs := [4]) (by kernel_rfl) (by simp) ?_
  refine AllReadyH.cons (o := ({ dst := some 50, op := Op.call { callee := Callee.builtin Builtin.copy, args := #[Operand.tmp 47, Operand.tmp 49], argTypes := #[28, 28] }, type := 3, pos := _, after := #[{ on := 1, ground := Ground.data }, { on := 3, ground := Ground.data }], guard := none } : Oper)) rfl (fun K hK => ?_) AllReadyH.nil
  refine step_cp hcp7 _ _ rfl rfl rfl rfl rfl ?_
  refine hK.out _ _ trivial (fun hHeld => ?_)
  clear hK K
  try simp only [Act.put, List.setIfInBounds_toArray, List.set_cons_zero, List.set_cons_succ]
  refine wpAnyH_done (by kernel_rfl) ?_ _
  clear hHeld hcp7
  go_wp2_with (first | (with_reducible show wpList _ _ _ (Oper.mk _ (Op.load 27 _) _ _ _ _ :: _) _ _; refine wpList_ld rfl rfl rfl (run_ld27 _ _ _ _ _ _ _ _ _ (by assumption) (by first | exact HL.out | exact HM.out)) ?_; (try simp only [Act.put, List.setIfInBounds_toArray, List.set_cons_zero, List.set_cons_succ, World.size_alloc])) | ((with_reducible show wpList _ _ _ (Oper.mk _ (Op.store 27 _ _) _ _ _ _ :: _) _ _; refine wpList_st rfl rfl rfl rfl (by assumption) (by rw [size27, cellV_size]; (try simp only [Option.some.injEq, zer, List.length_replicate]) <;> first | rfl | (have := HL.out; omega) | (have := HM.out; omega)) (by first | rfl | (simp only [cellV_size]; done) | (rw [cellV_size, cellV_size]; (try simp only [zer, List.length_replicate]) <;> first | rfl | (have := HL.out; omega) | (have := HM.out; omega) | (have := HL.out; have := HM.out; omega))) (cellV_one _ _ _ _ _ _) ?_); intro w8 K8 b8 but8 z8))
  refine bodyPost_ret (v := .tuple #[.agg (cellV G P V T C ps), .int .i64 0]) (results_cell_tmp_row Tryd.results20 _ _ _ _ _ _ _ _ rfl rfl K8 Tryd.underlying27 rfl (by rw [size27, cellV_size, HL.out])) rfl ⟨rfl, ?_, ?_⟩
  · exact BK.but R7 but8 (BK.lt R7) (by omega)
  · exact B7.trans (But.of (b8 _ (Nat.le_refl _)))
end Go.Proofs.YtpifmljbaogcbaaDoor
