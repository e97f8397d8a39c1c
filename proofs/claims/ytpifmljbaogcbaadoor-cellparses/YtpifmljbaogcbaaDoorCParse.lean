/- Proved here: what cell.Parse answers. Conditions: as each theorem states them. -/
import Derived.Test.YtpifmljbaogcbaaDoorWholeC
import Derived.Test.YtpifmljbaogcbaaDoorHUnpack
import Derived.Test.YtpifmljbaogcbaaDoorTake
import Derived.Test.YtpifmljbaogcbaaDoorMore
namespace Go.Proofs.YtpifmljbaogcbaaDoor
set_option linter.unusedSimpArgs false
set_option linter.unusedVariables false
open Go.RowKit
open H (Tab numN dG dP dV dT dC unpack_four)

set_option maxHeartbeats 1000000 in
theorem parse_short (nni : Bool) (a : Option Addr) (len cap : Nat) (r : Value) (hl : len < 53) (w : World) :
    Calls Tryd.prog 20 #[.slice a len cap, r, .bool nni] w fun e w' => e = .returned (.tuple #[.agg (cellV 0 0 0 0 0 (zer 48)), .int .i64 2]) ∧ Below w.heap.size w w' := by
  have A0 : Below w.heap.size w (w.alloc (.cells (cellV 0 0 0 0 0 (zer 48)) 27)) := (Below.refl _ w).alloc (Nat.le_refl _) _
  have K0 := bk_new w (cellV 0 0 0 0 0 (zer 48)) 27
  go_enter Tryd.func20, Tryd.ntmps20
  go_wp2_with (first | (with_reducible show wpList _ _ _ (Oper.mk _ (Op.alloc 27) _ _ _ _ :: _) _ _; refine wpList_al rfl rfl zero27 ?_; (try simp only [Act.put, List.setIfInBounds_toArray, List.set_cons_zero, List.set_cons_succ, World.size_alloc])) | (with_reducible show wpList _ _ _ (Oper.mk _ (Op.build 27 _) _ _ _ _ :: _) _ _; refine wpList_bldz rfl rfl ?_; (try simp only [Act.put, List.setIfInBounds_toArray, List.set_cons_zero, List.set_cons_succ, World.size_alloc])) | ((with_reducible show wpList _ _ _ (Oper.mk _ (Op.store 27 _ _) _ _ _ _ :: _) _ _; refine wpList_st rfl rfl rfl rfl (by assumption) (by rw [size27, cellV_size]; (try simp only [Option.some.injEq, zer, List.length_replicate]) <;> first | rfl | (have := HL.out; omega) | (have := HM.out; omega)) (by first | rfl | (simp only [cellV_size]; done) | (rw [cellV_size, cellV_size]; (try simp only [zer, List.length_replicate]) <;> first | rfl | (have := HL.out; omega) | (have := HM.out; omega) | (have := HL.out; have := HM.out; omega))) (cellV_one _ _ _ _ _ _) ?_); intro w4 K4 b4 but4 z4))
  refine bodyPost_ret (v := .tuple #[.agg (cellV 0 0 0 0 0 (zer 48)), .int .i64 2]) (results_cell_tmp_row Tryd.results20 _ _ _ _ _ _ _ _ rfl rfl K4 Tryd.underlying27 rfl (by rw [size27, cellV_size]; rfl)) rfl ⟨rfl, ?_⟩
  exact A0.trans (b4 _ (Nat.le_refl _))

set_option maxHeartbeats 1000000 in
theorem parse_long (nni : Bool) (a : Option Addr) (len cap : Nat) (r : Value) (hl : 53 < len) (w : World) :
    Calls Tryd.prog 20 #[.slice a len cap, r, .bool nni] w fun e w' => e = .returned (.tuple #[.agg (cellV 0 0 0 0 0 (zer 48)), .int .i64 3]) ∧ Below w.heap.size w w' := by
  have A0 : Below w.heap.size w (w.alloc (.cells (cellV 0 0 0 0 0 (zer 48)) 27)) := (Below.refl _ w).alloc (Nat.le_refl _) _
  have K0 := bk_new w (cellV 0 0 0 0 0 (zer 48)) 27
  have h5 : ¬ len < 53 := by omega
  go_enter Tryd.func20, Tryd.ntmps20
  go_wp2_with (first | (with_reducible show wpList _ _ _ (Oper.mk _ (Op.alloc 27) _ _ _ _ :: _) _ _; refine wpList_al rfl rfl zero27 ?_; (try simp only [Act.put, List.setIfInBounds_toArray, List.set_cons_zero, List.set_cons_succ, World.size_alloc])) | (with_reducible show wpList _ _ _ (Oper.mk _ (Op.build 27 _) _ _ _ _ :: _) _ _; refine wpList_bldz rfl rfl ?_; (try simp only [Act.put, List.setIfInBounds_toArray, List.set_cons_zero, List.set_cons_succ, World.size_alloc])) | ((with_reducible show wpList _ _ _ (Oper.mk _ (Op.store 27 _ _) _ _ _ _ :: _) _ _; refine wpList_st rfl rfl rfl rfl (by assumption) (by rw [size27, cellV_size]; (try simp only [Option.some.injEq, zer, List.length_replicate]) <;> first | rfl | (have := HL.out; omega) | (have := HM.out; omega)) (by first | rfl | (simp only [cellV_size]; done) | (rw [cellV_size, cellV_size]; (try simp only [zer, List.length_replicate]) <;> first | rfl | (have := HL.out; omega) | (have := HM.out; omega) | (have := HL.out; have := HM.out; omega))) (cellV_one _ _ _ _ _ _) ?_); intro w4 K4 b4 but4 z4))
  refine bodyPost_ret (v := .tuple #[.agg (cellV 0 0 0 0 0 (zer 48)), .int .i64 3]) (results_cell_tmp_row Tryd.results20 _ _ _ _ _ _ _ _ rfl rfl K4 Tryd.underlying27 rfl (by rw [size27, cellV_size]; rfl)) rfl ⟨rfl, ?_⟩
  exact A0.trans (b4 _ (Nat.le_refl _))

theorem IsB.but {n r : Nat} {A B : World} {a : Option Addr} {len : Nat} {zs : List UInt8} (h : IsB n A a len zs) (hb : But r A.heap.size A B) (hn : n ≤ A.heap.size) (hr : ∀ ad, a = some ad → ad.block ≠ r) : IsB n B a len zs := by
  obtain ⟨hl, h⟩ := h
  refine ⟨hl, ?_⟩
  rcases h with rfl | ⟨b, off, rfl, hbn, hc⟩
  · exact .inl rfl
  · refine .inr ⟨b, off, rfl, hbn, fun j x hx => ?_⟩
    have e := hb.block b (by omega) (hr _ rfl)
    have := hc j x hx
    unfold World.cell? at this ⊢
    rw [e]
    exact this

theorem IsB.drop5 {n : Nat} {W : World} {b off : Nat} {x0 x1 x2 x3 x4 : UInt8} {ps : List UInt8} {len : Nat} (h : IsB n W (some ⟨b, off, none⟩) len ([x0, x1, x2, x3, x4] ++ ps)) : IsB n W (some ⟨b, off + 5, none⟩) ps.length ps := by
  obtain ⟨hl, h⟩ := h
  refine ⟨rfl, ?_⟩
  rcases h with h | ⟨b', off', e, hbn, hc⟩
  · simp at h
  · cases e
    refine .inr ⟨b, off + 5, rfl, hbn, fun j x hx => ?_⟩
    have := hc (5 + j) x (by rw [List.getElem?_append_right (by simp)]; simpa using hx)
    rwa [← Nat.add_assoc] at this

set_option maxHeartbeats 2000000 in
theorem parse_nil (nni : Bool) (b off cap : Nat) (x0 x1 x2 x3 x4 : UInt8) (ps : List UInt8) (w : World) {n : Nat} (hI : IsB n w (some ⟨b, off, none⟩) 53 ([x0, x1, x2, x3, x4] ++ ps)) (hn : n ≤ w.heap.size) :
    Calls Tryd.prog 20 #[.slice (some ⟨b, off, none⟩) 53 cap, .pointer none, .bool nni] w fun e w' => e = .returned (.tuple #[.agg (cellV 0 0 0 0 0 (zer 48)), .int .i64 4]) ∧ Below w.heap.size w w' := by
  have A0 : Below w.heap.size w (w.alloc (.cells (cellV 0 0 0 0 0 (zer 48)) 27)) := (Below.refl _ w).alloc (Nat.le_refl _) _
  have K0 := bk_new w (cellV 0 0 0 0 0 (zer 48)) 27
  have A1 := A0.alloc (o := .cells #[.int .u8 0, .int .u8 0, .int .u8 0, .int .u8 0, .int .u8 0] 66) A0.size
  have K1 := K0.alloc (.cells #[.int .u8 0, .int .u8 0, .int .u8 0, .int .u8 0, .int .u8 0] 66)
  have F1 := bk_new (w.alloc (.cells (cellV 0 0 0 0 0 (zer 48)) 27)) #[.int .u8 0, .int .u8 0, .int .u8 0, .int .u8 0, .int .u8 0] 66
  rw [World.size_alloc] at F1
  obtain ⟨w2, hcp, F2, b2, but2, z2⟩ := run_cp ((w.alloc (.cells (cellV 0 0 0 0 0 (zer 48)) 27)).alloc (.cells #[.int .u8 0, .int .u8 0, .int .u8 0, .int .u8 0, .int .u8 0] 66)) 3 (w.heap.size + 1) 0 5 5 _ _ F1 (some ⟨b, off, none⟩) 53 cap _ (hI.below A1 hn) (by decide) (by decide) (by decide)
  rw [show List.take 5 ([x0, x1, x2, x3, x4] ++ ps) = [x0, x1, x2, x3, x4] from rfl, laidIn_all _ _ rfl] at F2
  have B2 : Below w.heap.size w w2 := A1.trans (b2 _ (by omega))
  have K2 := K1.but but2 K1.lt (by omega)
  obtain ⟨s0, s1, s2, s3, s4⟩ := F2.five
  clear A0 A1 K0 K1 F1 F2 b2 but2 hI hn
  go_enter Tryd.func20, Tryd.ntmps20
  go_wp2_with (first | (with_reducible show wpList _ _ _ (Oper.mk _ (Op.alloc 27) _ _ _ _ :: _) _ _; refine wpList_al rfl rfl zero27 ?_; (try simp only [Act.put, List.setIfInBounds_toArray, List.set_cons_zero, List.set_cons_succ, World.size_alloc])) | (at_builtin; refine wpList_cp hcp _ _ rfl rfl rfl rfl rfl ?_))
  refine (take_nil _ _ _ _ _ _).mono ?_
  rintro e w3 ⟨rfl, b3⟩
  have K3 := (K2.below b3 K2.lt).alloc (.cells #[.int .u8 0, .int .u8 0, .int .u8 0, .int .u8 0] 65)
  have B3 := (B2.trans (b3.mono B2.size)).alloc (o := .cells #[.int .u8 0, .int .u8 0, .int .u8 0, .int .u8 0] 65) (Nat.le_trans B2.size b3.size)
  clear s0 s1 s2 s3 s4 K2 B2 b3 hcp
  go_wp2_with (first | (with_reducible show wpList _ _ _ (Oper.mk _ (Op.build 27 _) _ _ _ _ :: _) _ _; refine wpList_bldz rfl rfl ?_; (try simp only [Act.put, List.setIfInBounds_toArray, List.set_cons_zero, List.set_cons_succ, World.size_alloc])) | ((with_reducible show wpList _ _ _ (Oper.mk _ (Op.store 27 _ _) _ _ _ _ :: _) _ _; refine wpList_st rfl rfl rfl rfl (by assumption) (by rw [size27, cellV_size]; (try simp only [Option.some.injEq, zer, List.length_replicate]) <;> first | rfl | (have := HL.out; omega) | (have := HM.out; omega)) (by first | rfl | (simp only [cellV_size]; done) | (rw [cellV_size, cellV_size]; (try simp only [zer, List.length_replicate]) <;> first | rfl | (have := HL.out; omega) | (have := HM.out; omega) | (have := HL.out; have := HM.out; omega))) (cellV_one _ _ _ _ _ _) ?_); intro w4 K4 b4 but4 z4))
  refine bodyPost_ret (v := .tuple #[.agg (cellV 0 0 0 0 0 (zer 48)), .int .i64 4]) (results_cell_tmp_row Tryd.results20 _ _ _ _ _ _ _ _ rfl rfl K4 Tryd.underlying27 rfl (by rw [size27, cellV_size]; rfl)) rfl ⟨rfl, ?_⟩
  exact B3.trans (b4 _ (Nat.le_refl _))

set_option maxHeartbeats 2000000 in
theorem parse_gone (nni : Bool) (r p d : Nat) (c : Bool) (b off cap : Nat) (x0 x1 x2 x3 x4 : UInt8) (ps : List UInt8) (w : World) {n : Nat} (hI : IsB n w (some ⟨b, off, none⟩) 53 ([x0, x1, x2, x3, x4] ++ ps)) (hn : n ≤ w.heap.size)
    (hR : RC w r p d c) (hp : p < 1000000) (hd : d < 1000000) (hg : res c [x0, x1, x2, x3, x4] = .gone) :
    Calls Tryd.prog 20 #[.slice (some ⟨b, off, none⟩) 53 cap, .pointer (some ⟨r, 0, none⟩), .bool nni] w fun e w' => e = .returned (.tuple #[.agg (cellV 0 0 0 0 0 (zer 48)), .int .i64 4]) ∧ RC w' r p (d + 1) true ∧ But r w.heap.size w w' := by
  have A0 : Below w.heap.size w (w.alloc (.cells (cellV 0 0 0 0 0 (zer 48)) 27)) := (Below.refl _ w).alloc (Nat.le_refl _) _
  have K0 := bk_new w (cellV 0 0 0 0 0 (zer 48)) 27
  have A1 := A0.alloc (o := .cells #[.int .u8 0, .int .u8 0, .int .u8 0, .int .u8 0, .int .u8 0] 66) A0.size
  have K1 := K0.alloc (.cells #[.int .u8 0, .int .u8 0, .int .u8 0, .int .u8 0, .int .u8 0] 66)
  have F1 := bk_new (w.alloc (.cells (cellV 0 0 0 0 0 (zer 48)) 27)) #[.int .u8 0, .int .u8 0, .int .u8 0, .int .u8 0, .int .u8 0] 66
  rw [World.size_alloc] at F1
  obtain ⟨w2, hcp, F2, b2, but2, z2⟩ := run_cp ((w.alloc (.cells (cellV 0 0 0 0 0 (zer 48)) 27)).alloc (.cells #[.int .u8 0, .int .u8 0, .int .u8 0, .int .u8 0, .int .u8 0] 66)) 3 (w.heap.size + 1) 0 5 5 _ _ F1 (some ⟨b, off, none⟩) 53 cap _ (hI.below A1 hn) (by decide) (by decide) (by decide)
  rw [show List.take 5 ([x0, x1, x2, x3, x4] ++ ps) = [x0, x1, x2, x3, x4] from rfl, laidIn_all _ _ rfl] at F2
  have B2 : Below w.heap.size w w2 := A1.trans (b2 _ (by omega))
  have K2 := K1.but but2 K1.lt (by omega)
  obtain ⟨s0, s1, s2, s3, s4⟩ := F2.five
  have hrl := hR.lt
  have R2 := hR.below B2 hrl
  have HG : Hid (res c [x0, x1, x2, x3, x4] = .gone) := hg
  clear A0 A1 K0 K1 F1 F2 b2 but2 hI hn hg hR
  go_enter Tryd.func20, Tryd.ntmps20
  go_wp2_with (first | (with_reducible show wpList _ _ _ (Oper.mk _ (Op.alloc 27) _ _ _ _ :: _) _ _; refine wpList_al rfl rfl zero27 ?_; (try simp only [Act.put, List.setIfInBounds_toArray, List.set_cons_zero, List.set_cons_succ, World.size_alloc])) | (at_builtin; refine wpList_cp hcp _ _ rfl rfl rfl rfl rfl ?_))
  refine (take_calls r p d c x0 x1 x2 x3 x4 _ R2 hp hd).mono ?_
  rintro e w3 ⟨y0, y1, y2, y3, hy, rfl, R3, b3⟩
  rw [HG.out] at R3 ⊢
  have K3 := (K2.but b3 K2.lt (by omega)).alloc (.cells #[.int .u8 (y0.toNat : Int), .int .u8 (y1.toNat : Int), .int .u8 (y2.toNat : Int), .int .u8 (y3.toNat : Int)] 65)
  have R4 := BK.alloc R3 (.cells #[.int .u8 (y0.toNat : Int), .int .u8 (y1.toNat : Int), .int .u8 (y2.toNat : Int), .int .u8 (y3.toNat : Int)] 65)
  have B3 := ((But.of (r := r) B2).trans (b3.mono B2.size)).alloc (Nat.le_trans B2.size b3.size) (.cells #[.int .u8 (y0.toNat : Int), .int .u8 (y1.toNat : Int), .int .u8 (y2.toNat : Int), .int .u8 (y3.toNat : Int)] 65)
  clear s0 s1 s2 s3 s4 K2 B2 b3 hcp hy R2 R3
  go_wp2_with (first | (with_reducible show wpList _ _ _ (Oper.mk _ (Op.build 27 _) _ _ _ _ :: _) _ _; refine wpList_bldz rfl rfl ?_; (try simp only [Act.put, List.setIfInBounds_toArray, List.set_cons_zero, List.set_cons_succ, World.size_alloc])) | ((with_reducible show wpList _ _ _ (Oper.mk _ (Op.store 27 _ _) _ _ _ _ :: _) _ _; refine wpList_st rfl rfl rfl rfl (by assumption) (by rw [size27, cellV_size]; (try simp only [Option.some.injEq, zer, List.length_replicate]) <;> first | rfl | (have := HL.out; omega) | (have := HM.out; omega)) (by first | rfl | (simp only [cellV_size]; done) | (rw [cellV_size, cellV_size]; (try simp only [zer, List.length_replicate]) <;> first | rfl | (have := HL.out; omega) | (have := HM.out; omega) | (have := HL.out; have := HM.out; omega))) (cellV_one _ _ _ _ _ _) ?_); intro w4 K4 b4 but4 z4))
  refine bodyPost_ret (v := .tuple #[.agg (cellV 0 0 0 0 0 (zer 48)), .int .i64 4]) (results_cell_tmp_row Tryd.results20 _ _ _ _ _ _ _ _ rfl rfl K4 Tryd.underlying27 rfl (by rw [size27, cellV_size]; rfl)) rfl ⟨rfl, ?_, ?_⟩
  · exact R4.but but4 (BK.lt R4) (by omega)
  · exact B3.trans (But.of (b4 _ (Nat.le_refl _)))
end Go.Proofs.YtpifmljbaogcbaaDoor
