/- Proved here: what cell.Build answers. Conditions: as each theorem states them. -/
import Derived.Deep.AppendSrc
import Derived.Test.YtpifmljbaogcbaaDoorCp
import Derived.Test.YtpifmljbaogcbaaDoorHPack
import Derived.Test.YtpifmljbaogcbaaDoorSeal
namespace Go.Proofs.YtpifmljbaogcbaaDoor
set_option linter.unusedSimpArgs false
set_option linter.unusedVariables false
open Go.RowKit
open H (Tab rightB bytesN pack_no pack_yes)

set_option maxHeartbeats 400000 in
theorem build_no (nni : Bool) (g p v t c : Int) (ps : List UInt8) (w : World) (tab : Tab w) (h : rightB nni g p v t c = false) :
    Calls Tryd.prog 11 #[.agg (cellV g p v t c ps), .bool nni] w fun e w' => e = .returned (.tuple #[.slice none 0 0, .int .i64 1]) ∧ Below w.heap.size w w' := by
  have A0 : Below w.heap.size w (w.alloc (.cells (cellV g p v t c ps) 27)) := (Below.refl _ w).alloc (Nat.le_refl _) _
  obtain ⟨k0, k1, k2, k3, k4⟩ := (bk_new w (cellV g p v t c ps) 27).hdr
  have HR : Hid (rightB nni g p v t c = false) := h
  clear h
  go_enter Tryd.func11, Tryd.ntmps11
  go_wp2_with fail
  refine (pack_no nni g p v t c _ (tab.below A0 tab.1) HR.out).mono ?_
  rintro e w1 ⟨rfl, b1⟩
  go_wp2
  go_ret2
  exact ⟨rfl, A0.trans (b1.mono (by simp))⟩

theorem zero66 (w : World) : (zeroValue 66).run Tryd.prog w = .ok (.agg #[.int .u8 0, .int .u8 0, .int .u8 0, .int .u8 0, .int .u8 0]) w := by kernel_rfl

/-- A cell's bytes. -/
def cellB (x0 x1 x2 x3 : UInt8) (ps : List UInt8) : List UInt8 := [x0, x1, x2, x3, chk x0 x1 x2 x3] ++ ps

set_option maxHeartbeats 1000000 in
theorem build_yes (nni : Bool) (g p v t c : Int) (n : Nat) (x0 x1 x2 x3 : UInt8) (ps : List UInt8) (hl : ps.length = 48) (w : World) (tab : Tab w) (h : rightB nni g p v t c = true) (hn : H.word g p v t c = (n : Int)) (hx : bytesN n = [x0, x1, x2, x3]) :
    Calls Tryd.prog 11 #[.agg (cellV g p v t c ps), .bool nni] w fun e w' => ∃ a cp, e = .returned (.tuple #[.slice a 53 cp, .int .i64 0]) ∧ OwnB w.heap.size w' a 53 cp (cellB x0 x1 x2 x3 ps) ∧ Below w.heap.size w w' := by
  have A0 : Below w.heap.size w (w.alloc (.cells (cellV g p v t c ps) 27)) := (Below.refl _ w).alloc (Nat.le_refl _) _
  have K0 := bk_new w (cellV g p v t c ps) 27
  obtain ⟨k0, k1, k2, k3, k4⟩ := K0.hdr
  have HR : Hid (rightB nni g p v t c = true) := h
  have HN : Hid (H.word g p v t c = (n : Int)) := hn
  have HX : Hid (bytesN n = [x0, x1, x2, x3]) := hx
  have HL : Hid (ps.length = 48) := hl
  clear h hn hx hl
  go_enter Tryd.func11, Tryd.ntmps11
  go_wp2_with fail
  refine (pack_yes nni g p v t c n _ (tab.below A0 tab.1) HR.out HN.out).mono ?_
  rintro e w1 ⟨a1, rfl, I1, b1⟩
  rw [HX.out] at I1
  have B1 : Below w.heap.size w w1 := A0.trans (b1.mono (by simp))
  have K1 := K0.below b1 K0.lt
  have z1 : w.heap.size < w1.heap.size := K1.lt
  clear k0 k1 k2 k3 k4 K0 A0 b1
  have B2 : Below w.heap.size w (w1.alloc (.cells #[.int .u8 0, .int .u8 0, .int .u8 0, .int .u8 0] 65)) := B1.alloc B1.size _
  have K2 := K1.alloc (.cells #[.int .u8 0, .int .u8 0, .int .u8 0, .int .u8 0] 65)
  have F2 := bk_new w1 #[.int .u8 0, .int .u8 0, .int .u8 0, .int .u8 0] 65
  have I2 := I1.below ((Below.refl w1.heap.size w1).alloc (Nat.le_refl _) (.cells #[.int .u8 0, .int .u8 0, .int .u8 0, .int .u8 0] 65)) (Nat.le_refl _)
  obtain ⟨w3, hcp, F3, b3, but3, z3⟩ := run_cp (w1.alloc (.cells #[.int .u8 0, .int .u8 0, .int .u8 0, .int .u8 0] 65)) 3 w1.heap.size 0 4 4 _ _ F2 a1 4 4 _ I2 (by decide) (by decide) (by decide)
  rw [show List.take 4 [x0, x1, x2, x3] = [x0, x1, x2, x3] from rfl, laidIn_all _ _ rfl] at F3
  have B3 : Below w.heap.size w w3 := B2.trans (b3 _ B1.size)
  have K3 := K2.but but3 (by simp; omega) (by omega)
  rw [World.size_alloc] at z3
  have s0 := F3.cell 0 (.int .u8 (x0.toNat : Int)) rfl
  have s1 := F3.cell 1 (.int .u8 (x1.toNat : Int)) rfl
  have s2 := F3.cell 2 (.int .u8 (x2.toNat : Int)) rfl
  have s3 := F3.cell 3 (.int .u8 (x3.toNat : Int)) rfl
  clear b3 but3 K2 F2 I2 I1 K1 F3
  go_wp2_with (at_builtin; refine wpList_cp hcp _ _ rfl rfl rfl rfl rfl ?_)
  clear hcp
  refine (seal_calls x0 x1 x2 x3 _).mono ?_
  rintro e w4 ⟨rfl, b4⟩
  have B4 : Below w.heap.size w w4 := B3.trans (b4.mono B3.size)
  have K4 := K3.below b4 K3.lt
  have B5 : Below w.heap.size w (w4.alloc (.cells #[.int .u8 (x0.toNat : Int), .int .u8 (x1.toNat : Int), .int .u8 (x2.toNat : Int), .int .u8 (x3.toNat : Int), .int .u8 ((chk x0 x1 x2 x3).toNat : Int)] 66)) := B4.alloc B4.size _
  have K5 := K4.alloc (.cells #[.int .u8 (x0.toNat : Int), .int .u8 (x1.toNat : Int), .int .u8 (x2.toNat : Int), .int .u8 (x3.toNat : Int), .int .u8 ((chk x0 x1 x2 x3).toNat : Int)] 66)
  have F5 := bk_new w4 #[.int .u8 (x0.toNat : Int), .int .u8 (x1.toNat : Int), .int .u8 (x2.toNat : Int), .int .u8 (x3.toNat : Int), .int .u8 ((chk x0 x1 x2 x3).toNat : Int)] 66
  obtain ⟨w6, hmk, o6, b6, z6⟩ := run_mkc (w4.alloc (.cells #[.int .u8 (x0.toNat : Int), .int .u8 (x1.toNat : Int), .int .u8 (x2.toNat : Int), .int .u8 (x3.toNat : Int), .int .u8 ((chk x0 x1 x2 x3).toNat : Int)] 66)) (w4.alloc (.cells #[.int .u8 (x0.toNat : Int), .int .u8 (x1.toNat : Int), .int .u8 (x2.toNat : Int), .int .u8 (x3.toNat : Int), .int .u8 ((chk x0 x1 x2 x3).toNat : Int)] 66)).heap.size 0 53 0 53 rfl rfl (by decide) (by decide) (Nat.le_refl _)
  have K6 := K5.below b6 K5.lt
  have F6 := F5.below b6 F5.lt
  have B6 : Below w.heap.size w w6 := B5.trans (b6.mono B5.size)
  obtain ⟨a7, c7, w7, hap7, o7, b7⟩ := run_app w6 _ 28 _ 0 53 _ o6 (some ⟨w4.heap.size, 0, none⟩) 5 5 _ (BK.isB (zs := [x0, x1, x2, x3, chk x0 x1 x2 x3]) F6) (by intro h; cases h) (by decide) b6.size
  have K7 := K6.below b7 K5.lt
  have B7 : Below w.heap.size w w7 := B6.trans (b7.mono (by have := B4.size; simp; omega))
  obtain ⟨a8, c8, w8, hap8, o8, b8⟩ := run_app w7 _ 28 _ _ _ _ o7 (some ⟨w.heap.size, 5, none⟩) _ 48 _ K7.cellPay (by intro h; cases h) (by have := HL.out; omega) (Nat.le_trans b6.size b7.size)
  have B8 : Below w.heap.size w w8 := B7.trans (b8.mono (by have := B4.size; simp; omega))
  rw [HL.out] at hap8 o8
  simp only [Nat.zero_add, List.replicate_zero, List.nil_append, Nat.reduceAdd, World.size_alloc] at hmk hap7 hap8 o8
  have HO : Hid (OwnB w.heap.size w8 a8 53 c8 (cellB x0 x1 x2 x3 ps)) := by
    refine OwnB.mono ?_ o8
    have := B4.size; omega
  clear K7 K6 K5 F6 F5 o6 o7 o8 b6 b7 b8 K4 K3 b4 s0 s1 s2 s3 B7 B6 B5 B4
  go_wp2_with (first | (at_builtin; refine wpList_app hap7 _ _ rfl rfl rfl rfl rfl ?_) | (at_builtin; refine wpList_app hap8 _ _ rfl rfl rfl rfl rfl ?_))
  go_ret2
  exact ⟨_, _, rfl, HO.out, B8⟩
end Go.Proofs.YtpifmljbaogcbaaDoor
