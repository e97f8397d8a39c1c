/- Proved here: Seal is four bytes and their check. Conditions: as each theorem states them. -/
import Derived.Test.YtpifmljbaogcbaaDoorMend
namespace Go.Proofs.YtpifmljbaogcbaaDoor
open Go.RowKit

/-- The check of four bytes, as a byte. -/
def chk (x0 x1 x2 x3 : UInt8) : UInt8 := UInt8.ofNat (eightN [x0, x1, x2, x3])
theorem chk_nat (x0 x1 x2 x3 : UInt8) : (chk x0 x1 x2 x3).toNat = eightN [x0, x1, x2, x3] := ofNat_toNat_lt (eightN_lt _)
theorem syn_chk (x0 x1 x2 x3 : UInt8) : synN [x0, x1, x2, x3, chk x0 x1 x2 x3] = 0 := syn_self [x0, x1, x2, x3] [x0, x1, x2, x3] _ rfl (chk_nat _ _ _ _)

theorem seal_facts (w w1 : World) (x0 x1 x2 x3 : UInt8)
    (b1 : Below (w.heap.size + 2) ((w.alloc (.cells #[.int .u8 (x0.toNat : Int), .int .u8 (x1.toNat : Int), .int .u8 (x2.toNat : Int), .int .u8 (x3.toNat : Int)] 65)).alloc (.cells #[.int .u8 0, .int .u8 0, .int .u8 0, .int .u8 0, .int .u8 0] 66)).drew w1) :
    (w1.cell? ⟨w.heap.size, 0, none⟩ = some (.int .u8 (x0.toNat : Int)) ∧ w1.cell? ⟨w.heap.size, 1, none⟩ = some (.int .u8 (x1.toNat : Int)) ∧ w1.cell? ⟨w.heap.size, 2, none⟩ = some (.int .u8 (x2.toNat : Int)) ∧ w1.cell? ⟨w.heap.size, 3, none⟩ = some (.int .u8 (x3.toNat : Int))) ∧
    (w1.cell? ⟨w.heap.size + 1, 0, none⟩ = some (.int .u8 0) ∧ w1.cell? ⟨w.heap.size + 1, 1, none⟩ = some (.int .u8 0) ∧ w1.cell? ⟨w.heap.size + 1, 2, none⟩ = some (.int .u8 0) ∧ w1.cell? ⟨w.heap.size + 1, 3, none⟩ = some (.int .u8 0) ∧ w1.cell? ⟨w.heap.size + 1, 4, none⟩ = some (.int .u8 0)) ∧
    (w1.frozen? ⟨w.heap.size + 1, 0, none⟩ = false ∧ w1.frozen? ⟨w.heap.size + 1, 1, none⟩ = false ∧ w1.frozen? ⟨w.heap.size + 1, 2, none⟩ = false ∧ w1.frozen? ⟨w.heap.size + 1, 3, none⟩ = false ∧ w1.frozen? ⟨w.heap.size + 1, 4, none⟩ = false) ∧ w.heap.size + 2 ≤ w1.heap.size := by
  have A1 := bk_new w #[.int .u8 (x0.toNat : Int), .int .u8 (x1.toNat : Int), .int .u8 (x2.toNat : Int), .int .u8 (x3.toNat : Int)] 65
  have A2 := (A1.alloc (.cells #[.int .u8 0, .int .u8 0, .int .u8 0, .int .u8 0, .int .u8 0] 66)).drew
  have R2 := (bk_new (w.alloc (.cells #[.int .u8 (x0.toNat : Int), .int .u8 (x1.toNat : Int), .int .u8 (x2.toNat : Int), .int .u8 (x3.toNat : Int)] 65)) #[.int .u8 0, .int .u8 0, .int .u8 0, .int .u8 0, .int .u8 0] 66).drew
  rw [World.size_alloc] at R2
  have A3 := A2.below b1 (by omega)
  have R3 := R2.below b1 (by omega)
  have z := b1.size
  have z2 : w.heap.size + 2 ≤ w1.heap.size := by
    have : ((w.alloc (.cells #[.int .u8 (x0.toNat : Int), .int .u8 (x1.toNat : Int), .int .u8 (x2.toNat : Int), .int .u8 (x3.toNat : Int)] 65)).alloc (.cells #[.int .u8 0, .int .u8 0, .int .u8 0, .int .u8 0, .int .u8 0] 66)).drew.heap.size = w.heap.size + 2 := by show (World.alloc _ _).heap.size = _; simp
    omega
  exact ⟨⟨A3.cell 0 _ rfl, A3.cell 1 _ rfl, A3.cell 2 _ rfl, A3.cell 3 _ rfl⟩, ⟨R3.cell 0 _ rfl, R3.cell 1 _ rfl, R3.cell 2 _ rfl, R3.cell 3 _ rfl, R3.cell 4 _ rfl⟩, ⟨R3.frozen 0, R3.frozen 1, R3.frozen 2, R3.frozen 3, R3.frozen 4⟩, z2⟩

set_option maxHeartbeats 1000000 in
theorem seal_calls (x0 x1 x2 x3 : UInt8) (w : World) : Calls Tryd.prog 28 #[.agg #[.int .u8 (x0.toNat : Int), .int .u8 (x1.toNat : Int), .int .u8 (x2.toNat : Int), .int .u8 (x3.toNat : Int)]] w fun e w' =>
    e = .returned (.agg #[.int .u8 (x0.toNat : Int), .int .u8 (x1.toNat : Int), .int .u8 (x2.toNat : Int), .int .u8 (x3.toNat : Int), .int .u8 ((chk x0 x1 x2 x3).toNat : Int)]) ∧ Below w.heap.size w w' := by
  have A1 := bk_new w #[.int .u8 (x0.toNat : Int), .int .u8 (x1.toNat : Int), .int .u8 (x2.toNat : Int), .int .u8 (x3.toNat : Int)] 65
  have A2 := (A1.alloc (.cells #[.int .u8 0, .int .u8 0, .int .u8 0, .int .u8 0, .int .u8 0] 66)).drew
  have I2 := BK.isB (zs := [x0, x1, x2, x3]) A2
  have zz : ((w.alloc (.cells #[.int .u8 (x0.toNat : Int), .int .u8 (x1.toNat : Int), .int .u8 (x2.toNat : Int), .int .u8 (x3.toNat : Int)] 65)).alloc (.cells #[.int .u8 0, .int .u8 0, .int .u8 0, .int .u8 0, .int .u8 0] 66)).drew.heap.size = w.heap.size + 2 := by show (World.alloc _ _).heap.size = _; simp
  have ZZ : Hid (((w.alloc (.cells #[.int .u8 (x0.toNat : Int), .int .u8 (x1.toNat : Int), .int .u8 (x2.toNat : Int), .int .u8 (x3.toNat : Int)] 65)).alloc (.cells #[.int .u8 0, .int .u8 0, .int .u8 0, .int .u8 0, .int .u8 0] 66)).drew.heap.size = w.heap.size + 2) := zz
  have CK := chk_nat x0 x1 x2 x3
  have HC : Hid ((chk x0 x1 x2 x3).toNat = eightN [x0, x1, x2, x3]) := CK
  clear A1 A2 zz CK
  generalize chk x0 x1 x2 x3 = c at *
  go_enter Tryd.func28, Tryd.ntmps28
  go_wp2
  go_region_held (fun w' => w'.cell? ⟨w.heap.size, 0, none⟩ = some (.int .u8 (x0.toNat : Int)) ∧ w'.cell? ⟨w.heap.size, 1, none⟩ = some (.int .u8 (x1.toNat : Int)) ∧ w'.cell? ⟨w.heap.size, 2, none⟩ = some (.int .u8 (x2.toNat : Int)) ∧ w'.cell? ⟨w.heap.size, 3, none⟩ = some (.int .u8 (x3.toNat : Int))) (go_keep) (first | (go_at_call 42; refine (eight_calls _ _ 4 [x0, x1, x2, x3] (by show 4 ≤ maxLen; decide) _ I2 (Nat.le_refl _)).mono ?_; rintro e w1 ⟨rfl, b1⟩; rw [← HC.out]; rw [ZZ.out] at b1; obtain ⟨⟨s0, s1, s2, s3⟩, ⟨k0, k1, k2, k3, k4⟩, ⟨f0, f1, f2, f3, f4⟩, z1⟩ := seal_facts w w1 x0 x1 x2 x3 b1))
  go_wp2
  refine bodyPost_ret (v := .agg #[.int .u8 (x0.toNat : Int), .int .u8 (x1.toNat : Int), .int .u8 (x2.toNat : Int), .int .u8 (x3.toNat : Int), .int .u8 (c.toNat : Int)]) (by simp [results, Tryd.results28, go_sem, *]) rfl ⟨rfl, ?_⟩
  have B1 : Below w.heap.size w w1 := ((((Below.refl _ w).alloc (Nat.le_refl _) _).alloc (by simp) _).drew).trans (b1.mono (by omega))
  go_grown
end Go.Proofs.YtpifmljbaogcbaaDoor
