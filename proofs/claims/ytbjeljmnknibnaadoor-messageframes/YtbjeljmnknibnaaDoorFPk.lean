/- Proved here: what frame.Pack answers. Conditions: as each theorem states them. -/
import Derived.Deep.AppendSrc
import Derived.Test.YtbjeljmnknibnaaDoorFCp
import Derived.Test.YtbjeljmnknibnaaDoorFSml
namespace Go.Proofs.YtbjeljmnknibnaaDoor.F
set_option linter.unusedSimpArgs false
set_option linter.unusedVariables false
set_option maxRecDepth 20000
open Go.RowKit

theorem pack_none (len cap : Nat) (a : Option Addr) (m : Int) (h : len = 0) (w : World) : Calls Tryd.prog 25 #[.slice a len cap, .int .u8 m] w fun e w' => e = .returned (.tuple #[.slice none 0 0, .int .i64 1]) ∧ w' = w := by
  subst h
  go_enter Tryd.func25, Tryd.ntmps25
  go_wp2
  go_ret2
  exact ⟨rfl, rfl⟩
theorem pack_long (len cap : Nat) (a : Option Addr) (m : Int) (h : 1000 < len) (w : World) : Calls Tryd.prog 25 #[.slice a len cap, .int .u8 m] w fun e w' => e = .returned (.tuple #[.slice none 0 0, .int .i64 6]) ∧ w' = w := by
  have q1 : ((len : Int) == 0) = false := beq_eq_false_iff_ne.2 (by omega)
  have q2 : decide (1000 < (len : Int)) = true := by simp; omega
  clear h
  go_enter Tryd.func25, Tryd.ntmps25
  go_wp2
  go_ret2
  exact ⟨rfl, rfl⟩

theorem vals_replicate (n : Nat) : vals (List.replicate n 0) = List.replicate n (Value.int .u8 0) := by simp [vals]
/-- The first places of a new slice are written over. -/
theorem run_cp_own (w : World) (ty : TypeId) (base g l c : Nat) (hd : OwnB base w (some ⟨g, 0, none⟩) l c (List.replicate l 0)) (hbg : base ≤ g) (a : Option Addr) (m k : Nat) (xs : List UInt8) {n : Nat} (hx : IsB n w a m xs) (hpos : 0 < m) (hml : m ≤ l) :
    ∃ w', (Builtin.copy_ #[25, 25] ty #[.slice (some ⟨g, 0, none⟩) l c, .slice a m k]).run Tryd.prog w = .ok (goInt m) w' ∧ OwnB base w' (some ⟨g, 0, none⟩) l c (xs ++ List.replicate (l - m) 0) ∧ Below base w w' ∧ w'.heap.size = w.heap.size := by
  obtain ⟨hl, hll, ho⟩ := hd
  rcases ho with ⟨e, _⟩ | ⟨g', cap, cur, e, hg, hh, hc, hm, hsz, ht⟩
  · cases e
  cases e
  rw [Nat.mul_one] at hsz
  have hmin : Nat.min m l = m := Nat.min_eq_left hml
  obtain ⟨w', hrun, hb, hB, _, hs⟩ := run_cp w ty g 0 l c cur 5 hh a m k xs hx hpos (by omega) (by rw [hmin]; omega)
  rw [hmin] at hrun
  have hxl : xs.length = m := hx.1.symm
  rw [List.take_of_length_le (by omega)] at hb
  refine ⟨w', hrun, ⟨by simp; omega, by simp [vals]; omega, .inr ⟨g, c, laidIn cur 0 xs, rfl, hg, hb, hc, hm, ?_, ?_⟩⟩, hB base hbg, hs⟩
  · rw [Nat.mul_one]; simp only [laidIn, List.size_toArray, List.length_append, List.length_take, List.length_drop, Array.length_toList, vals_length]; omega
  · rw [Nat.mul_one] at ht ⊢
    have e1 : (laidIn cur 0 xs).toList = vals xs ++ cur.toList.drop m := by simp [laidIn, hxl]
    rw [e1, List.take_append, vals_length, hxl, List.take_of_length_le (by rw [vals_length]; omega), vals_append]
    congr 1
    rw [List.take_drop, show m + (l - m) = l from by omega, ht, vals_replicate, vals_replicate, List.drop_replicate]

theorem hi_byte (n : Nat) : ((n : Int) / 256) % 256 = ((UInt8.ofNat (n / 256)).toNat : Int) := by rw [byteN]; omega
theorem lo_byte (n : Nat) : (n : Int) % 256 = ((UInt8.ofNat n).toNat : Int) := by rw [byteN]; omega

set_option maxHeartbeats 2000000 in
theorem pack_calls (a : Option Addr) (len cap : Nat) (xs : List UInt8) (m : UInt8) (w : World) {n : Nat} (h : IsB n w a len xs) (hn : n ≤ w.heap.size) (nn : a = none → cap = 0) (h1 : 1 ≤ len) (h2 : len ≤ 1000) :
    Calls Tryd.prog 25 #[.slice a len cap, .int .u8 (m.toNat : Int)] w fun e w' => ∃ a' c', e = .returned (.tuple #[.slice a' (48 * manyN len) c', .int .i64 0]) ∧ OwnB w.heap.size w' a' (48 * manyN len) c' (frameN xs m) ∧ Below w.heap.size w w' := by
  have q1 : ((len : Int) == 0) = false := beq_eq_false_iff_ne.2 (by omega)
  have q2 : decide (1000 < (len : Int)) = false := by simp; omega
  have lx := h.1
  have hme := many_eq h1
  have hbl := body_len (t := xs) (by omega)
  have hal := ahead_len (t := xs) m (by omega)
  rw [← lx] at hbl hal
  obtain ⟨M, hM⟩ : ∃ M, manyN len = M := ⟨_, rfl⟩
  have HM := many_calls len (by omega)
  rw [hM] at hme hbl hal HM ⊢
  have hM1 : 1 ≤ M := by omega
  have hM2 : M ≤ 21 := by omega
  have hlm : len ≤ 48 * M - 8 := by omega
  obtain ⟨w1, hmk, o1, b1, z1⟩ := run_mkc w w.heap.size (48 * M - 8) (48 * M) ((M : Int) * 48 - 8) ((M : Int) * 48) (by omega) (by omega) (by omega) (by omega) (Nat.le_refl _)
  obtain ⟨w2, hcp, o2, b2, z2⟩ := run_cp_own w1 3 w.heap.size w.heap.size (48 * M - 8) (48 * M) o1 (Nat.le_refl _) a len cap xs (h.below b1 hn) (by omega) hlm
  have B2 : Below w.heap.size w w2 := b1.trans b2
  have e2 : xs ++ List.replicate (48 * M - 8 - len) 0 = bodyN xs := by unfold bodyN padN; rw [← lx, hM]
  rw [e2] at o2
  obtain ⟨w3, hW3⟩ : ∃ w3, w2.alloc (.cells #[.int .u8 (m.toNat : Int), .int .u8 0, .int .u8 ((UInt8.ofNat (len / 256)).toNat : Int), .int .u8 ((UInt8.ofNat len).toNat : Int)] 5) = w3 := ⟨_, rfl⟩
  have J3 : IsB (w2.heap.size + 1) w3 (some ⟨w2.heap.size, 0, none⟩) 4 [m, 0, UInt8.ofNat (len / 256), UInt8.ofNat len] := by rw [← hW3]; exact isB_new w2 [m, 0, UInt8.ofNat (len / 256), UInt8.ofNat len] 5 (0, 0)
  have s2 : Below w.heap.size w2 w3 := by rw [← hW3]; exact (Below.refl _ w2).alloc (by omega) _
  have s2' : Below w2.heap.size w2 w3 := by rw [← hW3]; exact (Below.refl _ w2).alloc (Nat.le_refl _) _
  have z3 : w3.heap.size = w2.heap.size + 1 := by rw [← hW3]; simp
  obtain ⟨a4, c4, w4, hap4, o4, b4⟩ := run_app w3 w.heap.size 25 _ _ _ _ (o2.below s2' (Nat.le_refl _)) (some ⟨w2.heap.size, 0, none⟩) 4 4 _ J3 (by intro h; cases h) (by omega) (by omega)
  have B4 : Below w.heap.size w w4 := B2.trans (s2.trans b4)
  have e4 : bodyN xs ++ [m, 0, UInt8.ofNat (len / 256), UInt8.ofNat len] = aheadN xs m := by unfold aheadN; rw [← lx]
  rw [e4, show 48 * M - 8 + 4 = 48 * M - 4 from by omega] at o4
  rw [show 48 * M - 8 + 4 = 48 * M - 4 from by omega] at hap4
  have hi : (len : Int) / 256 = ((UInt8.ofNat (len / 256)).toNat : Int) := by rw [byteN]; omega
  have lo := lo_byte len
  have hc := longN_lt (aheadN xs m)
  have HL := long_calls a4 (48 * M - 4) c4 (aheadN xs m) (by rw [hal]; unfold maxLen; omega) w4 o4.isB.1 (Nat.le_refl _)
  have HF : Hid (aheadN xs m ++ be4 (longN (aheadN xs m)) = frameN xs m) := rfl
  rw [be4_list] at HF
  generalize longN (aheadN xs m) = C at HL hc HF
  have i1 := hi_byte C
  have i0 := lo_byte C
  have j3 : (C : Int) / 16777216 = ((UInt8.ofNat (C / 16777216)).toNat : Int) := by rw [byteN]; omega
  have j2 : ((C : Int) / 65536) % 256 = ((UInt8.ofNat (C / 65536)).toNat : Int) := by rw [byteN]; omega
  generalize (UInt8.ofNat (len / 256)) = u1 at *
  generalize (UInt8.ofNat len) = u0 at *
  generalize (UInt8.ofNat (C / 16777216)) = v3 at *
  generalize (UInt8.ofNat (C / 65536)) = v2 at *
  generalize (UInt8.ofNat (C / 256)) = v1 at *
  generalize (UInt8.ofNat C) = v0 at *
  clear z1 z2 z3 e2 e4 o2 o1 J3 s2 s2' b1 b2 B2 hbl hal hM h lx hme
  go_enter Tryd.func25, Tryd.ntmps25
  go_wp2_with fail
  refine (HM _).mono ?_
  rintro e w9 ⟨rfl, rfl⟩
  go_wp2_with (first | (at_builtin; refine wpList_cp hcp _ _ rfl rfl rfl rfl rfl ?_) | (at_builtin; refine wpList_app hap4 _ _ rfl rfl rfl rfl rfl ?_))
  refine HL.mono ?_
  rintro e w5 ⟨rfl, b5⟩
  obtain ⟨w6, hW6⟩ : ∃ w6, w5.alloc (.cells #[.int .u8 (v3.toNat : Int), .int .u8 (v2.toNat : Int), .int .u8 (v1.toNat : Int), .int .u8 (v0.toNat : Int)] 5) = w6 := ⟨_, rfl⟩
  have B5 : Below w9.heap.size w9 w5 := B4.trans (b5.mono B4.size)
  have J6 : IsB (w5.heap.size + 1) w6 (some ⟨w5.heap.size, 0, none⟩) 4 [v3, v2, v1, v0] := by rw [← hW6]; exact isB_new w5 [v3, v2, v1, v0] 5 (0, 0)
  have s6 : Below w9.heap.size w5 w6 := by rw [← hW6]; exact (Below.refl _ w5).alloc B5.size _
  have s6' : Below w5.heap.size w5 w6 := by rw [← hW6]; exact (Below.refl _ w5).alloc (Nat.le_refl _) _
  have z6 : w6.heap.size = w5.heap.size + 1 := by rw [← hW6]; simp
  obtain ⟨a7, c7, w7, hap7, o7, b7⟩ := run_app w6 w9.heap.size 25 _ _ _ _ ((o4.below b5 (Nat.le_refl _)).below s6' (Nat.le_refl _)) (some ⟨w5.heap.size, 0, none⟩) 4 4 _ J6 (by intro h; cases h) (by omega) (by have := B5.size; omega)
  rw [HF.out, show 48 * M - 4 + 4 = 48 * M from by omega] at o7
  rw [show 48 * M - 4 + 4 = 48 * M from by omega] at hap7
  have B7 : Below w9.heap.size w9 w7 := B5.trans (s6.trans b7)
  clear z6 J6 s6 s6' b7 b5 o4 hap4 hcp hmk hW3 B5 B4 b4 HM
  go_wp2_with (at_builtin; refine wpList_app hap7 _ _ rfl rfl rfl rfl rfl ?_)
  go_ret2
  exact ⟨_, _, rfl, o7, B7⟩
end Go.Proofs.YtbjeljmnknibnaaDoor.F
