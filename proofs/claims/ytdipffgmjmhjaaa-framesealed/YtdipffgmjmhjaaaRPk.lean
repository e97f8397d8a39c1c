/- Proved here: what the document's Pack answers. Conditions: as each theorem states them. -/
import Derived.Deep.AppendSrc
import Derived.Test.YtdipffgmjmhjaaaSml
import Derived.Test.YtdipffgmjmhjaaaRef
namespace Go.Proofs.Ytdipffgmjmhjaaa
set_option linter.unusedSimpArgs false
set_option linter.unusedVariables false
open Go.RowKit

theorem refpack_none (len cap : Nat) (a : Option Addr) (m : Int) (h : len = 0) (w : World) : Calls Try.prog 11 #[.slice a len cap, .int .u8 m] w fun e w' => e = .returned (.tuple #[.slice none 0 0, .int .i64 1]) ∧ w' = w := by
  subst h
  go_enter Try.func11, Try.ntmps11
  go_wp2
  go_ret2
  exact ⟨rfl, rfl⟩
theorem refpack_long (len cap : Nat) (a : Option Addr) (m : Int) (h : 1000 < len) (w : World) : Calls Try.prog 11 #[.slice a len cap, .int .u8 m] w fun e w' => e = .returned (.tuple #[.slice none 0 0, .int .i64 6]) ∧ w' = w := by
  have q1 : ((len : Int) == 0) = false := beq_eq_false_iff_ne.2 (by omega)
  have q2 : decide (1000 < (len : Int)) = true := by simp; omega
  clear h
  go_enter Try.func11, Try.ntmps11
  go_wp2
  go_ret2
  exact ⟨rfl, rfl⟩

theorem isB_one (w : World) (x : UInt8) : IsB (w.heap.size + 1) (w.alloc (.cells #[.int .u8 (x.toNat : Int)] 5)) (some ⟨w.heap.size, 0, none⟩) 1 [x] := isB_new w [x] 5 (0, 0)

set_option maxHeartbeats 2000000 in
theorem refpack_calls (a : Option Addr) (len cap : Nat) (xs : List UInt8) (m : UInt8) (w : World) {n : Nat} (h : IsB n w a len xs) (hn : n ≤ w.heap.size) (nn : a = none → cap = 0) (h1 : 1 ≤ len) (h2 : len ≤ 400) :
    Calls Try.prog 11 #[.slice a len cap, .int .u8 (m.toNat : Int)] w fun e w' => ∃ a' c', e = .returned (.tuple #[.slice a' (48 * manyN len) c', .int .i64 0]) ∧ OwnB w.heap.size w' a' (48 * manyN len) c' (frameN xs m) ∧ Below w.heap.size w w' := by
  have q1 : ((len : Int) == 0) = false := beq_eq_false_iff_ne.2 (by omega)
  have q2 : decide (1000 < (len : Int)) = false := by simp; omega
  have lx : Hid (len = xs.length) := h.1
  have hme := many_eq h1
  have hal : Hid (1 ≤ xs.length → (aheadN xs m).length = 48 * manyN xs.length - 4) := fun h => ahead_len (t := xs) m h
  have hbd : Hid (bodyN xs = xs ++ List.replicate (48 * manyN xs.length - 8 - xs.length) 0) := rfl
  rw [← lx.out] at hal hbd
  obtain ⟨M, hM⟩ : ∃ M, manyN len = M := ⟨_, rfl⟩
  rw [hM] at hme hal hbd ⊢
  have hM1 : 1 ≤ M := by omega
  have hM2 : M ≤ 9 := by omega
  have hlm : len ≤ 48 * M - 8 := by omega
  have hlM : 48 * M - 8 < len + 48 := by omega
  have b2 : Below w.heap.size w (w.alloc (.cells #[] 5)) := (Below.refl _ w).alloc (Nat.le_refl _) _
  obtain ⟨a4, c4, w4, hap4, o4, b4⟩ := run_app (w.alloc (.cells #[] 5)) w.heap.size 22 _ 0 0 _ (ownB_new w.heap.size w (Nat.le_refl _)) a len cap xs (h.below b2 hn) nn (by omega) (by simp)
  simp only [Nat.zero_add, List.nil_append] at hap4 o4
  have B4 := b2.trans b4
  have hi : (len : Int) / 256 = ((UInt8.ofNat (len / 256)).toNat : Int) := by rw [byteN]; omega
  have lo : (len : Int) % 256 = ((UInt8.ofNat len).toNat : Int) := by rw [byteN]; omega
  have HA : Hid (aheadN xs m = bodyN xs ++ [m, 0, UInt8.ofNat (len / 256), UInt8.ofNat len]) := by show _ = _; unfold aheadN; rw [← lx.out]
  generalize (UInt8.ofNat (len / 256)) = u1 at *
  generalize (UInt8.ofNat len) = u0 at *
  clear hM hme h b2 b4
  go_enter Try.func11, Try.ntmps11
  go_wp2_with (at_builtin; refine wpList_app hap4 _ _ rfl rfl rfl rfl rfl ?_)
  clear hap4
  go_loopw [7] (fun bv wr => ∃ j : Nat, ∃ a' c', len + j ≤ 48 * M - 8 ∧ bv = .slice a' (len + j) c' ∧ OwnB w.heap.size wr a' (len + j) c' (xs ++ List.replicate j 0) ∧ Below w.heap.size w wr)
    (fun bv _ => 48 * M - (match bv with | .slice _ l _ => l | _ => 0))
  case atStart => exact ⟨0, a4, c4, hlm, rfl, by simpa using o4, B4⟩
  case round =>
    obtain ⟨j, a', c', hj, rfl, oj, bj⟩ := hrel
    by_cases hlt : len + j < 48 * M - 8
    · have q3 : (((len : Int) + (j : Int) + 8) % 48 != 0) = true := by rw [bne_iff_ne]; omega
      have s1 : Below w.heap.size wr (wr.alloc (.cells #[.int .u8 ((0 : UInt8).toNat : Int)] 5)) := (Below.refl _ wr).alloc bj.size _
      obtain ⟨a6, c6, w6, hap6, o6, b6⟩ := run_app (wr.alloc (.cells #[.int .u8 ((0 : UInt8).toNat : Int)] 5)) w.heap.size 22 _ _ _ _ (oj.below ((Below.refl wr.heap.size wr).alloc (Nat.le_refl _) _) (Nat.le_refl _)) (some ⟨wr.heap.size, 0, none⟩) 1 1 _ (isB_one wr 0) (by intro h; cases h) (by omega) (by have := bj.size; simp; omega)
      have B6 : Below w.heap.size w w6 := bj.trans (s1.trans b6)
      have O6 : Hid (OwnB w.heap.size w6 a6 (len + (j + 1)) c6 (xs ++ List.replicate (j + 1) 0)) := by
        have e : xs ++ List.replicate (j + 1) (0 : UInt8) = xs ++ List.replicate j 0 ++ [0] := by rw [List.replicate_succ', List.append_assoc]
        show OwnB _ _ _ _ _ _
        rw [e]; exact o6
      rw [show ((0 : UInt8).toNat : Int) = 0 from rfl] at hap6
      clear s1 o6 b6 oj bj B4 o4
      go_wp2_with (at_builtin; refine wpList_app hap6 _ _ rfl rfl rfl rfl rfl ?_)
      go_roundw
      case rel => exact ⟨j + 1, a6, c6, by omega, rfl, O6.out, B6⟩
      case measure => simp; omega
    · have q3 : (((len : Int) + (j : Int) + 8) % 48 != 0) = false := by rw [bne_eq_false_iff_eq]; omega
      have ej : len + j = 48 * M - 8 := by omega
      have eb : xs ++ List.replicate j 0 = bodyN xs := by rw [hbd.out]; congr 2; omega
      have q3' : ((((48 * M - 8 : Nat) : Int) + 8) % 48 != 0) = false := by rw [bne_eq_false_iff_eq]; omega
      rw [ej, eb] at oj
      have e3 : (len : Int) + (j : Int) = ((48 * M - 8 : Nat) : Int) := by omega
      obtain ⟨w5, hW5⟩ : ∃ w5, wr.alloc (.cells #[.int .u8 (m.toNat : Int), .int .u8 0, .int .u8 (u1.toNat : Int), .int .u8 (u0.toNat : Int)] 5) = w5 := ⟨_, rfl⟩
      have J5 : IsB (wr.heap.size + 1) w5 (some ⟨wr.heap.size, 0, none⟩) 4 [m, 0, u1, u0] := by rw [← hW5]; exact isB_new wr [m, 0, u1, u0] 5 (0, 0)
      have s5 : Below w.heap.size wr w5 := by rw [← hW5]; exact (Below.refl _ wr).alloc bj.size _
      have s5' : Below wr.heap.size wr w5 := by rw [← hW5]; exact (Below.refl _ wr).alloc (Nat.le_refl _) _
      have z5 : w5.heap.size = wr.heap.size + 1 := by rw [← hW5]; simp
      obtain ⟨a6, c6, w6, hap6, o6, b6⟩ := run_app w5 w.heap.size 22 _ _ _ _ (oj.below s5' (Nat.le_refl _)) (some ⟨wr.heap.size, 0, none⟩) 4 4 _ J5 (by intro h; cases h) (by omega) (by have := bj.size; omega)
      have B6 : Below w.heap.size w w6 := bj.trans (s5.trans b6)
      rw [← HA.out, show 48 * M - 8 + 4 = 48 * M - 4 from by omega] at o6
      rw [show 48 * M - 8 + 4 = 48 * M - 4 from by omega, ← ej] at hap6
      have hc := longN_lt (aheadN xs m)
      have HL := reflong_calls a6 (48 * M - 4) c6 (aheadN xs m) w6 o6.isB.1 (Nat.le_refl _) (by omega)
      have HF : Hid (aheadN xs m ++ be4 (longN (aheadN xs m)) = frameN xs m) := rfl
      rw [be4_list] at HF
      generalize longN (aheadN xs m) = C at HL hc HF
      have i2 : (C : Int) / 65536 % 256 = ((UInt8.ofNat (C / 65536)).toNat : Int) := by rw [byteN]; omega
      have i1 : (C : Int) / 256 % 256 = ((UInt8.ofNat (C / 256)).toNat : Int) := by rw [byteN]; omega
      have i0 : (C : Int) % 256 = ((UInt8.ofNat C).toNat : Int) := by rw [byteN]; omega
      have i3 : (C : Int) / 16777216 = ((UInt8.ofNat (C / 16777216)).toNat : Int) := by rw [byteN]; omega
      generalize (UInt8.ofNat (C / 16777216)) = v3 at *
      generalize (UInt8.ofNat (C / 65536)) = v2 at *
      generalize (UInt8.ofNat (C / 256)) = v1 at *
      generalize (UInt8.ofNat C) = v0 at *
      clear z5 J5 s5 s5' b6 oj eb ej e3 q3' B4 o4 bj hlt hlm hlM
      go_wp2_with (at_builtin; refine wpList_app hap6 _ _ rfl rfl rfl rfl rfl ?_)
      refine HL.mono ?_
      rintro e w7 ⟨rfl, b7⟩
      obtain ⟨w8, hW8⟩ : ∃ w8, w7.alloc (.cells #[.int .u8 (v3.toNat : Int), .int .u8 (v2.toNat : Int), .int .u8 (v1.toNat : Int), .int .u8 (v0.toNat : Int)] 5) = w8 := ⟨_, rfl⟩
      have B7 : Below w.heap.size w w7 := B6.trans (b7.mono B6.size)
      have J8 : IsB (w7.heap.size + 1) w8 (some ⟨w7.heap.size, 0, none⟩) 4 [v3, v2, v1, v0] := by rw [← hW8]; exact isB_new w7 [v3, v2, v1, v0] 5 (0, 0)
      have s8 : Below w.heap.size w7 w8 := by rw [← hW8]; exact (Below.refl _ w7).alloc B7.size _
      have s8' : Below w7.heap.size w7 w8 := by rw [← hW8]; exact (Below.refl _ w7).alloc (Nat.le_refl _) _
      have z8 : w8.heap.size = w7.heap.size + 1 := by rw [← hW8]; simp
      obtain ⟨a9, c9, w9, hap9, o9, b9⟩ := run_app w8 w.heap.size 22 _ _ _ _ ((o6.below b7 (Nat.le_refl _)).below s8' (Nat.le_refl _)) (some ⟨w7.heap.size, 0, none⟩) 4 4 _ J8 (by intro h; cases h) (by omega) (by have := B7.size; omega)
      rw [HF.out, show 48 * M - 4 + 4 = 48 * M from by omega] at o9
      rw [show 48 * M - 4 + 4 = 48 * M from by omega] at hap9
      have B9 : Below w.heap.size w w9 := B7.trans (s8.trans b9)
      clear z8 J8 s8 s8' b9 b7 o6 hap6 hW5 B7 B6 q3
      go_wp2_with (at_builtin; refine wpList_app hap9 _ _ rfl rfl rfl rfl rfl ?_)
      go_ret2
      exact ⟨_, _, rfl, o9, B9⟩
end Go.Proofs.Ytdipffgmjmhjaaa
