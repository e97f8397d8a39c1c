/- Proved here: the walk of FrameSizes. Conditions: as each theorem states them. -/
import Derived.Test.YtdipffgmjmhjaaaAwk
namespace Go.Proofs.Ytdipffgmjmhjaaa
set_option linter.unusedSimpArgs false
set_option linter.unusedVariables false
open Go.RowKit

theorem frame_take (t : List UInt8) (m : UInt8) : (frameN t m).take t.length = t := by
  rw [frame_flat]; simp [bodyN]
theorem frame_mark {t : List UInt8} (m : UInt8) (h : 1 ≤ t.length) : (frameN t m)[48 * manyN t.length - 8]? = some m := by
  rw [frame_flat, ← body_len h, List.getElem?_append_right (Nat.le_refl _)]; simp
theorem frame_zero {t : List UInt8} (m : UInt8) (h : 1 ≤ t.length) {i : Nat} (h1 : t.length ≤ i) (h2 : i < 48 * manyN t.length - 8) : (frameN t m)[i]? = some 0 := by
  rw [frame_flat, List.getElem?_append_left (by rw [body_len h]; exact h2)]
  unfold bodyN
  rw [List.getElem?_append_right h1, List.getElem?_replicate, if_pos]
  have := body_len h
  simp only [bodyN, List.length_append, List.length_replicate] at this
  omega
theorem many_mono (n : Nat) : manyN n ≤ manyN (n + 1) := by unfold manyN; split <;> split <;> omega
theorem many_more {n : Nat} (h : 1 ≤ n) : manyN (n + 48) = manyN n + 1 := by unfold manyN; split <;> split <;> omega

set_option maxHeartbeats 2000000 in
theorem sizes_walk (a1 : Option Addr) (len cap1 : Nat) (xs : List UInt8) (m : UInt8) (k : Nat) (hk : k < 65536) (w : World) (h1 : IsB w.heap.size w a1 len xs) (n1 : a1 = none → cap1 = 0) :
    Calls Try.prog 8 #[.slice a1 len cap1, .int .u8 (m.toNat : Int), .int .u16 (k : Int)] w fun e w' => e = .returned (.bool true) ∧ Below w.heap.size w w' := by
  by_cases g1 : 1000 < len
  · have q1 : decide (1000 < (len : Int)) = true := by simp; omega
    clear g1 h1
    go_enter Try.func8, Try.ntmps8
    go_wp2_with fail
    refine (awake_calls _).mono ?_
    rintro e w1 ⟨rfl, hb1⟩
    go_wp2_with fail
    refine (awake_calls _).mono ?_
    rintro e w2 ⟨rfl, hb2⟩
    go_wp2
    go_ret
    exact ⟨rfl, hb1.trans (hb2.mono hb1.size)⟩
  have q1 : decide (1000 < (len : Int)) = false := by simp; omega
  by_cases g0 : len = 0
  · subst g0
    clear g1 h1
    go_enter Try.func8, Try.ntmps8
    go_wp2_with fail
    refine (awake_calls _).mono ?_
    rintro e w1 ⟨rfl, hb1⟩
    go_wp2_with fail
    refine (awake_calls _).mono ?_
    rintro e w2 ⟨rfl, hb2⟩
    go_wp2
    go_ret
    exact ⟨rfl, hb1.trans (hb2.mono hb1.size)⟩
  have q0 : ((len : Int) == 0) = false := beq_eq_false_iff_ne.2 (by omega)
  have p1 : 1 ≤ len := by omega
  have p2 : len ≤ 1000 := by omega
  have lx := h1.1
  have hme := many_eq p1
  have HP : ∀ w1, Below w.heap.size w w1 → Calls Try.prog 10 #[.slice a1 len cap1, .int .u8 (m.toNat : Int)] w1 fun e w' => ∃ a' c', e = .returned (.tuple #[.slice a' (48 * manyN len) c', .int .i64 0]) ∧ OwnB w1.heap.size w' a' (48 * manyN len) c' (frameN xs m) ∧ Below w1.heap.size w1 w' := fun w1 b => pack_calls a1 len cap1 xs m w1 (h1.below b (Nat.le_refl _)) b.size n1 p1 p2
  have f1 : (frameN xs m)[48 * manyN len - 8]? = some m := by rw [lx]; exact frame_mark m (by omega)
  have f2 : ∀ i, len ≤ i → i < 48 * manyN len - 8 → (frameN xs m)[i]? = some 0 := fun i a b => frame_zero m (by omega) (by omega) (by rw [← lx]; exact b)
  have f3 : (frameN xs m).take len = xs := by rw [lx]; exact frame_take xs m
  have F2 : Hid (∀ i, len ≤ i → i < 48 * manyN len - 8 → (frameN xs m)[i]? = some 0) := f2
  obtain ⟨M, hM⟩ : ∃ M, manyN len = M := ⟨_, rfl⟩
  rw [hM] at HP hme f1 F2
  have hMb : M ≤ 21 := by omega
  have qm1 : decide (48 * (M : Int) < (len : Int) + 8) = false := by simp; omega
  have qm2 : decide ((len : Int) + 8 + 48 ≤ 48 * (M : Int)) = false := by simp; omega
  have qm3 : decide ((len : Int) + 56 ≤ 48 * (M : Int)) = false := by simp; omega
  have HMk := many_calls k (by omega)
  have HMk1 := many_calls (k + 1) (by omega)
  have HMk48 := many_calls (k + 48) (by omega)
  have hmm := many_mono k
  have hmb : manyN (k + 1) ≤ 1400 := by unfold manyN; split <;> omega
  have HQ : Hid (1 ≤ k → manyN (k + 48) = manyN k + 1) := fun h => many_more h
  have lM1 : len + 8 ≤ 48 * M := by omega
  have lM2 : 48 * M < len + 56 := by omega
  clear g0 g1 hM lx hme f2
  generalize manyN k = A at *
  generalize manyN (k + 1) = B at *
  generalize manyN (k + 48) = C at *
  go_enter Try.func8, Try.ntmps8
  go_wp2_with fail
  refine (awake_calls _).mono ?_
  rintro e w1 ⟨rfl, b1⟩
  go_wp2_with fail
  refine (HP _ b1).mono ?_
  rintro e w2 ⟨a2, c2, rfl, o2, b2⟩
  have B2 := b1.trans (b2.mono b1.size)
  have I2 := o2.isB
  obtain ⟨g, cur, rfl, hg, hgs, hcur⟩ := o2.block (by omega)
  have cellF : ∀ i x, (frameN xs m)[i]? = some x → w2.cell? ⟨g, i, none⟩ = some (.int .u8 (x.toNat : Int)) := by
    intro i x hx
    obtain ⟨b, off, e, _, hc⟩ := I2.1.cell hx
    cases e
    have := hc i x hx
    rwa [Nat.zero_add] at this
  have cM := cellF _ _ f1
  have hc2 := I2.2.2
  have IT : IsB w2.heap.size w2 (some ⟨g, 0, none⟩) len xs := by
    have := I2.1.take len (by have := I2.1.1; omega)
    rwa [f3] at this
  have CF : Hid (∀ i x, (frameN xs m)[i]? = some x → w2.cell? ⟨g, i, none⟩ = some (.int .u8 (x.toNat : Int))) := cellF
  clear HP cellF o2 hcur b1 b2 f1 f3 I2
  have e8 : ((48 * M : Nat) : Int) - 8 = ((48 * M - 8 : Nat) : Int) := by omega
  obtain ⟨mk, hmk⟩ : ∃ mk, m.toNat = mk := ⟨_, rfl⟩
  rw [hmk] at cM ⊢
  clear hmk
  go_wp2_with fail
  refine (same_calls _ _ _ _ _ _ _ _ _ IT (h1.below B2 (Nat.le_refl _)) (Nat.le_refl _) B2.size (by omega)).mono ?_
  rintro e w3 ⟨rfl, b3⟩
  rw [beq_self_eq_true]
  have B3 := B2.trans (b3.mono B2.size)
  have hg3 : g < w2.heap.size := hgs
  clear IT h1 cM
  go_wp2
  go_loopw [10] (fun iv wr => ∃ i : Nat, len ≤ i ∧ i ≤ 48 * M - 8 ∧ iv = .int .i64 i ∧ Below w3.heap.size w3 wr) (fun iv _ => 48 * M - (intOf iv).toNat)
  case atStart => exact ⟨len, Nat.le_refl _, by omega, rfl, Below.refl _ _⟩
  case round =>
    obtain ⟨i, hi1, hi2, rfl, bel⟩ := hrel
    by_cases hlt : i < 48 * M - 8
    · have ci : wr.cell? ⟨g, i, none⟩ = some (.int .u8 0) := by
        have e1 : w2.cell? ⟨g, i, none⟩ = some (.int .u8 (((0 : UInt8).toNat : Nat) : Int)) := CF.out i 0 (F2.out i hi1 hlt)
        rw [show (((0 : UInt8).toNat : Nat) : Int) = 0 from rfl] at e1
        exact (((b3.trans (bel.mono b3.size)).cell (p := ⟨g, i, none⟩) hg3)).trans e1
      have hlt' : (i : Int) < 48 * (M : Int) - 8 := by omega
      clear F2 CF qm1 qm2 qm3 B2 B3 b3
      go_wp2
      go_roundw
      case rel => exact ⟨i + 1, by omega, by omega, by go_num, bel⟩
      case measure => simp [intOf]; omega
    · obtain rfl : i = 48 * M - 8 := by omega
      have hge : ¬ (((48 * M - 8 : Nat) : Int) < 48 * (M : Int) - 8) := by omega
      have Br := B3.trans (bel.mono B3.size)
      have hAB : decide ((A : Int) ≤ (B : Int)) = true := by simp; omega
      clear F2 CF qm1 qm2 qm3 B2 B3 b3 bel
      by_cases hk1 : k < 1
      · have qk : decide ((k : Int) < 1) = true := by simp; omega
        go_wp2_with fail
        refine (HMk _).mono ?_
        rintro e w5 ⟨rfl, rfl⟩
        go_wp2_with fail
        refine (HMk1 _).mono ?_
        rintro e w6 ⟨rfl, rfl⟩
        go_wp2
        go_ret
        exact ⟨rfl, Br⟩
      · have qk : decide ((k : Int) < 1) = false := by simp; omega
        have hC := HQ.out (by omega)
        have qC : (((C : Nat) : Int) == (A : Int) + 1) = true := by rw [beq_iff_eq, hC]; simp
        have hA : A ≤ 1400 := by omega
        clear hC HQ
        go_wp2_with fail
        refine (HMk _).mono ?_
        rintro e w5 ⟨rfl, rfl⟩
        go_wp2_with fail
        refine (HMk1 _).mono ?_
        rintro e w6 ⟨rfl, rfl⟩
        go_wp2_with fail
        refine (HMk48 _).mono ?_
        rintro e w7 ⟨rfl, rfl⟩
        go_wp2_with fail
        refine (HMk _).mono ?_
        rintro e w8 ⟨rfl, rfl⟩
        go_wp2
        go_ret
        exact ⟨rfl, Br⟩
end Go.Proofs.Ytdipffgmjmhjaaa
