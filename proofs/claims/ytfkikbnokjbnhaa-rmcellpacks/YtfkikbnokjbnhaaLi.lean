/- Proved here: what is lifted off a payload. Conditions: as each theorem states them. -/
import Derived.Test.YtfkikbnokjbnhaaLa
namespace Go.Proofs.Ytfkikbnokjbnhaa
set_option linter.unusedSimpArgs false
set_option linter.unusedVariables false
open Go.RowKit

/-- What has been lifted: so many flags, rates and numbers. -/
def lpN (p : List UInt8) (i j k : Nat) : Rm :=
  let r := liftN p
  ⟨decide (0 < i) && r.bk, decide (1 < i) && r.nr, decide (2 < i) && r.ci, decide (3 < i) && r.ni, decide (4 < i) && r.ra,
    if 0 < j then r.er else 0, if 1 < j then r.cc else 0, if 2 < j then r.mc else 0, if 0 < k then r.ql else 0, if 1 < k then r.sn else 0⟩
theorem lp_zero (p : List UInt8) : lpN p 0 0 0 = rm0 := rfl
theorem lp_all (p : List UInt8) : lpN p 5 3 2 = liftN p := rfl
theorem lp_flag (p : List UInt8) (i : Nat) (hi : i < 5) : (rmV (lpN p i 0 0)).setIfInBounds i (.bool (fgN (liftN p) i)) = rmV (lpN p (i + 1) 0 0) := by
  have : i = 0 ∨ i = 1 ∨ i = 2 ∨ i = 3 ∨ i = 4 := by omega
  rcases this with rfl | rfl | rfl | rfl | rfl <;> rfl
theorem lp_rate (p : List UInt8) (j : Nat) (hj : j < 3) : (rmV (lpN p 5 j 0)).setIfInBounds (5 + j) (.int .u16 (rtN (liftN p) j : Nat)) = rmV (lpN p 5 (j + 1) 0) := by
  have : j = 0 ∨ j = 1 ∨ j = 2 := by omega
  rcases this with rfl | rfl | rfl <;> rfl
theorem lp_num (p : List UInt8) (k : Nat) (hk : k < 2) : (rmV (lpN p 5 3 k)).setIfInBounds (8 + k) (.int .u32 (nuN (liftN p) k : Nat)) = rmV (lpN p 5 3 (k + 1)) := by
  have : k = 0 ∨ k = 1 := by omega
  rcases this with rfl | rfl <;> rfl

theorem and_flag (p : List UInt8) (i : Nat) (hi : i < 5) : ∃ m : Nat, bits .and .u8 (gN p 1 : Int) (128 / 2 ^ i) = (m : Int) ∧ ((m : Int) != 0) = fgN (liftN p) i := by
  have hx := gN_lt p 1
  have e : (128 : Int) / 2 ^ i = ((128 / 2 ^ i : Nat) : Int) := by simp
  have hb : ∀ j, gN p 1 &&& 2 ^ j = gN p 1 / 2 ^ j % 2 * 2 ^ j := fun j => nat_bit j _
  refine ⟨gN p 1 &&& (128 / 2 ^ i), ?_, ?_⟩
  · rw [e, u8_and_nat _ _ hx (Nat.lt_of_le_of_lt (Nat.div_le_self _ _) (by decide))]
  · have key : ∀ n m : Nat, 0 < m → ((((n % 2 * m : Nat) : Int)) != 0) = (n % 2 == 1) := by
      intro n m hm
      rcases Nat.mod_two_eq_zero_or_one n with h | h <;> rw [h]
      · simp
      · rw [Nat.one_mul]; simp; omega
    have : i = 0 ∨ i = 1 ∨ i = 2 ∨ i = 3 ∨ i = 4 := by omega
    rcases this with rfl | rfl | rfl | rfl | rfl
    · rw [show 128 / 2 ^ 0 = 2 ^ 7 from rfl, hb 7, key _ _ (by decide)]; rfl
    · rw [show 128 / 2 ^ 1 = 2 ^ 6 from rfl, hb 6, key _ _ (by decide)]; rfl
    · rw [show 128 / 2 ^ 2 = 2 ^ 5 from rfl, hb 5, key _ _ (by decide)]; rfl
    · rw [show 128 / 2 ^ 3 = 2 ^ 4 from rfl, hb 4, key _ _ (by decide)]; rfl
    · rw [show 128 / 2 ^ 4 = 2 ^ 3 from rfl, hb 3, key _ _ (by decide)]; rfl
theorem or_rate (x y : Nat) (hx : x < 256) (hy : y < 256) : bits .or .u16 ((x : Int) * 256) (y : Int) = ((x * 256 + y : Nat) : Int) := by
  rw [show (x : Int) * 256 = ((x * 256 : Nat) : Int) by simp, (bits_nat .u16 16 (by decide) wraps_u16 (x * 256) y (by omega) (by omega)).2]
  congr 1
  rw [show x * 256 = 2 ^ 8 * x by omega, ← Nat.two_pow_add_eq_or_of_lt (by omega)]
theorem wraps_u32 (n : Int) (h₀ : 0 ≤ n) (h₁ : n < 2 ^ 32) : IntKind.u32.wrap n = n := by rw [IntKind.wrap_u32]; omega
theorem or_num (x y e : Nat) (hx : x * 2 ^ e < 4294967296) (hy : y < 2 ^ e) (hy2 : y < 4294967296) : bits .or .u32 ((x * 2 ^ e : Nat) : Int) (y : Int) = ((x * 2 ^ e + y : Nat) : Int) := by
  rw [(bits_nat .u32 32 (by decide) wraps_u32 (x * 2 ^ e) y (by omega) (by omega)).2]
  congr 1
  rw [show x * 2 ^ e = 2 ^ e * x by rw [Nat.mul_comm], ← Nat.two_pow_add_eq_or_of_lt hy]
theorem or_three (y0 y1 y2 y3 : Nat) (x0 : y0 < 256) (x1 : y1 < 256) (x2 : y2 < 256) (x3 : y3 < 256) : ∃ n1 n2 : Nat,
    bits .or .u32 ((y0 : Int) * 16777216) ((y1 : Int) * 65536) = (n1 : Int) ∧ bits .or .u32 (n1 : Int) ((y2 : Int) * 256) = (n2 : Int) ∧ bits .or .u32 (n2 : Int) (y3 : Int) = ((((y0 * 256 + y1) * 256 + y2) * 256 + y3 : Nat) : Int) := by
  refine ⟨y0 * 2 ^ 24 + y1 * 2 ^ 16, y0 * 2 ^ 24 + y1 * 2 ^ 16 + y2 * 2 ^ 8, ?_, ?_, ?_⟩
  · have := or_num y0 (y1 * 2 ^ 16) 24 (by omega) (by omega) (by omega)
    rw [show ((y0 : Int) * 16777216) = ((y0 * 2 ^ 24 : Nat) : Int) by omega, show ((y1 : Int) * 65536) = ((y1 * 2 ^ 16 : Nat) : Int) by omega]
    exact this
  · have := or_num (y0 * 2 ^ 8 + y1) (y2 * 2 ^ 8) 16 (by omega) (by omega) (by omega)
    rw [show y0 * 2 ^ 24 + y1 * 2 ^ 16 = (y0 * 2 ^ 8 + y1) * 2 ^ 16 by omega, show ((y2 : Int) * 256) = ((y2 * 2 ^ 8 : Nat) : Int) by omega]
    exact this
  · have := or_num (y0 * 2 ^ 16 + y1 * 2 ^ 8 + y2) y3 8 (by omega) (by omega) (by omega)
    rw [show y0 * 2 ^ 24 + y1 * 2 ^ 16 + y2 * 2 ^ 8 = (y0 * 2 ^ 16 + y1 * 2 ^ 8 + y2) * 2 ^ 8 by omega, show ((y0 * 256 + y1) * 256 + y2) * 256 + y3 = (y0 * 2 ^ 16 + y1 * 2 ^ 8 + y2) * 2 ^ 8 + y3 by omega]
    exact this
theorem g_cell {w : World} {b : Nat} {ps : List UInt8} {t : TypeId} (h : BK w b (payV ps) t) (hl : ps.length = 48) (k : Nat) (hk : k < 48) : w.cell? ⟨b, k, none⟩ = some (.int .u8 (gN ps k : Nat)) := by
  have hx : ps[k]? = some (ps[k]'(by omega)) := by rw [List.getElem?_eq_getElem]
  have := h.payCell hx
  rw [this]; unfold gN; rw [hx]; rfl

set_option maxRecDepth 1000000 in
set_option maxHeartbeats 4000000 in
theorem lift_calls (p : List UInt8) (hl : p.length = 48) (w : World) : Calls Try.prog 30 #[.agg (payV p)] w fun e w' => e = .returned (.agg (rmV (liftN p))) ∧ Below w.heap.size w w' := by
  have K0 := ((bk_new w (payV p) 26).alloc (.cells (rmV rm0) 31)).alloc (.cells (rmV rm0) 31)
  have R0 := (bk_new (w.alloc (.cells (payV p) 26)) (rmV rm0) 31).alloc (.cells (rmV rm0) 31)
  have V0 := bk_new ((w.alloc (.cells (payV p) 26)).alloc (.cells (rmV rm0) 31)) (rmV rm0) 31
  have A0 : Below w.heap.size w (((w.alloc (.cells (payV p) 26)).alloc (.cells (rmV rm0) 31)).alloc (.cells (rmV rm0) 31)) := (((Below.refl _ w).alloc (Nat.le_refl _) _).alloc (by simp) _).alloc (by simp; omega) _
  simp only [World.size_alloc] at R0 V0
  have HL : Hid (p.length = 48) := hl
  clear hl
  go_enter Try.func30, Try.ntmps30
  go_wp2_with ((with_reducible show wpList _ _ _ (Oper.mk _ (Op.alloc 31) _ _ _ _ :: _) _ _; refine wpList_al rfl rfl zeroA ?_; (try simp only [Act.put, List.setIfInBounds_toArray, List.set_cons_zero, List.set_cons_succ, World.size_alloc])))
  refine (flags_calls _ _).mono ?_
  rintro e w1 ⟨rfl, b1⟩
  have K1 := K0.below b1 K0.lt
  have R1 := R0.below b1 R0.lt
  have V1 := V0.below b1 V0.lt
  have B1 : Below w.heap.size w w1 := A0.trans (b1.mono (by simp; omega))
  clear b1 K0 R0 V0 A0
  rw [← lp_zero p] at V1
  go_wp2
  go_loopw [12] (fun i wr => ∃ k : Nat, k ≤ 5 ∧ i = .int .i64 k ∧ BK wr w.heap.size (payV p) 26 ∧ BK wr (w.heap.size + 1) (rmV rm0) 31 ∧ BK wr (w.heap.size + 1 + 1) (rmV (lpN p k 0 0)) 31 ∧ Below w.heap.size w wr) (fun i _ => 5 - (intOf i).toNat)
  case atStart => exact ⟨0, by omega, rfl, K1, R1, V1, B1⟩
  case round =>
    obtain ⟨k, hk, rfl, Kk, Rk, Vk, Bk⟩ := hrel
    clear K1 R1 V1 B1
    by_cases hlt : k < 5
    · have c1 := g_cell Kk HL.out 1 (by decide)
      have hi := idxF_k (w.heap.size + 1 + 1) k hlt
      have fz := Vk.frozen k
      have cv := Vk.flag k hlt
      have hset := lp_flag p k hlt
      obtain ⟨m, hand, hne⟩ := and_flag p k hlt
      have V2 := Vk.set k (.bool (fgN (liftN p) k))
      rw [hset] at V2
      have K2 := Kk.setOther (p := ⟨w.heap.size + 1 + 1, k, none⟩) (show w.heap.size ≠ w.heap.size + 1 + 1 by omega) (.bool (fgN (liftN p) k))
      have R2 := Rk.setOther (p := ⟨w.heap.size + 1 + 1, k, none⟩) (show w.heap.size + 1 ≠ w.heap.size + 1 + 1 by omega) (.bool (fgN (liftN p) k))
      have B2 := Bk.setCell (p := ⟨w.heap.size + 1 + 1, k, none⟩) (show w.heap.size ≤ w.heap.size + 1 + 1 by omega) (.bool (fgN (liftN p) k))
      have HK : Hid (BK _ _ _ _ ∧ BK _ _ _ _ ∧ BK _ _ _ _ ∧ Below _ _ _) := ⟨K2, R2, V2, B2⟩
      clear hset Vk Kk Rk Bk K2 R2 V2 B2
      generalize fgN (liftN p) k = fb at *
      go_wp2
      go_region
      go_wp2
      go_roundw
      case rel => exact ⟨k + 1, by omega, by go_num, HK.out.1.drew, HK.out.2.1.drew, HK.out.2.2.1.drew, HK.out.2.2.2.drew⟩
      case measure => simp [intOf]; omega
    · obtain rfl : k = 5 := by omega
      clear hk hlt
      obtain ⟨wa, hwa⟩ : ∃ wa, wa = wr := ⟨_, rfl⟩
      subst hwa
      go_wp2_with fail
      refine (rates_calls _ _).mono ?_
      rintro e w2 ⟨rfl, b2⟩
      have K2 := Kk.below b2 Kk.lt
      have R2 := Rk.below b2 Rk.lt
      have V2 := Vk.below b2 Vk.lt
      have B2 : Below w.heap.size w w2 := Bk.trans (b2.mono Bk.size)
      clear b2 Kk Rk Vk Bk
      go_wp2
      go_loopw [6, 27] (fun v i wr => ∃ k l o : Nat, k ≤ 3 ∧ i = .int .i64 k ∧ o = 2 + 2 * k ∧ l = 46 - 2 * k ∧ v = .slice (some ⟨w.heap.size, o, none⟩) l l ∧ BK wr w.heap.size (payV p) 26 ∧ BK wr (w.heap.size + 1) (rmV rm0) 31 ∧ BK wr (w.heap.size + 1 + 1) (rmV (lpN p 5 k 0)) 31 ∧ Below w.heap.size w wr) (fun _ i _ => 3 - (intOf i).toNat)
      case atStart => exact ⟨0, 46, 2, by omega, rfl, rfl, rfl, rfl, K2, R2, V2, B2⟩
      case round =>
        obtain ⟨k, l, o, hk, rfl, ho, hl, rfl, Kk, Rk, Vk, Bk⟩ := hrel
        clear K2 R2 V2 B2
        by_cases hlt : k < 3
        · have hi := idxR_k (w.heap.size + 1 + 1) k hlt
          have fz := Vk.frozen (5 + k)
          have cv := Vk.rate k hlt
          have hset := lp_rate p k hlt
          have x0 := gN_lt p o
          have x1 := gN_lt p (o + 1)
          have hv : rtN (liftN p) k = gN p o * 256 + gN p (o + 1) := by
            subst ho
            have : k = 0 ∨ k = 1 ∨ k = 2 := by omega
            rcases this with rfl | rfl | rfl <;> rfl
          have c0 := g_cell Kk HL.out o (by omega)
          have c1 := g_cell Kk HL.out (o + 1) (by omega)
          have hor := or_rate (gN p o) (gN p (o + 1)) x0 x1
          rw [← hv] at hor
          have V2 := Vk.set (5 + k) (.int .u16 (rtN (liftN p) k : Nat))
          rw [hset] at V2
          have K2 := Kk.setOther (p := ⟨w.heap.size + 1 + 1, 5 + k, none⟩) (show w.heap.size ≠ w.heap.size + 1 + 1 by omega) (.int .u16 (rtN (liftN p) k : Nat))
          have R2 := Rk.setOther (p := ⟨w.heap.size + 1 + 1, 5 + k, none⟩) (show w.heap.size + 1 ≠ w.heap.size + 1 + 1 by omega) (.int .u16 (rtN (liftN p) k : Nat))
          have B2 := Bk.setCell (p := ⟨w.heap.size + 1 + 1, 5 + k, none⟩) (show w.heap.size ≤ w.heap.size + 1 + 1 by omega) (.int .u16 (rtN (liftN p) k : Nat))
          have HK : Hid (BK _ _ _ _ ∧ BK _ _ _ _ ∧ BK _ _ _ _ ∧ Below _ _ _) := ⟨K2, R2, V2, B2⟩
          have HO : Hid (o = 2 + 2 * k ∧ l = 46 - 2 * k) := ⟨ho, hl⟩
          have l2 : 2 ≤ l := by omega
          have l46 : l ≤ 46 := by omega
          have hw : IntKind.u16.wrap ((gN p o : Nat) * 256 : Int) = ((gN p o : Nat) : Int) * 256 := wraps_u16 _ (by omega) (by omega)
          clear hset Vk Kk Rk Bk K2 R2 V2 B2 ho hl hv
          generalize rtN (liftN p) k = z at *
          generalize gN p (o + 1) = y1 at *
          generalize gN p o = y0 at *
          go_wp2
          go_region
          go_wp2
          go_roundw
          case rel => exact ⟨k + 1, l - 2, o + 2, by omega, by go_num, by have := HO.out; omega, by have := HO.out; omega, by have := HO.out; rw [if_neg (by omega)], HK.out.1.drew, HK.out.2.1.drew, HK.out.2.2.1.drew, HK.out.2.2.2.drew⟩
          case measure => simp [intOf]; omega
        · obtain rfl : k = 3 := by omega
          have hol : o = 8 ∧ l = 40 := by omega
          obtain ⟨rfl, rfl⟩ := hol
          clear hk hlt ho hl
          obtain ⟨wb, hwb⟩ : ∃ wb, wb = wr := ⟨_, rfl⟩
          subst hwb
          go_wp2_with fail
          refine (numbers_calls _ _).mono ?_
          rintro e w3 ⟨rfl, b3⟩
          have K3 := Kk.below b3 Kk.lt
          have R3 := Rk.below b3 Rk.lt
          have V3 := Vk.below b3 Vk.lt
          have B3 : Below w.heap.size w w3 := Bk.trans (b3.mono Bk.size)
          clear b3 Kk Rk Vk Bk
          go_wp2
          go_loopw [6, 46] (fun v i wr => ∃ k l o : Nat, k ≤ 2 ∧ i = .int .i64 k ∧ o = 8 + 4 * k ∧ l = 40 - 4 * k ∧ v = .slice (some ⟨w.heap.size, o, none⟩) l l ∧ BK wr w.heap.size (payV p) 26 ∧ BK wr (w.heap.size + 1) (rmV rm0) 31 ∧ BK wr (w.heap.size + 1 + 1) (rmV (lpN p 5 3 k)) 31 ∧ Below w.heap.size w wr) (fun _ i _ => 2 - (intOf i).toNat)
          case atStart => exact ⟨0, 40, 8, by omega, rfl, rfl, rfl, rfl, K3, R3, V3, B3⟩
          case round =>
            obtain ⟨k, l, o, hk, rfl, ho, hl, rfl, Kk, Rk, Vk, Bk⟩ := hrel
            clear K3 R3 V3 B3
            by_cases hlt : k < 2
            · have hi := idxN_k (w.heap.size + 1 + 1) k hlt
              have fz := Vk.frozen (8 + k)
              have cv := Vk.num k hlt
              have hset := lp_num p k hlt
              have x0 := gN_lt p o
              have x1 := gN_lt p (o + 1)
              have x2 := gN_lt p (o + 2)
              have x3 := gN_lt p (o + 3)
              have hv : nuN (liftN p) k = ((gN p o * 256 + gN p (o + 1)) * 256 + gN p (o + 2)) * 256 + gN p (o + 3) := by
                subst ho
                have : k = 0 ∨ k = 1 := by omega
                rcases this with rfl | rfl <;> rfl
              have c0 := g_cell Kk HL.out o (by omega)
              have c1 := g_cell Kk HL.out (o + 1) (by omega)
              have c2 := g_cell Kk HL.out (o + 2) (by omega)
              have c3 := g_cell Kk HL.out (o + 3) (by omega)
              have V2 := Vk.set (8 + k) (.int .u32 (nuN (liftN p) k : Nat))
              rw [hset] at V2
              have K2 := Kk.setOther (p := ⟨w.heap.size + 1 + 1, 8 + k, none⟩) (show w.heap.size ≠ w.heap.size + 1 + 1 by omega) (.int .u32 (nuN (liftN p) k : Nat))
              have R2 := Rk.setOther (p := ⟨w.heap.size + 1 + 1, 8 + k, none⟩) (show w.heap.size + 1 ≠ w.heap.size + 1 + 1 by omega) (.int .u32 (nuN (liftN p) k : Nat))
              have B2 := Bk.setCell (p := ⟨w.heap.size + 1 + 1, 8 + k, none⟩) (show w.heap.size ≤ w.heap.size + 1 + 1 by omega) (.int .u32 (nuN (liftN p) k : Nat))
              have HK : Hid (BK _ _ _ _ ∧ BK _ _ _ _ ∧ BK _ _ _ _ ∧ Below _ _ _) := ⟨K2, R2, V2, B2⟩
              have HO : Hid (o = 8 + 4 * k ∧ l = 40 - 4 * k) := ⟨ho, hl⟩
              have l2 : 4 ≤ l := by omega
              have l46 : l ≤ 40 := by omega
              clear hset Vk Kk Rk Bk K2 R2 V2 B2 ho hl
              generalize nuN (liftN p) k = z at *
              generalize gN p (o + 1) = y1 at *
              generalize gN p (o + 2) = y2 at *
              generalize gN p (o + 3) = y3 at *
              generalize gN p o = y0 at *
              obtain ⟨n1, n2, o1, o2, o3⟩ := or_three y0 y1 y2 y3 x0 x1 x2 x3
              rw [← hv] at o3
              have q0 : IntKind.u32.wrap ((y0 : Int) * 16777216) = (y0 : Int) * 16777216 := wraps_u32 _ (by omega) (by omega)
              have q1 : IntKind.u32.wrap ((y1 : Int) * 65536) = (y1 : Int) * 65536 := wraps_u32 _ (by omega) (by omega)
              have q2 : IntKind.u32.wrap ((y2 : Int) * 256) = (y2 : Int) * 256 := wraps_u32 _ (by omega) (by omega)
              clear hv
              go_wp2
              go_region
              go_wp2
              go_roundw
              case rel => exact ⟨k + 1, l - 4, o + 4, by omega, by go_num, by have := HO.out; omega, by have := HO.out; omega, by have := HO.out; rw [if_neg (by omega)], HK.out.1.drew, HK.out.2.1.drew, HK.out.2.2.1.drew, HK.out.2.2.2.drew⟩
              case measure => simp [intOf]; omega
            · obtain rfl : k = 2 := by omega
              rw [lp_all] at Vk
              have HS : Hid (∀ v : Nat, v = v) := fun _ => rfl
              go_wp2_with (first | (with_reducible show wpList _ _ _ (Oper.mk _ (Op.load 31 _) _ _ _ _ :: _) _ _; refine wpList_ld rfl rfl rfl (run_ldA _ _ _ _ (by assumption)) ?_; (try simp only [Act.put, List.setIfInBounds_toArray, List.set_cons_zero, List.set_cons_succ, World.size_alloc])) | ((with_reducible show wpList _ _ _ (Oper.mk _ (Op.store 31 _ _) _ _ _ _ :: _) _ _; refine wpList_st rfl rfl rfl rfl (by assumption) (by rw [rmV_size]; exact sizeA) (by rw [rmV_size, rmV_size]) (rmV_one _) ?_); intro w4 K4 b4 but4 z4))
              refine bodyPost_ret (v := .agg (rmV (liftN p))) (results_cell_row Try.results30 _ _ _ _ _ _ _ rfl K4 Try.underlying31 rfl sizeA) rfl ⟨rfl, ?_⟩
              exact Bk.trans (b4 _ (Nat.le_succ _))
end Go.Proofs.Ytfkikbnokjbnhaa
