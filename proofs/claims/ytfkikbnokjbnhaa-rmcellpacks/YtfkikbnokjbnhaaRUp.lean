/- Proved here: what the document's Unpack of cells of rates answers. Conditions: as each theorem states them. -/
import Derived.Test.YtfkikbnokjbnhaaRPk
import Derived.Test.YtfkikbnokjbnhaaPu
namespace Go.Proofs.Ytfkikbnokjbnhaa
set_option linter.unusedSimpArgs false
set_option linter.unusedVariables false
open Go.RowKit

/-- So many bytes as a number. -/
def nuF (p : List UInt8) (i : Nat) : Nat → Nat
  | 0 => 0
  | k + 1 => nuF p i k * 256 + gN p (i + k)
theorem nuF_lt (p : List UInt8) (i : Nat) : ∀ k, nuF p i k < 256 ^ k
  | 0 => by simp [nuF]
  | k + 1 => by
    have h := nuF_lt p i k
    have := gN_lt p (i + k)
    rw [nuF, Nat.pow_succ]; omega
theorem nuF_le (p : List UInt8) (i k : Nat) (hk : k ≤ 4) : nuF p i k ≤ 4294967295 := by
  have := nuF_lt p i k
  have h2 := Nat.pow_le_pow_right (n := 256) (by decide) hk
  have h3 : 256 ^ 4 = 4294967296 := by decide
  omega

set_option maxHeartbeats 1000000 in
theorem number_calls (p : List UInt8) (hl : p.length = 48) (b i k c : Nat) (t : TypeId) (w : World) (hK : BK w b (payV p) t) (hik : i + k ≤ 48) (hk : k ≤ 4) :
    Calls Try.prog 31 #[.slice (some ⟨b, i, none⟩) k c] w fun e w' => e = .returned (.int .i64 (nuF p i k : Nat)) ∧ w' = w := by
  have HL : Hid (p.length = 48) := hl
  clear hl
  go_enter Try.func31, Try.ntmps31
  go_wp2
  go_loopw [3, 7] (fun v j wr => ∃ m x : Nat, m ≤ k ∧ j = .int .i64 m ∧ v = .int .i64 x ∧ Hid (x = nuF p i m) ∧ wr = w) (fun _ j _ => k - (intOf j).toNat)
  case atStart => exact ⟨0, 0, by omega, rfl, rfl, rfl, rfl⟩
  case round =>
    obtain ⟨m, x, hm, rfl, rfl, hx, rfl⟩ := hrel
    by_cases hlt : m < k
    · have c0 := g_cell hK HL.out (i + m) (by omega)
      have y0 := gN_lt p (i + m)
      have HX : Hid (x * 256 + gN p (i + m) = nuF p i (m + 1)) := by rw [Hid, hx.out]; rfl
      have hb : (x : Int) ≤ 4294967295 := by have := nuF_le p i m (by omega); have := hx.out; omega
      generalize gN p (i + m) = y at *
      clear hx
      go_wp2
      go_roundw
      case rel => exact ⟨m + 1, x * 256 + y, by omega, by go_num, by go_num, HX, trivial⟩
      case measure => simp [intOf]; omega
    · obtain rfl : m = k := by omega
      have HX : Hid (x = nuF p i m) := hx
      clear hx
      go_wp2
      go_ret
      exact ⟨ret_int (by rw [HX.out]), rfl⟩

theorem run_bldB (a b c d e : Bool) (w : World) : (Instr.build 25 #[(0, .bool a), (1, .bool b), (2, .bool c), (3, .bool d), (4, .bool e)]).run Try.prog w = .ok (.agg (rmV ⟨a, b, c, d, e, 0, 0, 0, 0, 0⟩)) w := by kernel_rfl
theorem run_eql_slice_nil (t e : TypeId) (a : Option Addr) (l c : Nat) (h : Try.prog.underlying t = some (.slice e)) (w : World) : (binOp .eql t (.slice a l c) (.slice none 0 0)).run Try.prog w = .ok (.bool a.isNone) w := by
  simp only [binOp]
  simp [run_equal_slice_nil w t e a l c h]
def alB (p : List UInt8) (k : Nat) : Bool := ((p.take k).drop 16).all (· == 106)
theorem al_start (p : List UInt8) : alB p 16 = true := by
  unfold alB
  rw [List.drop_of_length_le (by simp; omega)]; rfl
theorem al_next {p : List UInt8} {k : Nat} (hl : p.length = 48) (h : 16 ≤ k) (h2 : k < 48) : alB p (k + 1) = (alB p k && ((gN p k : Int) == 106)) := by
  have hx : p[k]? = some (p[k]'(by omega)) := by rw [List.getElem?_eq_getElem]
  have hg : gN p k = (p[k]'(by omega)).toNat := by unfold gN; rw [hx]; rfl
  unfold alB
  rw [take_snoc_of hx, List.drop_append_of_le_length (by simp; omega), List.all_append, hg]
  congr 1
  rw [Bool.eq_iff_iff]
  simp only [List.all_cons, List.all_nil, Bool.and_true, beq_iff_eq]
  rw [← UInt8.toNat_inj]
  show (_ = 106) ↔ _
  omega
theorem flag_eqs (x : Nat) (h : x < 256) : ((x : Int) / 128 == 1) = (x / 128 % 2 == 1) ∧ ((x : Int) / 64 % 2 == 1) = (x / 64 % 2 == 1) ∧ ((x : Int) / 32 % 2 == 1) = (x / 32 % 2 == 1) ∧ ((x : Int) / 16 % 2 == 1) = (x / 16 % 2 == 1) ∧ ((x : Int) / 8 % 2 == 1) = (x / 8 % 2 == 1) ∧
    ((x : Int) % 8 == 0) = (x % 8 == 0) ∧ ((x : Int) / 4 == 0) = (x / 4 == 0) := by
  refine ⟨?_, ?_, ?_, ?_, ?_, ?_, ?_⟩ <;> (rw [Bool.eq_iff_iff, beq_iff_eq, beq_iff_eq]; omega)

theorem nu_eqs (p : List UInt8) : nuF p 2 2 = rtN (liftN p) 0 ∧ nuF p 4 2 = rtN (liftN p) 1 ∧ nuF p 6 2 = rtN (liftN p) 2 ∧ nuF p 8 4 = nuN (liftN p) 0 ∧ nuF p 12 4 = nuN (liftN p) 1 := by
  simp [nuF, rtN, nuN, liftN]

set_option maxRecDepth 100000 in
set_option maxHeartbeats 8000000 in
theorem refunpack_calls (p : List UInt8) (hl : p.length = 48) (b : Nat) (w : World) (t : TypeId) (hK : BK w b (payV p) t) : Calls Try.prog 13 #[.slice (some ⟨b, 0, none⟩) 48 48] w fun e w' => e = .returned (.tuple #[.agg (rmV (unN p).1), .int .i64 ((unN p).2 : Nat)]) ∧ Below w.heap.size w w' := by
  have hb := hK.lt
  have K0 := hK.alloc (.cells (rmV rm0) 25)
  have R0 := bk_new w (rmV rm0) 25
  have A0 : Below w.heap.size w (w.alloc (.cells (rmV rm0) 25)) := (Below.refl _ w).alloc (Nat.le_refl _) _
  have HL : Hid (p.length = 48) := hl
  have HU : Hid (unN p = if sealN p ≠ p then (rm0, 4) else if gN p 0 ≠ 1 then (rm0, 12) else if payN (liftN p) ≠ p then (rm0, 5) else if canB (liftN p) = false then (rm0, 11) else (liftN p, 0)) := rfl
  obtain ⟨q, hq⟩ : ∃ q, unN p = q := ⟨_, rfl⟩
  rw [hq] at HU ⊢
  have I0 : IsB (w.alloc (.cells (rmV rm0) 25)).heap.size (w.alloc (.cells (rmV rm0) 25)) (some ⟨b, 0, none⟩) 48 p := by
    have := K0.pay
    rwa [hl] at this
  have HS := refseal_calls (some ⟨b, 0, none⟩) 48 p (w.alloc (.cells (rmV rm0) 25)) I0 (Nat.le_refl _) (by intro h; cases h)
  clear hq hK
  go_enter Try.func13, Try.ntmps13
  go_wp2_with ((with_reducible show wpList _ _ _ (Oper.mk _ (Op.alloc 25) _ _ _ _ :: _) _ _; refine wpList_al rfl rfl zeroB ?_; (try simp only [Act.put, List.setIfInBounds_toArray, List.set_cons_zero, List.set_cons_succ, World.size_alloc])))
  refine HS.mono ?_
  rintro e w1 ⟨a1, c1, rfl, I1, b1⟩
  have K1 := K0.below b1 K0.lt
  have R1 := R0.below b1 R0.lt
  have B1 : Below w.heap.size w w1 := A0.trans (b1.mono (by simp))
  have J1 := I0.below b1 (Nat.le_refl _)
  have HM := same_calls a1 (some ⟨b, 0, none⟩) 48 c1 48 48 (sealN p) p w1 I1 J1 (Nat.le_refl _) b1.size (by decide)
  clear HS I0 I1 J1 b1 K0 R0 A0
  go_wp2_with fail
  refine HM.mono ?_
  rintro e w2 ⟨rfl, b2⟩
  have K2 := K1.below b2 K1.lt
  have R2 := R1.below b2 R1.lt
  have B2 : Below w.heap.size w w2 := B1.trans (b2.mono B1.size)
  clear HM b2 K1 R1 B1
  by_cases h1 : sealN p = p
  · rw [show (sealN p == p) = true from beq_iff_eq.2 h1]
    have HU1 : Hid (q = if gN p 0 ≠ 1 then (rm0, 12) else if payN (liftN p) ≠ p then (rm0, 5) else if canB (liftN p) = false then (rm0, 11) else (liftN p, 0)) := HU.out.trans (if_neg (fun h => h h1))
    have HP : Hid (sealN p = p) := h1
    clear HU h1
    have c0 := g_cell K2 HL.out 0 (by decide)
    by_cases h2 : gN p 0 = 1
    · have hfix := fix_iff hl HP.out h2
      rw [h2] at c0
      have HU2 : Hid (q = if fixB p = false then (rm0, 5) else if canB (liftN p) = false then (rm0, 11) else (liftN p, 0)) := by
        rw [Hid, HU1.out, if_neg (fun h => h h2)]
        cases hf : fixB p
        · rw [if_pos (fun h => by have := hfix.1 h; rw [hf] at this; cases this), if_pos rfl]
        · rw [if_neg (fun h => h (hfix.2 hf)), if_neg (show ¬ true = false by decide)]
      clear HU1 h2 hfix HP
      have cx := g_cell K2 HL.out 1 (by decide)
      have hx := gN_lt p 1
      obtain ⟨d1, d2, d3, d4, d5, d6, _⟩ := flag_eqs (gN p 1) hx
      have V3 := bk_new w2 (rmV (lpN p 5 0 0)) 25
      have K3 := K2.alloc (.cells (rmV (lpN p 5 0 0)) 25)
      have R3 := R2.alloc (.cells (rmV (lpN p 5 0 0)) 25)
      have B3 := B2.alloc B2.size (.cells (rmV (lpN p 5 0 0)) 25)
      have z3 : (w2.alloc (.cells (rmV (lpN p 5 0 0)) 25)).heap.size = w2.heap.size + 1 := by simp
      have s2 := B2.size
      have r2 := R2.lt
      have hlp : (⟨(gN p 1 / 128 % 2 == 1), (gN p 1 / 64 % 2 == 1), (gN p 1 / 32 % 2 == 1), (gN p 1 / 16 % 2 == 1), (gN p 1 / 8 % 2 == 1), 0, 0, 0, 0, 0⟩ : Rm) = lpN p 5 0 0 := rfl
      obtain ⟨w3, hw3⟩ : ∃ w3, w2.alloc (.cells (rmV (lpN p 5 0 0)) 25) = w3 := ⟨_, rfl⟩
      rw [hw3] at V3 K3 R3 B3 z3
      go_wp2_with (first | (with_reducible show wpList _ _ _ (Oper.mk _ (Op.build 25 _) _ _ _ _ :: _) _ _; refine wpList_bld (vs := [(0, .bool _), (1, .bool _), (2, .bool _), (3, .bool _), (4, .bool _)]) rfl rfl rfl (run_bldB _ _ _ _ _ _) ?_; (try simp only [Act.put, List.setIfInBounds_toArray, List.set_cons_zero, List.set_cons_succ, World.size_alloc])) | (with_reducible show wpList _ _ _ (Oper.mk _ (Op.alloc 25) _ _ _ _ :: Oper.mk _ (Op.store 25 _ _) _ _ _ _ :: _) _ _; refine wpList_def rfl rfl rfl rfl rfl zeroB (by rw [rmV_size]; exact sizeB) (by first | (with_reducible rfl) | rw [rmV_size, rmV_size]) (rmV_one _) rfl ?_; (try simp only [Act.put, List.setIfInBounds_toArray, List.set_cons_zero, List.set_cons_succ, World.size_alloc])))
      obtain ⟨n0, n1, n2, n3, n4⟩ := nu_eqs p
      clear d1 d2 d3 d4 d5 d6 hlp cx hx c0 hw3
      refine (number_calls p HL.out b 2 2 _ _ w3 K3 (by decide) (by decide)).mono ?_
      rintro e u0 ⟨rfl, rfl⟩
      rw [n0]
      have fz := V3.frozen 5
      have cv := V3.rate 0 (by decide)
      have V4 := V3.set 5 (.int .u16 (rtN (liftN p) 0 : Nat))
      rw [lp_rate p 0 (by decide)] at V4
      have K4 := K3.setOther (p := ⟨w2.heap.size, 5, none⟩) (show b ≠ w2.heap.size by omega) (.int .u16 (rtN (liftN p) 0 : Nat))
      have R4 := R3.setOther (p := ⟨w2.heap.size, 5, none⟩) (show w.heap.size ≠ w2.heap.size by omega) (.int .u16 (rtN (liftN p) 0 : Nat))
      have B4 := B3.setCell (p := ⟨w2.heap.size, 5, none⟩) (show w.heap.size ≤ w2.heap.size by omega) (.int .u16 (rtN (liftN p) 0 : Nat))
      have hwr : IntKind.u16.wrap ((rtN (liftN p) 0 : Nat) : Int) = ((rtN (liftN p) 0 : Nat) : Int) := wraps_u16 _ (by omega) (by have := rt_lt (lift_ok p) 0; omega)
      have hlt := rt_lt (lift_ok p) 0
      obtain ⟨y0, hy0⟩ : ∃ z, u0.setCell ⟨w2.heap.size, 5, none⟩ (.int .u16 (rtN (liftN p) 0 : Nat)) = z := ⟨_, rfl⟩
      rw [hy0] at V4 K4 R4 B4
      clear V3 K3 R3 B3 n0
      have V3 := V4
      have K3 := K4
      have R3 := R4
      have B3 := B4
      clear V4 K4 R4 B4
      generalize rtN (liftN p) 0 = z at *
      go_wp2_with fail
      clear fz cv hwr hlt hy0
      refine (number_calls p HL.out b 4 2 _ _ y0 K3 (by decide) (by decide)).mono ?_
      rintro e u1 ⟨rfl, rfl⟩
      rw [n1]
      have fz := V3.frozen 6
      have cv := V3.rate 1 (by decide)
      have V4 := V3.set 6 (.int .u16 (rtN (liftN p) 1 : Nat))
      rw [lp_rate p 1 (by decide)] at V4
      have K4 := K3.setOther (p := ⟨w2.heap.size, 6, none⟩) (show b ≠ w2.heap.size by omega) (.int .u16 (rtN (liftN p) 1 : Nat))
      have R4 := R3.setOther (p := ⟨w2.heap.size, 6, none⟩) (show w.heap.size ≠ w2.heap.size by omega) (.int .u16 (rtN (liftN p) 1 : Nat))
      have B4 := B3.setCell (p := ⟨w2.heap.size, 6, none⟩) (show w.heap.size ≤ w2.heap.size by omega) (.int .u16 (rtN (liftN p) 1 : Nat))
      have hwr : IntKind.u16.wrap ((rtN (liftN p) 1 : Nat) : Int) = ((rtN (liftN p) 1 : Nat) : Int) := wraps_u16 _ (by omega) (by have := rt_lt (lift_ok p) 1; omega)
      have hlt := rt_lt (lift_ok p) 1
      obtain ⟨y1, hy1⟩ : ∃ z, u1.setCell ⟨w2.heap.size, 6, none⟩ (.int .u16 (rtN (liftN p) 1 : Nat)) = z := ⟨_, rfl⟩
      rw [hy1] at V4 K4 R4 B4
      clear V3 K3 R3 B3 n1
      have V3 := V4
      have K3 := K4
      have R3 := R4
      have B3 := B4
      clear V4 K4 R4 B4
      generalize rtN (liftN p) 1 = z at *
      go_wp2_with fail
      clear fz cv hwr hlt hy1
      refine (number_calls p HL.out b 6 2 _ _ y1 K3 (by decide) (by decide)).mono ?_
      rintro e u2 ⟨rfl, rfl⟩
      rw [n2]
      have fz := V3.frozen 7
      have cv := V3.rate 2 (by decide)
      have V4 := V3.set 7 (.int .u16 (rtN (liftN p) 2 : Nat))
      rw [lp_rate p 2 (by decide)] at V4
      have K4 := K3.setOther (p := ⟨w2.heap.size, 7, none⟩) (show b ≠ w2.heap.size by omega) (.int .u16 (rtN (liftN p) 2 : Nat))
      have R4 := R3.setOther (p := ⟨w2.heap.size, 7, none⟩) (show w.heap.size ≠ w2.heap.size by omega) (.int .u16 (rtN (liftN p) 2 : Nat))
      have B4 := B3.setCell (p := ⟨w2.heap.size, 7, none⟩) (show w.heap.size ≤ w2.heap.size by omega) (.int .u16 (rtN (liftN p) 2 : Nat))
      have hwr : IntKind.u16.wrap ((rtN (liftN p) 2 : Nat) : Int) = ((rtN (liftN p) 2 : Nat) : Int) := wraps_u16 _ (by omega) (by have := rt_lt (lift_ok p) 2; omega)
      have hlt := rt_lt (lift_ok p) 2
      obtain ⟨y2, hy2⟩ : ∃ z, u2.setCell ⟨w2.heap.size, 7, none⟩ (.int .u16 (rtN (liftN p) 2 : Nat)) = z := ⟨_, rfl⟩
      rw [hy2] at V4 K4 R4 B4
      clear V3 K3 R3 B3 n2
      have V3 := V4
      have K3 := K4
      have R3 := R4
      have B3 := B4
      clear V4 K4 R4 B4
      generalize rtN (liftN p) 2 = z at *
      go_wp2_with fail
      clear fz cv hwr hlt hy2
      refine (number_calls p HL.out b 8 4 _ _ y2 K3 (by decide) (by decide)).mono ?_
      rintro e u3 ⟨rfl, rfl⟩
      rw [n3]
      have fz := V3.frozen 8
      have cv := V3.num 0 (by decide)
      have V4 := V3.set 8 (.int .u32 (nuN (liftN p) 0 : Nat))
      rw [lp_num p 0 (by decide)] at V4
      have K4 := K3.setOther (p := ⟨w2.heap.size, 8, none⟩) (show b ≠ w2.heap.size by omega) (.int .u32 (nuN (liftN p) 0 : Nat))
      have R4 := R3.setOther (p := ⟨w2.heap.size, 8, none⟩) (show w.heap.size ≠ w2.heap.size by omega) (.int .u32 (nuN (liftN p) 0 : Nat))
      have B4 := B3.setCell (p := ⟨w2.heap.size, 8, none⟩) (show w.heap.size ≤ w2.heap.size by omega) (.int .u32 (nuN (liftN p) 0 : Nat))
      have hwr : IntKind.u32.wrap ((nuN (liftN p) 0 : Nat) : Int) = ((nuN (liftN p) 0 : Nat) : Int) := wraps_u32 _ (by omega) (by have := nu_lt (lift_ok p) 0; omega)
      have hlt := nu_lt (lift_ok p) 0
      obtain ⟨y3, hy3⟩ : ∃ z, u3.setCell ⟨w2.heap.size, 8, none⟩ (.int .u32 (nuN (liftN p) 0 : Nat)) = z := ⟨_, rfl⟩
      rw [hy3] at V4 K4 R4 B4
      clear V3 K3 R3 B3 n3
      have V3 := V4
      have K3 := K4
      have R3 := R4
      have B3 := B4
      clear V4 K4 R4 B4
      generalize nuN (liftN p) 0 = z at *
      go_wp2_with fail
      clear fz cv hwr hlt hy3
      refine (number_calls p HL.out b 12 4 _ _ y3 K3 (by decide) (by decide)).mono ?_
      rintro e u4 ⟨rfl, rfl⟩
      rw [n4]
      have fz := V3.frozen 9
      have cv := V3.num 1 (by decide)
      have V4 := V3.set 9 (.int .u32 (nuN (liftN p) 1 : Nat))
      rw [lp_num p 1 (by decide)] at V4
      have K4 := K3.setOther (p := ⟨w2.heap.size, 9, none⟩) (show b ≠ w2.heap.size by omega) (.int .u32 (nuN (liftN p) 1 : Nat))
      have R4 := R3.setOther (p := ⟨w2.heap.size, 9, none⟩) (show w.heap.size ≠ w2.heap.size by omega) (.int .u32 (nuN (liftN p) 1 : Nat))
      have B4 := B3.setCell (p := ⟨w2.heap.size, 9, none⟩) (show w.heap.size ≤ w2.heap.size by omega) (.int .u32 (nuN (liftN p) 1 : Nat))
      have hwr : IntKind.u32.wrap ((nuN (liftN p) 1 : Nat) : Int) = ((nuN (liftN p) 1 : Nat) : Int) := wraps_u32 _ (by omega) (by have := nu_lt (lift_ok p) 1; omega)
      have hlt := nu_lt (lift_ok p) 1
      obtain ⟨y4, hy4⟩ : ∃ z, u4.setCell ⟨w2.heap.size, 9, none⟩ (.int .u32 (nuN (liftN p) 1 : Nat)) = z := ⟨_, rfl⟩
      rw [hy4] at V4 K4 R4 B4
      clear V3 K3 R3 B3 n4
      have V3 := V4
      have K3 := K4
      have R3 := R4
      have B3 := B4
      clear V4 K4 R4 B4
      generalize nuN (liftN p) 1 = z at *
      have c46 := g_cell K3 HL.out 46 (by decide)
      obtain ⟨_, _, _, _, _, e6, _⟩ := flag_eqs (gN p 1) (gN_lt p 1)
      obtain ⟨_, _, _, _, _, _, e7⟩ := flag_eqs (gN p 46) (gN_lt p 46)
      obtain ⟨fa, hfa⟩ : ∃ fa, (gN p 1 % 8 == 0) = fa := ⟨_, rfl⟩
      obtain ⟨fb, hfb⟩ : ∃ fb, (gN p 46 / 4 == 0) = fb := ⟨_, rfl⟩
      have HX : Hid (fixB p = (fa && (fb && alB p 46))) := by rw [Hid, ← hfa, ← hfb]; rfl
      rw [hfa] at e6
      rw [hfb] at e7
      clear hfa hfb
      have hx1 := gN_lt p 1
      have hx46 := gN_lt p 46
      cases fa
      · go_wp2
        clear fz cv hwr hlt hy4
        go_loopw [6, 7] (fun fv iv wr => ∃ (k : Nat) (f : Bool), 16 ≤ k ∧ k ≤ 46 ∧ fv = .bool f ∧ iv = .int .i64 k ∧ Hid (f = (false && fb && alB p k)) ∧ wr = y4) (fun _ iv _ => 46 - (intOf iv).toNat)
        case atStart => exact ⟨16, false, by decide, by decide, rfl, rfl, by rw [Hid, al_start, Bool.and_true]; rfl, rfl⟩
        case round =>
          obtain ⟨k, f, k16, k46, rfl, rfl, hF, rfl⟩ := hrel
          by_cases hlt : k < 46
          · obtain ⟨g, hg⟩ : ∃ g, ((gN p k : Int) == 106) = g := ⟨_, rfl⟩
            have hn : alB p (k + 1) = (alB p k && g) := by rw [← hg]; exact al_next HL.out k16 (by omega)
            have c := g_cell K3 HL.out k (by omega)
            have HG : Hid ((f && g) = (false && fb && alB p (k + 1))) := by rw [Hid, hn, hF.out, Bool.and_assoc]
            clear hn hF c46
            generalize gN p k = xk at *
            cases f
            · clear c hg
              go_wp2
              go_roundw
              case rel => exact ⟨k + 1, false, by omega, by omega, rfl, by go_num, HG.out, trivial⟩
              case measure => simp [intOf]; omega
            · go_wp2
              go_roundw
              case rel => exact ⟨k + 1, g, by omega, by omega, rfl, by go_num, HG.out, trivial⟩
              case measure => simp [intOf]; omega
          · obtain rfl : k = 46 := by omega
            have HF2 : Hid (f = fixB p) := by rw [Hid, HX.out, hF.out, Bool.and_assoc]
            clear hF c46
            cases f
            · have HQ : Hid (q = (rm0, 5)) := HU2.out.trans (if_pos HF2.out.symm)
              clear HU2 HF2
              go_wp2_with (first | (with_reducible show wpList _ _ _ (Oper.mk _ (Op.build 25 _) _ _ _ _ :: _) _ _; refine wpList_bld (vs := []) rfl rfl rfl (run_bzB _) ?_; (try simp only [Act.put, List.setIfInBounds_toArray, List.set_cons_zero, List.set_cons_succ, World.size_alloc])) | ((with_reducible show wpList _ _ _ (Oper.mk _ (Op.store 25 _ _) _ _ _ _ :: _) _ _; refine wpList_st rfl rfl rfl rfl (by assumption) (by rw [rmV_size]; exact sizeB) (by first | (with_reducible rfl) | rw [rmV_size, rmV_size]) (rmV_one _) ?_); intro w4 K4 b4 but4 z4))
              refine bodyPost_ret (v := .tuple #[.agg (rmV rm0), .int .i64 5]) (results_cell_tmp_row Try.results13 _ _ _ _ _ _ _ _ rfl rfl K4 Try.underlying25 rfl sizeB) rfl ⟨by rw [HQ.out]; rfl, ?_⟩
              exact B3.trans (b4 _ (Nat.le_refl _))
            · have HU3 : Hid (q = if canB (liftN p) = false then (rm0, 11) else (liftN p, 0)) := HU2.out.trans (if_neg (by rw [← HF2.out]; decide))
              clear HU2 HF2
              rw [lp_all] at V3
              cases hc : canB (liftN p) with
              | false =>
                have HQ : Hid (q = (rm0, 11)) := HU3.out.trans (if_pos hc)
                have HP := fun w => refpack_no (liftN p) (lift_ok p) hc w
                have hnil : ∀ w, (binOp .eql 32 (.slice none 0 0) (.slice none 0 0)).run Try.prog w = .ok (.bool true) w := run_eql_slice_nil _ _ _ _ _ Try.underlying32
                clear HU3 hc
                go_wp2_with ((with_reducible show wpList _ _ _ (Oper.mk _ (Op.load 25 _) _ _ _ _ :: _) _ _; refine wpList_ld rfl rfl rfl (run_ldB _ _ _ _ (by assumption)) ?_; (try simp only [Act.put, List.setIfInBounds_toArray, List.set_cons_zero, List.set_cons_succ, World.size_alloc])))
                refine (HP _).mono ?_
                rintro e w6 ⟨rfl, b6⟩
                have R6 := R3.below b6 R3.lt
                have B6 : Below w.heap.size w w6 := B3.trans (b6.mono B3.size)
                clear b6 V3 R3 B3 K3
                go_wp2_with (first | (with_reducible show wpList _ _ _ (Oper.mk _ (Op.build 25 _) _ _ _ _ :: _) _ _; refine wpList_bld (vs := []) rfl rfl rfl (run_bzB _) ?_; (try simp only [Act.put, List.setIfInBounds_toArray, List.set_cons_zero, List.set_cons_succ, World.size_alloc])) | ((with_reducible show wpList _ _ _ (Oper.mk _ (Op.store 25 _ _) _ _ _ _ :: _) _ _; refine wpList_st rfl rfl rfl rfl (by assumption) (by rw [rmV_size]; exact sizeB) (by first | (with_reducible rfl) | rw [rmV_size, rmV_size]) (rmV_one _) ?_); intro w4 K4 b4 but4 z4))
                refine bodyPost_ret (v := .tuple #[.agg (rmV rm0), .int .i64 11]) (results_cell_tmp_row Try.results13 _ _ _ _ _ _ _ _ rfl rfl K4 Try.underlying25 rfl sizeB) rfl ⟨by rw [HQ.out]; rfl, ?_⟩
                exact B6.trans (b4 _ (Nat.le_refl _))
              | true =>
                have HQ : Hid (q = (liftN p, 0)) := HU3.out.trans (if_neg (by rw [hc]; decide))
                have HP := fun w => refpack_yes (liftN p) (lift_ok p) hc w
                clear HU3 hc
                go_wp2_with ((with_reducible show wpList _ _ _ (Oper.mk _ (Op.load 25 _) _ _ _ _ :: _) _ _; refine wpList_ld rfl rfl rfl (run_ldB _ _ _ _ (by assumption)) ?_; (try simp only [Act.put, List.setIfInBounds_toArray, List.set_cons_zero, List.set_cons_succ, World.size_alloc])))
                refine (HP _).mono ?_
                rintro e w6 ⟨a6, c6, rfl, I6, b6⟩
                have V6 := V3.below b6 V3.lt
                have R6 := R3.below b6 R3.lt
                have B6 : Below w.heap.size w w6 := B3.trans (b6.mono B3.size)
                obtain ⟨gb, go, rfl, _, _⟩ := I6.cell (k := 0) (x := (payN (liftN p))[0]'(by rw [pay_len]; decide)) (by rw [List.getElem?_eq_getElem])
                have hnil : ∀ w, (binOp .eql 32 (.slice (some ⟨gb, go, none⟩) 48 c6) (.slice none 0 0)).run Try.prog w = .ok (.bool false) w := run_eql_slice_nil _ _ _ _ _ Try.underlying32
                clear b6 V3 R3 B3 K3 I6
                go_wp2_with (first | (with_reducible show wpList _ _ _ (Oper.mk _ (Op.load 25 _) _ _ _ _ :: _) _ _; refine wpList_ld rfl rfl rfl (run_ldB _ _ _ _ (by assumption)) ?_; (try simp only [Act.put, List.setIfInBounds_toArray, List.set_cons_zero, List.set_cons_succ, World.size_alloc])) | ((with_reducible show wpList _ _ _ (Oper.mk _ (Op.store 25 _ _) _ _ _ _ :: _) _ _; refine wpList_st rfl rfl rfl rfl (by assumption) (by rw [rmV_size]; exact sizeB) (by first | (with_reducible rfl) | rw [rmV_size, rmV_size]) (rmV_one _) ?_); intro w4 K4 b4 but4 z4))
                refine bodyPost_ret (v := .tuple #[.agg (rmV (liftN p)), .int .i64 0]) (results_cell_tmp_row Try.results13 _ _ _ _ _ _ _ _ rfl rfl K4 Try.underlying25 rfl sizeB) rfl ⟨by rw [HQ.out]; rfl, ?_⟩
                exact B6.trans (b4 _ (Nat.le_refl _))
      · go_wp2
        clear fz cv hwr hlt hy4
        go_loopw [6, 7] (fun fv iv wr => ∃ (k : Nat) (f : Bool), 16 ≤ k ∧ k ≤ 46 ∧ fv = .bool f ∧ iv = .int .i64 k ∧ Hid (f = (true && fb && alB p k)) ∧ wr = y4) (fun _ iv _ => 46 - (intOf iv).toNat)
        case atStart => exact ⟨16, fb, by decide, by decide, rfl, rfl, by rw [Hid, al_start, Bool.and_true]; rfl, rfl⟩
        case round =>
          obtain ⟨k, f, k16, k46, rfl, rfl, hF, rfl⟩ := hrel
          by_cases hlt : k < 46
          · obtain ⟨g, hg⟩ : ∃ g, ((gN p k : Int) == 106) = g := ⟨_, rfl⟩
            have hn : alB p (k + 1) = (alB p k && g) := by rw [← hg]; exact al_next HL.out k16 (by omega)
            have c := g_cell K3 HL.out k (by omega)
            have HG : Hid ((f && g) = (true && fb && alB p (k + 1))) := by rw [Hid, hn, hF.out, Bool.and_assoc]
            clear hn hF c46
            generalize gN p k = xk at *
            cases f
            · clear c hg
              go_wp2
              go_roundw
              case rel => exact ⟨k + 1, false, by omega, by omega, rfl, by go_num, HG.out, trivial⟩
              case measure => simp [intOf]; omega
            · go_wp2
              go_roundw
              case rel => exact ⟨k + 1, g, by omega, by omega, rfl, by go_num, HG.out, trivial⟩
              case measure => simp [intOf]; omega
          · obtain rfl : k = 46 := by omega
            have HF2 : Hid (f = fixB p) := by rw [Hid, HX.out, hF.out, Bool.and_assoc]
            clear hF c46
            cases f
            · have HQ : Hid (q = (rm0, 5)) := HU2.out.trans (if_pos HF2.out.symm)
              clear HU2 HF2
              go_wp2_with (first | (with_reducible show wpList _ _ _ (Oper.mk _ (Op.build 25 _) _ _ _ _ :: _) _ _; refine wpList_bld (vs := []) rfl rfl rfl (run_bzB _) ?_; (try simp only [Act.put, List.setIfInBounds_toArray, List.set_cons_zero, List.set_cons_succ, World.size_alloc])) | ((with_reducible show wpList _ _ _ (Oper.mk _ (Op.store 25 _ _) _ _ _ _ :: _) _ _; refine wpList_st rfl rfl rfl rfl (by assumption) (by rw [rmV_size]; exact sizeB) (by first | (with_reducible rfl) | rw [rmV_size, rmV_size]) (rmV_one _) ?_); intro w4 K4 b4 but4 z4))
              refine bodyPost_ret (v := .tuple #[.agg (rmV rm0), .int .i64 5]) (results_cell_tmp_row Try.results13 _ _ _ _ _ _ _ _ rfl rfl K4 Try.underlying25 rfl sizeB) rfl ⟨by rw [HQ.out]; rfl, ?_⟩
              exact B3.trans (b4 _ (Nat.le_refl _))
            · have HU3 : Hid (q = if canB (liftN p) = false then (rm0, 11) else (liftN p, 0)) := HU2.out.trans (if_neg (by rw [← HF2.out]; decide))
              clear HU2 HF2
              rw [lp_all] at V3
              cases hc : canB (liftN p) with
              | false =>
                have HQ : Hid (q = (rm0, 11)) := HU3.out.trans (if_pos hc)
                have HP := fun w => refpack_no (liftN p) (lift_ok p) hc w
                have hnil : ∀ w, (binOp .eql 32 (.slice none 0 0) (.slice none 0 0)).run Try.prog w = .ok (.bool true) w := run_eql_slice_nil _ _ _ _ _ Try.underlying32
                clear HU3 hc
                go_wp2_with ((with_reducible show wpList _ _ _ (Oper.mk _ (Op.load 25 _) _ _ _ _ :: _) _ _; refine wpList_ld rfl rfl rfl (run_ldB _ _ _ _ (by assumption)) ?_; (try simp only [Act.put, List.setIfInBounds_toArray, List.set_cons_zero, List.set_cons_succ, World.size_alloc])))
                refine (HP _).mono ?_
                rintro e w6 ⟨rfl, b6⟩
                have R6 := R3.below b6 R3.lt
                have B6 : Below w.heap.size w w6 := B3.trans (b6.mono B3.size)
                clear b6 V3 R3 B3 K3
                go_wp2_with (first | (with_reducible show wpList _ _ _ (Oper.mk _ (Op.build 25 _) _ _ _ _ :: _) _ _; refine wpList_bld (vs := []) rfl rfl rfl (run_bzB _) ?_; (try simp only [Act.put, List.setIfInBounds_toArray, List.set_cons_zero, List.set_cons_succ, World.size_alloc])) | ((with_reducible show wpList _ _ _ (Oper.mk _ (Op.store 25 _ _) _ _ _ _ :: _) _ _; refine wpList_st rfl rfl rfl rfl (by assumption) (by rw [rmV_size]; exact sizeB) (by first | (with_reducible rfl) | rw [rmV_size, rmV_size]) (rmV_one _) ?_); intro w4 K4 b4 but4 z4))
                refine bodyPost_ret (v := .tuple #[.agg (rmV rm0), .int .i64 11]) (results_cell_tmp_row Try.results13 _ _ _ _ _ _ _ _ rfl rfl K4 Try.underlying25 rfl sizeB) rfl ⟨by rw [HQ.out]; rfl, ?_⟩
                exact B6.trans (b4 _ (Nat.le_refl _))
              | true =>
                have HQ : Hid (q = (liftN p, 0)) := HU3.out.trans (if_neg (by rw [hc]; decide))
                have HP := fun w => refpack_yes (liftN p) (lift_ok p) hc w
                clear HU3 hc
                go_wp2_with ((with_reducible show wpList _ _ _ (Oper.mk _ (Op.load 25 _) _ _ _ _ :: _) _ _; refine wpList_ld rfl rfl rfl (run_ldB _ _ _ _ (by assumption)) ?_; (try simp only [Act.put, List.setIfInBounds_toArray, List.set_cons_zero, List.set_cons_succ, World.size_alloc])))
                refine (HP _).mono ?_
                rintro e w6 ⟨a6, c6, rfl, I6, b6⟩
                have V6 := V3.below b6 V3.lt
                have R6 := R3.below b6 R3.lt
                have B6 : Below w.heap.size w w6 := B3.trans (b6.mono B3.size)
                obtain ⟨gb, go, rfl, _, _⟩ := I6.cell (k := 0) (x := (payN (liftN p))[0]'(by rw [pay_len]; decide)) (by rw [List.getElem?_eq_getElem])
                have hnil : ∀ w, (binOp .eql 32 (.slice (some ⟨gb, go, none⟩) 48 c6) (.slice none 0 0)).run Try.prog w = .ok (.bool false) w := run_eql_slice_nil _ _ _ _ _ Try.underlying32
                clear b6 V3 R3 B3 K3 I6
                go_wp2_with (first | (with_reducible show wpList _ _ _ (Oper.mk _ (Op.load 25 _) _ _ _ _ :: _) _ _; refine wpList_ld rfl rfl rfl (run_ldB _ _ _ _ (by assumption)) ?_; (try simp only [Act.put, List.setIfInBounds_toArray, List.set_cons_zero, List.set_cons_succ, World.size_alloc])) | ((with_reducible show wpList _ _ _ (Oper.mk _ (Op.store 25 _ _) _ _ _ _ :: _) _ _; refine wpList_st rfl rfl rfl rfl (by assumption) (by rw [rmV_size]; exact sizeB) (by first | (with_reducible rfl) | rw [rmV_size, rmV_size]) (rmV_one _) ?_); intro w4 K4 b4 but4 z4))
                refine bodyPost_ret (v := .tuple #[.agg (rmV (liftN p)), .int .i64 0]) (results_cell_tmp_row Try.results13 _ _ _ _ _ _ _ _ rfl rfl K4 Try.underlying25 rfl sizeB) rfl ⟨by rw [HQ.out]; rfl, ?_⟩
                exact B6.trans (b4 _ (Nat.le_refl _))
    · have HQ : Hid (q = (rm0, 12)) := HU1.out.trans (if_pos h2)
      have hne : ((gN p 0 : Int) != 1) = true := by rw [bne_iff_ne]; omega
      clear HU1 h2
      generalize gN p 0 = x at *
      go_wp2_with (first | (with_reducible show wpList _ _ _ (Oper.mk _ (Op.build 25 _) _ _ _ _ :: _) _ _; refine wpList_bld (vs := []) rfl rfl rfl (run_bzB _) ?_; (try simp only [Act.put, List.setIfInBounds_toArray, List.set_cons_zero, List.set_cons_succ, World.size_alloc])) | ((with_reducible show wpList _ _ _ (Oper.mk _ (Op.store 25 _ _) _ _ _ _ :: _) _ _; refine wpList_st rfl rfl rfl rfl (by assumption) (by rw [rmV_size]; exact sizeB) (by first | (with_reducible rfl) | rw [rmV_size, rmV_size]) (rmV_one _) ?_); intro w4 K4 b4 but4 z4))
      refine bodyPost_ret (v := .tuple #[.agg (rmV rm0), .int .i64 12]) (results_cell_tmp_row Try.results13 _ _ _ _ _ _ _ _ rfl rfl K4 Try.underlying25 rfl sizeB) rfl ⟨by rw [HQ.out]; rfl, ?_⟩
      exact B2.trans (b4 _ (Nat.le_refl _))
  · rw [show (sealN p == p) = false from beq_eq_false_iff_ne.2 h1]
    have HQ : Hid (q = (rm0, 4)) := HU.out.trans (if_pos h1)
    clear HU h1
    go_wp2_with (first | (with_reducible show wpList _ _ _ (Oper.mk _ (Op.build 25 _) _ _ _ _ :: _) _ _; refine wpList_bld (vs := []) rfl rfl rfl (run_bzB _) ?_; (try simp only [Act.put, List.setIfInBounds_toArray, List.set_cons_zero, List.set_cons_succ, World.size_alloc])) | ((with_reducible show wpList _ _ _ (Oper.mk _ (Op.store 25 _ _) _ _ _ _ :: _) _ _; refine wpList_st rfl rfl rfl rfl (by assumption) (by rw [rmV_size]; exact sizeB) (by first | (with_reducible rfl) | rw [rmV_size, rmV_size]) (rmV_one _) ?_); intro w4 K4 b4 but4 z4))
    refine bodyPost_ret (v := .tuple #[.agg (rmV rm0), .int .i64 4]) (results_cell_tmp_row Try.results13 _ _ _ _ _ _ _ _ rfl rfl K4 Try.underlying25 rfl sizeB) rfl ⟨by rw [HQ.out]; rfl, ?_⟩
    exact B2.trans (b4 _ (Nat.le_refl _))
end Go.Proofs.Ytfkikbnokjbnhaa
