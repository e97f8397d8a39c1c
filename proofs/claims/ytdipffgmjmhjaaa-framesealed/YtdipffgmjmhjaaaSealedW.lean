/- Proved here: the walk of FrameSealed. Conditions: as each theorem states them. -/
import Derived.Test.YtdipffgmjmhjaaaPacksW
namespace Go.Proofs.Ytdipffgmjmhjaaa
set_option linter.unusedSimpArgs false
set_option linter.unusedVariables false
open Go.RowKit

/-- Places of a new slice are written over. -/
theorem run_cp_at (w : World) (ty : TypeId) (base g l o d c : Nat) (zs : List UInt8) (hd : OwnB base w (some ⟨g, 0, none⟩) l l zs) (hbg : base ≤ g) (a : Option Addr) (m k : Nat) (xs : List UInt8) {n : Nat} (hx : IsB n w a m xs) (hpos : 0 < m) (hmd : m ≤ d) (hml : o + m ≤ l) :
    ∃ w', (Builtin.copy_ #[22, 22] ty #[.slice (some ⟨g, o, none⟩) d c, .slice a m k]).run Try.prog w = .ok (goInt m) w' ∧ OwnB base w' (some ⟨g, 0, none⟩) l l (zs.take o ++ xs ++ zs.drop (o + m)) ∧ Below base w w' ∧ w'.heap.size = w.heap.size := by
  obtain ⟨hl, hll, ho⟩ := hd
  rcases ho with ⟨e, _⟩ | ⟨g', cap, cur, e, hg, hh, hc, hm, hsz, ht⟩
  · cases e
  cases e
  rw [Nat.mul_one] at hsz
  have hmin : Nat.min m d = m := Nat.min_eq_left hmd
  obtain ⟨w', hrun, hb, hB, _, hs⟩ := run_cp w ty g o d c cur 5 hh a m k xs hx hpos (by omega) (by rw [hmin]; omega)
  rw [hmin] at hrun
  have hxl : xs.length = m := hx.1.symm
  rw [List.take_of_length_le (by omega)] at hb
  rw [Nat.mul_one] at ht
  have hcur : cur.toList = vals zs := by
    rw [← ht, List.take_of_length_le (by rw [Array.length_toList]; omega)]
  have e1 : (laidIn cur o xs).toList = vals (zs.take o ++ xs ++ zs.drop (o + m)) := by
    simp only [laidIn, hcur, hxl]
    simp [vals, List.map_take, List.map_drop]
  refine ⟨w', hrun, ⟨by simp; omega, by rw [vals_length]; simp; omega, .inr ⟨g, l, laidIn cur o xs, rfl, hg, hb, hc, hm, ?_, ?_⟩⟩, hB base hbg, hs⟩
  · rw [Nat.mul_one, ← Array.length_toList, e1, vals_length]; simp; omega
  · rw [Nat.mul_one, e1, List.take_of_length_le (by rw [vals_length]; simp; omega)]

/-- What is sealed: the bytes' end, with bytes 0 ahead if they are too few. -/
def inN (k : Nat) (b : List UInt8) : List UInt8 := List.replicate (k - b.length) 0 ++ b.drop (b.length - k)
theorem inN_len (k : Nat) (b : List UInt8) : (inN k b).length = k := by simp [inN]; omega

theorem in_short {xs : List UInt8} {k o : Nat} (h : k = xs.length + o) : (List.replicate (k + 4) (0 : UInt8)).take o ++ xs ++ (List.replicate (k + 4) (0 : UInt8)).drop (o + xs.length) = inN k xs ++ [0, 0, 0, 0] := by
  subst h
  unfold inN
  rw [List.take_replicate, List.drop_replicate, show xs.length + o - xs.length = o from by omega, show xs.length - (xs.length + o) = 0 from by omega, List.drop_zero, Nat.min_eq_left (by omega), show xs.length + o + 4 - (o + xs.length) = 4 from by omega]
  rfl
theorem in_long {xs : List UInt8} {k : Nat} (h : k < xs.length) : (List.replicate (k + 4) (0 : UInt8)).take 0 ++ xs.drop (xs.length - k) ++ (List.replicate (k + 4) (0 : UInt8)).drop (0 + k) = inN k xs ++ [0, 0, 0, 0] := by
  unfold inN
  rw [List.drop_replicate, show k - xs.length = 0 from by omega, show k + 4 - (0 + k) = 4 from by omega]
  rfl
theorem in_none (k : Nat) : List.replicate (k + 4) (0 : UInt8) = inN k [] ++ [0, 0, 0, 0] := by
  unfold inN
  have e : List.replicate (k + 4) (0 : UInt8) = List.replicate k 0 ++ List.replicate 4 0 := by rw [List.replicate_append_replicate]
  rw [e]; simp

theorem set4 (x : List UInt8) (k : Nat) (hk : x.length = k) (y0 y1 y2 y3 v0 v1 v2 v3 : UInt8) : ((((x ++ [y0, y1, y2, y3]).set k v3).set (k + 1) v2).set (k + 2) v1).set (k + 3) v0 = x ++ [v3, v2, v1, v0] := by
  subst hk
  simp [List.set_append_right]

set_option maxHeartbeats 4000000 in
theorem sealed_walk (a1 : Option Addr) (len cap1 : Nat) (xs : List UInt8) (p : Nat) (hp : p < 256) (w : World) (h1 : IsB w.heap.size w a1 len xs) (n1 : a1 = none → cap1 = 0) (c1 : len ≤ cap1) :
    Calls Try.prog 4 #[.slice a1 len cap1, .int .u8 (p : Int)] w fun e w' => e = .returned (.bool true) ∧ Below w.heap.size w w' := by
  by_cases g1 : 400 < len
  · have q1 : decide (400 < (len : Int)) = true := by simp; omega
    clear g1 h1
    go_enter Try.func4, Try.ntmps4
    go_wp2_with fail
    refine (awake_calls _).mono ?_
    rintro e w1 ⟨rfl, hb1⟩
    go_wp2_with fail
    refine (awake_calls _).mono ?_
    rintro e w2 ⟨rfl, hb2⟩
    go_wp2
    go_ret
    exact ⟨rfl, hb1.trans (hb2.mono hb1.size)⟩
  have q1 : decide (400 < (len : Int)) = false := by simp; omega
  obtain ⟨k, hk⟩ : ∃ k, 48 * (1 + p % 8) = k + 4 := ⟨48 * (1 + p % 8) - 4, by omega⟩
  have hk44 : 44 ≤ k := by omega
  have hk380 : k ≤ 380 := by omega
  have hkm : (k + 4) % 48 = 0 := by omega
  have EN : 48 * (1 + (p : Int) % 8) = (k : Int) + 4 := by omega
  have hlen : len ≤ 400 := by omega
  have lx := h1.1
  clear hk g1
  have HK : Hid ((k + 4) % 48 = 0) := hkm
  clear hkm
  go_enter Try.func4, Try.ntmps4
  go_wp2_with fail
  refine (awake_calls _).mono ?_
  rintro e w1 ⟨rfl, b1⟩
  obtain ⟨w2, hmk, o2, b2, z2⟩ := run_mkc w1 w1.heap.size (k + 4) (k + 4) ((k : Int) + 4) ((k : Int) + 4) (by omega) (by omega) (Nat.le_refl _) (by omega) (Nat.le_refl _)
  have LX : Hid (len = xs.length) := lx
  clear lx z2
  go_wp2
  by_cases hl0 : len = 0
  · subst hl0
    have hxs : xs = [] := List.eq_nil_of_length_eq_zero LX.out.symm
    have ew0 : IntKind.i64.wrap (k : Int) = (k : Int) := by rw [IntKind.wrap_i64]; omega
    have hm1 : (if 0 < k then (k : Int) else 0) = (k : Int) := by split <;> omega
    have hmx : max (k : Int) 0 = (k : Int) := by omega
    have hk4 : (k : Int) ≤ (k : Int) + 4 := by omega
    have hne : ¬ (k + 4 = k) := by omega
    have ew3 : IntKind.i64.wrap (-((k : Int) + 4)) = -((k : Int) + 4) := by rw [IntKind.wrap_i64]; omega
    have ew4 : IntKind.i64.wrap (-((k : Int) + 4) + 4) = -(k : Int) := by rw [IntKind.wrap_i64]; omega
    have hm2 : (if (k : Int) < 0 then -(k : Int) else 0) = 0 := by split <;> omega
    have hma : Option.map (fun x : Addr => x.add 0) a1 = a1 := by cases a1 <;> rfl
    have hcp := run_cp_none w2.drew 3 ⟨w1.heap.size, k, none⟩ 0 4 cap1 a1
    refine wp_region_held_drew (S := (fun _ => True)) (by kernel_rfl) trivial (fun hHeld => ?_)
    refine wpAnyH_take (i := 0) (oi := ({ dst := some 29, op := Op.move (Operand.tmp 6), type := 22, pos := _, after := #[], guard := none } : Oper)) (v := ?_) rfl (by kernel_rfl) (by kernel_rfl) (by kernel_rfl) (fun _ _ _ h => h) (Or.inl ⟨by rfl, ?_⟩) hHeld ?_
    rotate_left
    · (intro w hS; go_simp; try with_reducible rfl)
    try simp only [Act.put, List.setIfInBounds_toArray, List.set_cons_zero, List.set_cons_succ]
    refine wpAnyH_take (i := 1) (oi := ({ dst := some 30, op := Op.move (Operand.tmp 5), type := 3, pos := _, after := #[], guard := none } : Oper)) (v := ?_) rfl (by kernel_rfl) (by kernel_rfl) (by kernel_rfl) (fun _ _ _ h => h) (Or.inl ⟨by rfl, ?_⟩) hHeld ?_
    rotate_left
    · (intro w hS; go_simp; try with_reducible rfl)
    try simp only [Act.put, List.setIfInBounds_toArray, List.set_cons_zero, List.set_cons_succ]
    refine wpAnyH_take (i := 2) (oi := ({ dst := some 31, op := Op.binOp BinOp.sub 3 (Operand.tmp 30) (Operand.const (Value.int IntKind.i64 4)) 3, type := 3, pos := _, after := #[{ on := 1, ground := Ground.data }], guard := none } : Oper)) (v := ?_) rfl (by kernel_rfl) (by kernel_rfl) (by kernel_rfl) (fun _ _ _ h => h) (Or.inl ⟨by rfl, ?_⟩) hHeld ?_
    rotate_left
    · (intro w hS; go_simp; try with_reducible rfl)
    try simp only [Act.put, List.setIfInBounds_toArray, List.set_cons_zero, List.set_cons_succ]
    try rw [ew0]
    refine wpAnyH_take (i := 3) (oi := ({ dst := some 32, op := Op.move (Operand.tmp 0), type := 22, pos := _, after := #[], guard := none } : Oper)) (v := ?_) rfl (by kernel_rfl) (by kernel_rfl) (by kernel_rfl) (fun _ _ _ h => h) (Or.inl ⟨by rfl, ?_⟩) hHeld ?_
    rotate_left
    · (intro w hS; go_simp; try with_reducible rfl)
    try simp only [Act.put, List.setIfInBounds_toArray, List.set_cons_zero, List.set_cons_succ]
    refine wpAnyH_take (i := 4) (oi := ({ dst := some 33, op := Op.call { callee := Callee.builtin Builtin.len, args := #[Operand.tmp 32], argTypes := #[22] }, type := 3, pos := _, after := #[{ on := 3, ground := Ground.data }], guard := none } : Oper)) (v := ?_) rfl (by kernel_rfl) (by kernel_rfl) (by kernel_rfl) (fun _ _ _ h => h) (Or.inl ⟨by rfl, ?_⟩) hHeld ?_
    rotate_left
    · (intro w hS; go_simp; try with_reducible rfl)
    try simp only [Act.put, List.setIfInBounds_toArray, List.set_cons_zero, List.set_cons_succ]
    refine wpAnyH_take (i := 5) (oi := ({ dst := some 34, op := Op.binOp BinOp.sub 3 (Operand.tmp 31) (Operand.tmp 33) 3, type := 3, pos := _, after := #[{ on := 2, ground := Ground.data }, { on := 4, ground := Ground.data }], guard := none } : Oper)) (v := ?_) rfl (by kernel_rfl) (by kernel_rfl) (by kernel_rfl) (fun _ _ _ h => h) (Or.inl ⟨by rfl, ?_⟩) hHeld ?_
    rotate_left
    · (intro w hS; go_simp; try with_reducible rfl)
    try simp only [Act.put, List.setIfInBounds_toArray, List.set_cons_zero, List.set_cons_succ]
    try rw [ew0]
    refine wpAnyH_take (i := 6) (oi := ({ dst := some 35, op := Op.call { callee := Callee.builtin Builtin.max, args := #[Operand.const (Value.int IntKind.i64 0), Operand.tmp 34], argTypes := #[3, 3] }, type := 3, pos := _, after := #[{ on := 5, ground := Ground.data }], guard := none } : Oper)) (v := ?_) rfl (by kernel_rfl) (by kernel_rfl) (by kernel_rfl) (fun _ _ _ h => h) (Or.inl ⟨by rfl, ?_⟩) hHeld ?_
    rotate_left
    · (intro w hS; go_simp; try with_reducible rfl)
    try simp only [Act.put, List.setIfInBounds_toArray, List.set_cons_zero, List.set_cons_succ]
    try rw [hm1]
    refine wpAnyH_take (i := 7) (oi := ({ dst := some 36, op := Op.move (Operand.tmp 5), type := 3, pos := _, after := #[], guard := none } : Oper)) (v := ?_) rfl (by kernel_rfl) (by kernel_rfl) (by kernel_rfl) (fun _ _ _ h => h) (Or.inl ⟨by rfl, ?_⟩) hHeld ?_
    rotate_left
    · (intro w hS; go_simp; try with_reducible rfl)
    try simp only [Act.put, List.setIfInBounds_toArray, List.set_cons_zero, List.set_cons_succ]
    refine wpAnyH_take (i := 8) (oi := ({ dst := some 37, op := Op.binOp BinOp.sub 3 (Operand.tmp 36) (Operand.const (Value.int IntKind.i64 4)) 3, type := 3, pos := _, after := #[{ on := 7, ground := Ground.data }], guard := none } : Oper)) (v := ?_) rfl (by kernel_rfl) (by kernel_rfl) (by kernel_rfl) (fun _ _ _ h => h) (Or.inl ⟨by rfl, ?_⟩) hHeld ?_
    rotate_left
    · (intro w hS; go_simp; try with_reducible rfl)
    try simp only [Act.put, List.setIfInBounds_toArray, List.set_cons_zero, List.set_cons_succ]
    try rw [ew0]
    refine wpAnyH_take (i := 9) (oi := ({ dst := some 38, op := Op.slice 22 (Operand.tmp 29) (some (Operand.tmp 35)) (some (Operand.tmp 37)) none, type := 22, pos := _, after := #[{ on := 0, ground := Ground.data }, { on := 6, ground := Ground.data }, { on := 8, ground := Ground.data }], guard := none } : Oper)) (v := ?_) rfl (by kernel_rfl) (by kernel_rfl) (by kernel_rfl) (fun _ _ _ h => h) (Or.inl ⟨by rfl, ?_⟩) hHeld ?_
    rotate_left
    · (intro w hS; go_simp; try with_reducible rfl)
    try simp only [Act.put, List.setIfInBounds_toArray, List.set_cons_zero, List.set_cons_succ]
    refine wpAnyH_take (i := 10) (oi := ({ dst := some 39, op := Op.move (Operand.tmp 0), type := 22, pos := _, after := #[], guard := none } : Oper)) (v := ?_) rfl (by kernel_rfl) (by kernel_rfl) (by kernel_rfl) (fun _ _ _ h => h) (Or.inl ⟨by rfl, ?_⟩) hHeld ?_
    rotate_left
    · (intro w hS; go_simp; try with_reducible rfl)
    try simp only [Act.put, List.setIfInBounds_toArray, List.set_cons_zero, List.set_cons_succ]
    refine wpAnyH_take (i := 11) (oi := ({ dst := some 40, op := Op.move (Operand.tmp 0), type := 22, pos := _, after := #[], guard := none } : Oper)) (v := ?_) rfl (by kernel_rfl) (by kernel_rfl) (by kernel_rfl) (fun _ _ _ h => h) (Or.inl ⟨by rfl, ?_⟩) hHeld ?_
    rotate_left
    · (intro w hS; go_simp; try with_reducible rfl)
    try simp only [Act.put, List.setIfInBounds_toArray, List.set_cons_zero, List.set_cons_succ]
    refine wpAnyH_take (i := 12) (oi := ({ dst := some 41, op := Op.call { callee := Callee.builtin Builtin.len, args := #[Operand.tmp 40], argTypes := #[22] }, type := 3, pos := _, after := #[{ on := 11, ground := Ground.data }], guard := none } : Oper)) (v := ?_) rfl (by kernel_rfl) (by kernel_rfl) (by kernel_rfl) (fun _ _ _ h => h) (Or.inl ⟨by rfl, ?_⟩) hHeld ?_
    rotate_left
    · (intro w hS; go_simp; try with_reducible rfl)
    try simp only [Act.put, List.setIfInBounds_toArray, List.set_cons_zero, List.set_cons_succ]
    refine wpAnyH_take (i := 13) (oi := ({ dst := some 42, op := Op.move (Operand.tmp 5), type := 3, pos := _, after := #[], guard := none } : Oper)) (v := ?_) rfl (by kernel_rfl) (by kernel_rfl) (by kernel_rfl) (fun _ _ _ h => h) (Or.inl ⟨by rfl, ?_⟩) hHeld ?_
    rotate_left
    · (intro w hS; go_simp; try with_reducible rfl)
    try simp only [Act.put, List.setIfInBounds_toArray, List.set_cons_zero, List.set_cons_succ]
    refine wpAnyH_take (i := 14) (oi := ({ dst := some 43, op := Op.binOp BinOp.sub 3 (Operand.tmp 41) (Operand.tmp 42) 3, type := 3, pos := _, after := #[{ on := 12, ground := Ground.data }, { on := 13, ground := Ground.data }], guard := none } : Oper)) (v := ?_) rfl (by kernel_rfl) (by kernel_rfl) (by kernel_rfl) (fun _ _ _ h => h) (Or.inl ⟨by rfl, ?_⟩) hHeld ?_
    rotate_left
    · (intro w hS; go_simp; try with_reducible rfl)
    try simp only [Act.put, List.setIfInBounds_toArray, List.set_cons_zero, List.set_cons_succ]
    try rw [ew3]
    refine wpAnyH_take (i := 15) (oi := ({ dst := some 44, op := Op.binOp BinOp.add 3 (Operand.tmp 43) (Operand.const (Value.int IntKind.i64 4)) 3, type := 3, pos := _, after := #[{ on := 14, ground := Ground.data }], guard := none } : Oper)) (v := ?_) rfl (by kernel_rfl) (by kernel_rfl) (by kernel_rfl) (fun _ _ _ h => h) (Or.inl ⟨by rfl, ?_⟩) hHeld ?_
    rotate_left
    · (intro w hS; go_simp; try with_reducible rfl)
    try simp only [Act.put, List.setIfInBounds_toArray, List.set_cons_zero, List.set_cons_succ]
    try rw [ew4]
    refine wpAnyH_take (i := 16) (oi := ({ dst := some 45, op := Op.call { callee := Callee.builtin Builtin.max, args := #[Operand.const (Value.int IntKind.i64 0), Operand.tmp 44], argTypes := #[3, 3] }, type := 3, pos := _, after := #[{ on := 15, ground := Ground.data }], guard := none } : Oper)) (v := ?_) rfl (by kernel_rfl) (by kernel_rfl) (by kernel_rfl) (fun _ _ _ h => h) (Or.inl ⟨by rfl, ?_⟩) hHeld ?_
    rotate_left
    · (intro w hS; go_simp; try with_reducible rfl)
    try simp only [Act.put, List.setIfInBounds_toArray, List.set_cons_zero, List.set_cons_succ]
    try rw [hm2]
    refine wpAnyH_take (i := 17) (oi := ({ dst := some 46, op := Op.slice 22 (Operand.tmp 39) (some (Operand.tmp 45)) none none, type := 22, pos := _, after := #[{ on := 10, ground := Ground.data }, { on := 16, ground := Ground.data }], guard := none } : Oper)) (v := ?_) rfl (by kernel_rfl) (by kernel_rfl) (by kernel_rfl) (fun _ _ _ h => h) (Or.inl ⟨by rfl, ?_⟩) hHeld ?_
    rotate_left
    · (intro w hS; go_simp; try with_reducible rfl)
    try simp only [Act.put, List.setIfInBounds_toArray, List.set_cons_zero, List.set_cons_succ]
    refine wpAnyH_ready (rs := [18]) (by kernel_rfl) (by simp) ?_
    refine AllReadyH.cons (o := ({ dst := some 47, op := Op.call { callee := Callee.builtin Builtin.copy, args := #[Operand.tmp 38, Operand.tmp 46], argTypes := #[22, 22] }, type := 3, pos := _, after := #[{ on := 9, ground := Ground.data }, { on := 17, ground := Ground.data }], guard := none } : Oper)) rfl (fun K hK => ?_) AllReadyH.nil
    refine step_cp hcp _ _ rfl rfl rfl rfl rfl ?_
    skip
    refine hK.out _ _ trivial (fun hHeld => ?_)
    clear hK K
    try simp only [Act.put, List.setIfInBounds_toArray, List.set_cons_zero, List.set_cons_succ]
    refine wpAnyH_done (by kernel_rfl) ?_ _
    have O3 : OwnB w1.heap.size w2.drew (some ⟨w1.heap.size, 0, none⟩) (k + 4) (k + 4) (inN k xs ++ [0, 0, 0, 0]) := by
      rw [hxs, ← in_none]; exact o2.below (Below.refl w2.heap.size w2).drew (Nat.le_refl _)
    have BB : Below w1.heap.size w2 w2.drew := (Below.refl w1.heap.size w2).drew
    clear o2 hmk ew0 ew3 ew4 hm1 hm2 h1 hma
    generalize w2.drew = W3 at *
    have l3 : (inN k xs).length = k := inN_len k xs
    have B3 : Below w.heap.size w W3 := b1.trans ((b2.trans BB).mono b1.size)
    have HL := long_calls (some ⟨w1.heap.size, 0, none⟩) k (k + 4) (inN k xs) (by rw [l3]; unfold maxLen; omega) W3 (by have := O3.isB.1.take k (by simp; omega); rwa [List.take_left' l3] at this) (Nat.le_refl _)
    have HS := unpack_sealed (x := inN k xs) (by omega) (by rw [l3]; exact HK.out)
    have hC := longN_lt (inN k xs)
    rw [be4_list] at HS
    generalize longN (inN k xs) = C at HL hC HS
    have j3 : (C : Int) / 16777216 = ((UInt8.ofNat (C / 16777216)).toNat : Int) := by rw [byteN]; omega
    have j2 : (C : Int) / 65536 % 256 = ((UInt8.ofNat (C / 65536)).toNat : Int) := by rw [byteN]; omega
    have j1 : (C : Int) / 256 % 256 = ((UInt8.ofNat (C / 256)).toNat : Int) := by rw [byteN]; omega
    have j0 : (C : Int) % 256 = ((UInt8.ofNat C).toNat : Int) := by rw [byteN]; omega
    generalize (UInt8.ofNat (C / 16777216)) = v3 at *
    generalize (UInt8.ofNat (C / 65536)) = v2 at *
    generalize (UInt8.ofNat (C / 256)) = v1 at *
    generalize (UInt8.ofNat C) = v0 at *
    clear hHeld hcp
    go_wp2_with fail
    refine HL.mono ?_
    rintro e w4 ⟨rfl, b4⟩
    have O4 := O3.below b4 (Nat.le_refl _)
    have B4 := B3.trans (b4.mono B3.size)
    obtain ⟨g', cur, e, _, hgs, hcur⟩ := O4.block (by omega)
    cases e
    have cells : ∀ i x, (inN k xs ++ [0, 0, 0, 0])[i]? = some x → w4.cell? ⟨w1.heap.size, i, none⟩ = some (.int .u8 (x.toNat : Int)) := by
      intro i x hx
      obtain ⟨b', off', e, _, hc⟩ := O4.isB.1.cell hx
      cases e
      have := hc i x hx
      rwa [Nat.zero_add] at this
    have a0 : w4.cell? ⟨w1.heap.size, k, none⟩ = some (.int .u8 0) := cells k 0 (by rw [List.getElem?_append_right (by omega), l3, Nat.sub_self]; rfl)
    have a1 : w4.cell? ⟨w1.heap.size, k + 1, none⟩ = some (.int .u8 0) := cells (k + 1) 0 (by rw [List.getElem?_append_right (by omega), l3, show k + 1 - k = 1 from by omega]; rfl)
    have a2 : w4.cell? ⟨w1.heap.size, k + 2, none⟩ = some (.int .u8 0) := cells (k + 2) 0 (by rw [List.getElem?_append_right (by omega), l3, show k + 2 - k = 2 from by omega]; rfl)
    have a3 : w4.cell? ⟨w1.heap.size, k + 3, none⟩ = some (.int .u8 0) := cells (k + 3) 0 (by rw [List.getElem?_append_right (by omega), l3, show k + 3 - k = 3 from by omega]; rfl)
    have f0 := frozen_of_block (k := k) hcur
    have f1 := frozen_of_block (k := k + 1) hcur
    have f2 := frozen_of_block (k := k + 2) hcur
    have f3 := frozen_of_block (k := k + 3) hcur
    have O5 := (((O4.set k v3).set (k + 1) v2).set (k + 2) v1).set (k + 3) v0
    rw [set4 _ _ l3] at O5
    have B5 : Below w.heap.size w ((((w4.setCell ⟨w1.heap.size, k, none⟩ (.int .u8 (v3.toNat : Int))).setCell ⟨w1.heap.size, k + 1, none⟩ (.int .u8 (v2.toNat : Int))).setCell ⟨w1.heap.size, k + 2, none⟩ (.int .u8 (v1.toNat : Int))).setCell ⟨w1.heap.size, k + 3, none⟩ (.int .u8 (v0.toNat : Int))) :=
      (((B4.setCell (p := ⟨w1.heap.size, k, none⟩) b1.size _).setCell (p := ⟨w1.heap.size, k + 1, none⟩) b1.size _).setCell (p := ⟨w1.heap.size, k + 2, none⟩) b1.size _).setCell (p := ⟨w1.heap.size, k + 3, none⟩) b1.size _
    obtain ⟨w5, hW5⟩ : ∃ w5, ((((w4.setCell ⟨w1.heap.size, k, none⟩ (.int .u8 (v3.toNat : Int))).setCell ⟨w1.heap.size, k + 1, none⟩ (.int .u8 (v2.toNat : Int))).setCell ⟨w1.heap.size, k + 2, none⟩ (.int .u8 (v1.toNat : Int))).setCell ⟨w1.heap.size, k + 3, none⟩ (.int .u8 (v0.toNat : Int))) = w5 := ⟨_, rfl⟩
    rw [hW5] at O5 B5
    have I5 := O5.isB.1
    have key3 : ∀ w6, Below w5.heap.size w5 w6 → Calls Try.prog 12 #[.slice (some ⟨w1.heap.size, 0, none⟩) (k + 4) (k + 4)] w6 (UpAns (inN k xs ++ [v3, v2, v1, v0]) w6) := fun w6 b => unpack_calls _ _ _ _ w6 (I5.below b (Nat.le_refl _)) b.size (Nat.le_refl _) (by omega)
    have key4 : ∀ w6, Below w5.heap.size w5 w6 → Calls Try.prog 13 #[.slice (some ⟨w1.heap.size, 0, none⟩) (k + 4) (k + 4)] w6 (UpAns (inN k xs ++ [v3, v2, v1, v0]) w6) := fun w6 b => refunpack_all _ _ _ _ w6 (I5.below b (Nat.le_refl _)) b.size (Nat.le_refl _) (by omega)
    have HU : (unpackN (inN k xs ++ [v3, v2, v1, v0])).1.length ≤ 400 := by have := unpack_len (inN k xs ++ [v3, v2, v1, v0]); simp at this; omega
    unfold UpAns at key3 key4
    generalize unpackN (inN k xs ++ [v3, v2, v1, v0]) = U at *
    obtain ⟨us, um, ue⟩ := U
    dsimp only at key3 key4 HU HS
    obtain ⟨V, hV⟩ : ∃ V, us.length = V := ⟨_, rfl⟩
    rw [hV] at key3 key4 HU
    have HU : Hid (V ≤ 400) := HU
    have qe : ((ue : Int) != 4) = true := by rw [bne_iff_ne]; omega
    clear O5 O4 O3 cells I5 HS hV hcur b4 B3 B4 l3 hgs HL
    go_wp2_with fail
    refine (key3 _ (Below.refl _ _)).mono ?_
    rintro e w6 ⟨a6, c6, rfl, i6, n6, b6⟩
    go_wp2_with fail
    refine (key4 _ b6).mono ?_
    rintro e w7 ⟨a7, c7, rfl, i7, n7, b7⟩
    have z7 := b7.size
    have B7 := B5.trans ((b6.trans (b7.mono b6.size)).mono B5.size)
    have i6 := i6.below b7 (Nat.le_refl _)
    clear key3 key4 b6 b7
    go_wp2_with fail
    refine (same_calls _ _ _ _ _ _ _ _ _ i6 i7 z7 (Nat.le_refl _) (by have := HU.out; omega)).mono ?_
    rintro e w8 ⟨rfl, b8⟩
    rw [beq_self_eq_true]
    go_wp2
    go_ret
    exact ⟨rfl, B7.trans (b8.mono B7.size)⟩
  by_cases hlt : len ≤ k
  · obtain ⟨o, ho⟩ : ∃ o, k = len + o := ⟨k - len, by omega⟩
    have ew0 : IntKind.i64.wrap (k : Int) = (k : Int) := by rw [IntKind.wrap_i64]; omega
    have hmx : max (k : Int) 0 = (k : Int) := by omega
    have hk4 : (k : Int) ≤ (k : Int) + 4 := by omega
    have hne : ¬ (k + 4 = o) := by omega
    have ew2 : IntKind.i64.wrap ((k : Int) - (len : Int)) = (o : Int) := by rw [IntKind.wrap_i64]; omega
    have ew3 : IntKind.i64.wrap ((len : Int) - ((k : Int) + 4)) = -((o : Int) + 4) := by rw [IntKind.wrap_i64]; omega
    have ew4 : IntKind.i64.wrap (-((o : Int) + 4) + 4) = -(o : Int) := by rw [IntKind.wrap_i64]; omega
    have hm1 : (if 0 < o then (o : Int) else 0) = (o : Int) := by split <;> omega
    have hm2 : (if (o : Int) < 0 then -(o : Int) else 0) = 0 := by split <;> omega
    have ho1 : o ≤ k := by omega
    have hlo : k - o = len := by omega
    have hne : ¬ (k + 4 = o) := by omega
    have HO : Hid (k = len + o) := ho
    clear ho hlt
    by_cases hpos : 0 < len
    · obtain ⟨x, hx⟩ : ∃ x, xs[0]? = some x := ⟨xs[0]'(by have := LX.out; omega), by rw [List.getElem?_eq_getElem]⟩
      obtain ⟨b, off, rfl, hbn, _⟩ := h1.cell hx
      obtain ⟨w3, hcp, o3, b3, z3⟩ := run_cp_at w2.drew 3 w1.heap.size w1.heap.size (k + 4) o len (k + 4 - o) _ (o2.below (Below.refl w2.heap.size w2).drew (Nat.le_refl _)) (Nat.le_refl _) (some ⟨b, off, none⟩) len cap1 xs ((h1.below (b1.trans (b2.mono b1.size)) (Nat.le_refl _)).below (m := w.heap.size) (Below.refl w.heap.size w2).drew (Nat.le_refl _)) hpos (Nat.le_refl _) (by omega)
      clear x hx
      refine wp_region_held_drew (S := (fun _ => True)) (by kernel_rfl) trivial (fun hHeld => ?_)
      refine wpAnyH_take (i := 0) (oi := ({ dst := some 29, op := Op.move (Operand.tmp 6), type := 22, pos := _, after := #[], guard := none } : Oper)) (v := ?_) rfl (by kernel_rfl) (by kernel_rfl) (by kernel_rfl) (fun _ _ _ h => h) (Or.inl ⟨by rfl, ?_⟩) hHeld ?_
      rotate_left
      · (intro w hS; go_simp; try with_reducible rfl)
      try simp only [Act.put, List.setIfInBounds_toArray, List.set_cons_zero, List.set_cons_succ]
      refine wpAnyH_take (i := 1) (oi := ({ dst := some 30, op := Op.move (Operand.tmp 5), type := 3, pos := _, after := #[], guard := none } : Oper)) (v := ?_) rfl (by kernel_rfl) (by kernel_rfl) (by kernel_rfl) (fun _ _ _ h => h) (Or.inl ⟨by rfl, ?_⟩) hHeld ?_
      rotate_left
      · (intro w hS; go_simp; try with_reducible rfl)
      try simp only [Act.put, List.setIfInBounds_toArray, List.set_cons_zero, List.set_cons_succ]
      refine wpAnyH_take (i := 2) (oi := ({ dst := some 31, op := Op.binOp BinOp.sub 3 (Operand.tmp 30) (Operand.const (Value.int IntKind.i64 4)) 3, type := 3, pos := _, after := #[{ on := 1, ground := Ground.data }], guard := none } : Oper)) (v := ?_) rfl (by kernel_rfl) (by kernel_rfl) (by kernel_rfl) (fun _ _ _ h => h) (Or.inl ⟨by rfl, ?_⟩) hHeld ?_
      rotate_left
      · (intro w hS; go_simp; try with_reducible rfl)
      try simp only [Act.put, List.setIfInBounds_toArray, List.set_cons_zero, List.set_cons_succ]
      try rw [ew0]
      refine wpAnyH_take (i := 3) (oi := ({ dst := some 32, op := Op.move (Operand.tmp 0), type := 22, pos := _, after := #[], guard := none } : Oper)) (v := ?_) rfl (by kernel_rfl) (by kernel_rfl) (by kernel_rfl) (fun _ _ _ h => h) (Or.inl ⟨by rfl, ?_⟩) hHeld ?_
      rotate_left
      · (intro w hS; go_simp; try with_reducible rfl)
      try simp only [Act.put, List.setIfInBounds_toArray, List.set_cons_zero, List.set_cons_succ]
      refine wpAnyH_take (i := 4) (oi := ({ dst := some 33, op := Op.call { callee := Callee.builtin Builtin.len, args := #[Operand.tmp 32], argTypes := #[22] }, type := 3, pos := _, after := #[{ on := 3, ground := Ground.data }], guard := none } : Oper)) (v := ?_) rfl (by kernel_rfl) (by kernel_rfl) (by kernel_rfl) (fun _ _ _ h => h) (Or.inl ⟨by rfl, ?_⟩) hHeld ?_
      rotate_left
      · (intro w hS; go_simp; try with_reducible rfl)
      try simp only [Act.put, List.setIfInBounds_toArray, List.set_cons_zero, List.set_cons_succ]
      refine wpAnyH_take (i := 5) (oi := ({ dst := some 34, op := Op.binOp BinOp.sub 3 (Operand.tmp 31) (Operand.tmp 33) 3, type := 3, pos := _, after := #[{ on := 2, ground := Ground.data }, { on := 4, ground := Ground.data }], guard := none } : Oper)) (v := ?_) rfl (by kernel_rfl) (by kernel_rfl) (by kernel_rfl) (fun _ _ _ h => h) (Or.inl ⟨by rfl, ?_⟩) hHeld ?_
      rotate_left
      · (intro w hS; go_simp; try with_reducible rfl)
      try simp only [Act.put, List.setIfInBounds_toArray, List.set_cons_zero, List.set_cons_succ]
      try rw [ew2]
      refine wpAnyH_take (i := 6) (oi := ({ dst := some 35, op := Op.call { callee := Callee.builtin Builtin.max, args := #[Operand.const (Value.int IntKind.i64 0), Operand.tmp 34], argTypes := #[3, 3] }, type := 3, pos := _, after := #[{ on := 5, ground := Ground.data }], guard := none } : Oper)) (v := ?_) rfl (by kernel_rfl) (by kernel_rfl) (by kernel_rfl) (fun _ _ _ h => h) (Or.inl ⟨by rfl, ?_⟩) hHeld ?_
      rotate_left
      · (intro w hS; go_simp; try with_reducible rfl)
      try simp only [Act.put, List.setIfInBounds_toArray, List.set_cons_zero, List.set_cons_succ]
      try rw [hm1]
      refine wpAnyH_take (i := 7) (oi := ({ dst := some 36, op := Op.move (Operand.tmp 5), type := 3, pos := _, after := #[], guard := none } : Oper)) (v := ?_) rfl (by kernel_rfl) (by kernel_rfl) (by kernel_rfl) (fun _ _ _ h => h) (Or.inl ⟨by rfl, ?_⟩) hHeld ?_
      rotate_left
      · (intro w hS; go_simp; try with_reducible rfl)
      try simp only [Act.put, List.setIfInBounds_toArray, List.set_cons_zero, List.set_cons_succ]
      refine wpAnyH_take (i := 8) (oi := ({ dst := some 37, op := Op.binOp BinOp.sub 3 (Operand.tmp 36) (Operand.const (Value.int IntKind.i64 4)) 3, type := 3, pos := _, after := #[{ on := 7, ground := Ground.data }], guard := none } : Oper)) (v := ?_) rfl (by kernel_rfl) (by kernel_rfl) (by kernel_rfl) (fun _ _ _ h => h) (Or.inl ⟨by rfl, ?_⟩) hHeld ?_
      rotate_left
      · (intro w hS; go_simp; try with_reducible rfl)
      try simp only [Act.put, List.setIfInBounds_toArray, List.set_cons_zero, List.set_cons_succ]
      try rw [ew0]
      refine wpAnyH_take (i := 9) (oi := ({ dst := some 38, op := Op.slice 22 (Operand.tmp 29) (some (Operand.tmp 35)) (some (Operand.tmp 37)) none, type := 22, pos := _, after := #[{ on := 0, ground := Ground.data }, { on := 6, ground := Ground.data }, { on := 8, ground := Ground.data }], guard := none } : Oper)) (v := ?_) rfl (by kernel_rfl) (by kernel_rfl) (by kernel_rfl) (fun _ _ _ h => h) (Or.inl ⟨by rfl, ?_⟩) hHeld ?_
      rotate_left
      · (intro w hS; go_simp; try with_reducible rfl)
      try simp only [Act.put, List.setIfInBounds_toArray, List.set_cons_zero, List.set_cons_succ]
      refine wpAnyH_take (i := 10) (oi := ({ dst := some 39, op := Op.move (Operand.tmp 0), type := 22, pos := _, after := #[], guard := none } : Oper)) (v := ?_) rfl (by kernel_rfl) (by kernel_rfl) (by kernel_rfl) (fun _ _ _ h => h) (Or.inl ⟨by rfl, ?_⟩) hHeld ?_
      rotate_left
      · (intro w hS; go_simp; try with_reducible rfl)
      try simp only [Act.put, List.setIfInBounds_toArray, List.set_cons_zero, List.set_cons_succ]
      refine wpAnyH_take (i := 11) (oi := ({ dst := some 40, op := Op.move (Operand.tmp 0), type := 22, pos := _, after := #[], guard := none } : Oper)) (v := ?_) rfl (by kernel_rfl) (by kernel_rfl) (by kernel_rfl) (fun _ _ _ h => h) (Or.inl ⟨by rfl, ?_⟩) hHeld ?_
      rotate_left
      · (intro w hS; go_simp; try with_reducible rfl)
      try simp only [Act.put, List.setIfInBounds_toArray, List.set_cons_zero, List.set_cons_succ]
      refine wpAnyH_take (i := 12) (oi := ({ dst := some 41, op := Op.call { callee := Callee.builtin Builtin.len, args := #[Operand.tmp 40], argTypes := #[22] }, type := 3, pos := _, after := #[{ on := 11, ground := Ground.data }], guard := none } : Oper)) (v := ?_) rfl (by kernel_rfl) (by kernel_rfl) (by kernel_rfl) (fun _ _ _ h => h) (Or.inl ⟨by rfl, ?_⟩) hHeld ?_
      rotate_left
      · (intro w hS; go_simp; try with_reducible rfl)
      try simp only [Act.put, List.setIfInBounds_toArray, List.set_cons_zero, List.set_cons_succ]
      refine wpAnyH_take (i := 13) (oi := ({ dst := some 42, op := Op.move (Operand.tmp 5), type := 3, pos := _, after := #[], guard := none } : Oper)) (v := ?_) rfl (by kernel_rfl) (by kernel_rfl) (by kernel_rfl) (fun _ _ _ h => h) (Or.inl ⟨by rfl, ?_⟩) hHeld ?_
      rotate_left
      · (intro w hS; go_simp; try with_reducible rfl)
      try simp only [Act.put, List.setIfInBounds_toArray, List.set_cons_zero, List.set_cons_succ]
      refine wpAnyH_take (i := 14) (oi := ({ dst := some 43, op := Op.binOp BinOp.sub 3 (Operand.tmp 41) (Operand.tmp 42) 3, type := 3, pos := _, after := #[{ on := 12, ground := Ground.data }, { on := 13, ground := Ground.data }], guard := none } : Oper)) (v := ?_) rfl (by kernel_rfl) (by kernel_rfl) (by kernel_rfl) (fun _ _ _ h => h) (Or.inl ⟨by rfl, ?_⟩) hHeld ?_
      rotate_left
      · (intro w hS; go_simp; try with_reducible rfl)
      try simp only [Act.put, List.setIfInBounds_toArray, List.set_cons_zero, List.set_cons_succ]
      try rw [ew3]
      refine wpAnyH_take (i := 15) (oi := ({ dst := some 44, op := Op.binOp BinOp.add 3 (Operand.tmp 43) (Operand.const (Value.int IntKind.i64 4)) 3, type := 3, pos := _, after := #[{ on := 14, ground := Ground.data }], guard := none } : Oper)) (v := ?_) rfl (by kernel_rfl) (by kernel_rfl) (by kernel_rfl) (fun _ _ _ h => h) (Or.inl ⟨by rfl, ?_⟩) hHeld ?_
      rotate_left
      · (intro w hS; go_simp; try with_reducible rfl)
      try simp only [Act.put, List.setIfInBounds_toArray, List.set_cons_zero, List.set_cons_succ]
      try rw [ew4]
      refine wpAnyH_take (i := 16) (oi := ({ dst := some 45, op := Op.call { callee := Callee.builtin Builtin.max, args := #[Operand.const (Value.int IntKind.i64 0), Operand.tmp 44], argTypes := #[3, 3] }, type := 3, pos := _, after := #[{ on := 15, ground := Ground.data }], guard := none } : Oper)) (v := ?_) rfl (by kernel_rfl) (by kernel_rfl) (by kernel_rfl) (fun _ _ _ h => h) (Or.inl ⟨by rfl, ?_⟩) hHeld ?_
      rotate_left
      · (intro w hS; go_simp; try with_reducible rfl)
      try simp only [Act.put, List.setIfInBounds_toArray, List.set_cons_zero, List.set_cons_succ]
      try rw [hm2]
      refine wpAnyH_take (i := 17) (oi := ({ dst := some 46, op := Op.slice 22 (Operand.tmp 39) (some (Operand.tmp 45)) none none, type := 22, pos := _, after := #[{ on := 10, ground := Ground.data }, { on := 16, ground := Ground.data }], guard := none } : Oper)) (v := ?_) rfl (by kernel_rfl) (by kernel_rfl) (by kernel_rfl) (fun _ _ _ h => h) (Or.inl ⟨by rfl, ?_⟩) hHeld ?_
      rotate_left
      · (intro w hS; go_simp; try with_reducible rfl)
      try simp only [Act.put, List.setIfInBounds_toArray, List.set_cons_zero, List.set_cons_succ]
      refine wpAnyH_ready (rs := [18]) (by kernel_rfl) (by simp) ?_
      refine AllReadyH.cons (o := ({ dst := some 47, op := Op.call { callee := Callee.builtin Builtin.copy, args := #[Operand.tmp 38, Operand.tmp 46], argTypes := #[22, 22] }, type := 3, pos := _, after := #[{ on := 9, ground := Ground.data }, { on := 17, ground := Ground.data }], guard := none } : Oper)) rfl (fun K hK => ?_) AllReadyH.nil
      refine step_cp hcp _ _ rfl rfl rfl rfl rfl ?_
      skip
      refine hK.out _ _ trivial (fun hHeld => ?_)
      clear hK K
      try simp only [Act.put, List.setIfInBounds_toArray, List.set_cons_zero, List.set_cons_succ]
      refine wpAnyH_done (by kernel_rfl) ?_ _
      have O3 : OwnB w1.heap.size w3 (some ⟨w1.heap.size, 0, none⟩) (k + 4) (k + 4) (inN k xs ++ [0, 0, 0, 0]) := by
        rw [← in_short (xs := xs) (k := k) (o := o) (by rw [← LX.out]; exact HO.out), ← LX.out]; exact o3
      have BB : Below w1.heap.size w2 w3 := ((Below.refl w1.heap.size w2).drew).trans b3
      clear o3 b3 z3 o2 hmk ew0 ew2 ew3 ew4 hm1 hm2 h1
      generalize w3 = W3 at *
      have l3 : (inN k xs).length = k := inN_len k xs
      have B3 : Below w.heap.size w W3 := b1.trans ((b2.trans BB).mono b1.size)
      have HL := long_calls (some ⟨w1.heap.size, 0, none⟩) k (k + 4) (inN k xs) (by rw [l3]; unfold maxLen; omega) W3 (by have := O3.isB.1.take k (by simp; omega); rwa [List.take_left' l3] at this) (Nat.le_refl _)
      have HS := unpack_sealed (x := inN k xs) (by omega) (by rw [l3]; exact HK.out)
      have hC := longN_lt (inN k xs)
      rw [be4_list] at HS
      generalize longN (inN k xs) = C at HL hC HS
      have j3 : (C : Int) / 16777216 = ((UInt8.ofNat (C / 16777216)).toNat : Int) := by rw [byteN]; omega
      have j2 : (C : Int) / 65536 % 256 = ((UInt8.ofNat (C / 65536)).toNat : Int) := by rw [byteN]; omega
      have j1 : (C : Int) / 256 % 256 = ((UInt8.ofNat (C / 256)).toNat : Int) := by rw [byteN]; omega
      have j0 : (C : Int) % 256 = ((UInt8.ofNat C).toNat : Int) := by rw [byteN]; omega
      generalize (UInt8.ofNat (C / 16777216)) = v3 at *
      generalize (UInt8.ofNat (C / 65536)) = v2 at *
      generalize (UInt8.ofNat (C / 256)) = v1 at *
      generalize (UInt8.ofNat C) = v0 at *
      clear hHeld hcp
      go_wp2_with fail
      refine HL.mono ?_
      rintro e w4 ⟨rfl, b4⟩
      have O4 := O3.below b4 (Nat.le_refl _)
      have B4 := B3.trans (b4.mono B3.size)
      obtain ⟨g', cur, e, _, hgs, hcur⟩ := O4.block (by omega)
      cases e
      have cells : ∀ i x, (inN k xs ++ [0, 0, 0, 0])[i]? = some x → w4.cell? ⟨w1.heap.size, i, none⟩ = some (.int .u8 (x.toNat : Int)) := by
        intro i x hx
        obtain ⟨b', off', e, _, hc⟩ := O4.isB.1.cell hx
        cases e
        have := hc i x hx
        rwa [Nat.zero_add] at this
      have a0 : w4.cell? ⟨w1.heap.size, k, none⟩ = some (.int .u8 0) := cells k 0 (by rw [List.getElem?_append_right (by omega), l3, Nat.sub_self]; rfl)
      have a1 : w4.cell? ⟨w1.heap.size, k + 1, none⟩ = some (.int .u8 0) := cells (k + 1) 0 (by rw [List.getElem?_append_right (by omega), l3, show k + 1 - k = 1 from by omega]; rfl)
      have a2 : w4.cell? ⟨w1.heap.size, k + 2, none⟩ = some (.int .u8 0) := cells (k + 2) 0 (by rw [List.getElem?_append_right (by omega), l3, show k + 2 - k = 2 from by omega]; rfl)
      have a3 : w4.cell? ⟨w1.heap.size, k + 3, none⟩ = some (.int .u8 0) := cells (k + 3) 0 (by rw [List.getElem?_append_right (by omega), l3, show k + 3 - k = 3 from by omega]; rfl)
      have f0 := frozen_of_block (k := k) hcur
      have f1 := frozen_of_block (k := k + 1) hcur
      have f2 := frozen_of_block (k := k + 2) hcur
      have f3 := frozen_of_block (k := k + 3) hcur
      have O5 := (((O4.set k v3).set (k + 1) v2).set (k + 2) v1).set (k + 3) v0
      rw [set4 _ _ l3] at O5
      have B5 : Below w.heap.size w ((((w4.setCell ⟨w1.heap.size, k, none⟩ (.int .u8 (v3.toNat : Int))).setCell ⟨w1.heap.size, k + 1, none⟩ (.int .u8 (v2.toNat : Int))).setCell ⟨w1.heap.size, k + 2, none⟩ (.int .u8 (v1.toNat : Int))).setCell ⟨w1.heap.size, k + 3, none⟩ (.int .u8 (v0.toNat : Int))) :=
        (((B4.setCell (p := ⟨w1.heap.size, k, none⟩) b1.size _).setCell (p := ⟨w1.heap.size, k + 1, none⟩) b1.size _).setCell (p := ⟨w1.heap.size, k + 2, none⟩) b1.size _).setCell (p := ⟨w1.heap.size, k + 3, none⟩) b1.size _
      obtain ⟨w5, hW5⟩ : ∃ w5, ((((w4.setCell ⟨w1.heap.size, k, none⟩ (.int .u8 (v3.toNat : Int))).setCell ⟨w1.heap.size, k + 1, none⟩ (.int .u8 (v2.toNat : Int))).setCell ⟨w1.heap.size, k + 2, none⟩ (.int .u8 (v1.toNat : Int))).setCell ⟨w1.heap.size, k + 3, none⟩ (.int .u8 (v0.toNat : Int))) = w5 := ⟨_, rfl⟩
      rw [hW5] at O5 B5
      have I5 := O5.isB.1
      have key3 : ∀ w6, Below w5.heap.size w5 w6 → Calls Try.prog 12 #[.slice (some ⟨w1.heap.size, 0, none⟩) (k + 4) (k + 4)] w6 (UpAns (inN k xs ++ [v3, v2, v1, v0]) w6) := fun w6 b => unpack_calls _ _ _ _ w6 (I5.below b (Nat.le_refl _)) b.size (Nat.le_refl _) (by omega)
      have key4 : ∀ w6, Below w5.heap.size w5 w6 → Calls Try.prog 13 #[.slice (some ⟨w1.heap.size, 0, none⟩) (k + 4) (k + 4)] w6 (UpAns (inN k xs ++ [v3, v2, v1, v0]) w6) := fun w6 b => refunpack_all _ _ _ _ w6 (I5.below b (Nat.le_refl _)) b.size (Nat.le_refl _) (by omega)
      have HU : (unpackN (inN k xs ++ [v3, v2, v1, v0])).1.length ≤ 400 := by have := unpack_len (inN k xs ++ [v3, v2, v1, v0]); simp at this; omega
      unfold UpAns at key3 key4
      generalize unpackN (inN k xs ++ [v3, v2, v1, v0]) = U at *
      obtain ⟨us, um, ue⟩ := U
      dsimp only at key3 key4 HU HS
      obtain ⟨V, hV⟩ : ∃ V, us.length = V := ⟨_, rfl⟩
      rw [hV] at key3 key4 HU
      have HU : Hid (V ≤ 400) := HU
      have qe : ((ue : Int) != 4) = true := by rw [bne_iff_ne]; omega
      clear O5 O4 O3 cells I5 HS hV hcur b4 B3 B4 l3 hgs HL
      go_wp2_with fail
      refine (key3 _ (Below.refl _ _)).mono ?_
      rintro e w6 ⟨a6, c6, rfl, i6, n6, b6⟩
      go_wp2_with fail
      refine (key4 _ b6).mono ?_
      rintro e w7 ⟨a7, c7, rfl, i7, n7, b7⟩
      have z7 := b7.size
      have B7 := B5.trans ((b6.trans (b7.mono b6.size)).mono B5.size)
      have i6 := i6.below b7 (Nat.le_refl _)
      clear key3 key4 b6 b7
      go_wp2_with fail
      refine (same_calls _ _ _ _ _ _ _ _ _ i6 i7 z7 (Nat.le_refl _) (by have := HU.out; omega)).mono ?_
      rintro e w8 ⟨rfl, b8⟩
      rw [beq_self_eq_true]
      go_wp2
      go_ret
      exact ⟨rfl, B7.trans (b8.mono B7.size)⟩
    · exact absurd hl0 (by omega)
  · obtain ⟨o, ho⟩ : ∃ o, len = k + o := ⟨len - k, by omega⟩
    have ew0 : IntKind.i64.wrap (k : Int) = (k : Int) := by rw [IntKind.wrap_i64]; omega
    have ew2 : IntKind.i64.wrap ((k : Int) - (len : Int)) = -(o : Int) := by rw [IntKind.wrap_i64]; omega
    have ew3 : IntKind.i64.wrap ((len : Int) - ((k : Int) + 4)) = (o : Int) - 4 := by rw [IntKind.wrap_i64]; omega
    have ew4 : IntKind.i64.wrap ((o : Int) - 4 + 4) = (o : Int) := by rw [IntKind.wrap_i64]; omega
    have ew5 : IntKind.i64.wrap (o : Int) = (o : Int) := by rw [IntKind.wrap_i64]; omega
    have hm1 : (if (o : Int) < 0 then -(o : Int) else 0) = 0 := by split <;> omega
    have hm2 : (if 0 < o then (o : Int) else 0) = (o : Int) := by split <;> omega
    have hmx : max (k : Int) 0 = (k : Int) := by omega
    have hk4 : (k : Int) ≤ (k : Int) + 4 := by omega
    have ho1 : o ≤ len := by omega
    have hlo : len - o = k := by omega
    have hne : ¬ (cap1 = o) := by omega
    have HO : Hid (len = k + o) := ho
    obtain ⟨x, hx⟩ : ∃ x, xs[0]? = some x := ⟨xs[0]'(by have := LX.out; omega), by rw [List.getElem?_eq_getElem]⟩
    obtain ⟨b, off, rfl, hbn, _⟩ := h1.cell hx
    have eb : xs = xs.take o ++ xs.drop o := (List.take_append_drop o xs).symm
    have ID : IsB w.heap.size w2.drew (some ⟨b, off + o, none⟩) k (xs.drop o) := by
      have h' := (h1.below (b1.trans (b2.mono b1.size)) (Nat.le_refl _)).below (m := w.heap.size) (Below.refl w.heap.size w2).drew (Nat.le_refl _)
      rw [eb] at h'
      have := h'.dropA
      rwa [List.length_take, List.length_drop, ← LX.out, Nat.min_eq_left (by omega), hlo] at this
    obtain ⟨w3, hcp, o3, b3, z3⟩ := run_cp_at w2.drew 3 w1.heap.size w1.heap.size (k + 4) 0 k (k + 4) _ (o2.below (Below.refl w2.heap.size w2).drew (Nat.le_refl _)) (Nat.le_refl _) (some ⟨b, off + o, none⟩) k (cap1 - o) _ ID (by omega) (Nat.le_refl _) (by omega)
    clear x hx eb ID ho
    refine wp_region_held_drew (S := (fun _ => True)) (by kernel_rfl) trivial (fun hHeld => ?_)
    refine wpAnyH_take (i := 0) (oi := ({ dst := some 29, op := Op.move (Operand.tmp 6), type := 22, pos := _, after := #[], guard := none } : Oper)) (v := ?_) rfl (by kernel_rfl) (by kernel_rfl) (by kernel_rfl) (fun _ _ _ h => h) (Or.inl ⟨by rfl, ?_⟩) hHeld ?_
    rotate_left
    · (intro w hS; go_simp; try with_reducible rfl)
    try simp only [Act.put, List.setIfInBounds_toArray, List.set_cons_zero, List.set_cons_succ]
    refine wpAnyH_take (i := 1) (oi := ({ dst := some 30, op := Op.move (Operand.tmp 5), type := 3, pos := _, after := #[], guard := none } : Oper)) (v := ?_) rfl (by kernel_rfl) (by kernel_rfl) (by kernel_rfl) (fun _ _ _ h => h) (Or.inl ⟨by rfl, ?_⟩) hHeld ?_
    rotate_left
    · (intro w hS; go_simp; try with_reducible rfl)
    try simp only [Act.put, List.setIfInBounds_toArray, List.set_cons_zero, List.set_cons_succ]
    refine wpAnyH_take (i := 2) (oi := ({ dst := some 31, op := Op.binOp BinOp.sub 3 (Operand.tmp 30) (Operand.const (Value.int IntKind.i64 4)) 3, type := 3, pos := _, after := #[{ on := 1, ground := Ground.data }], guard := none } : Oper)) (v := ?_) rfl (by kernel_rfl) (by kernel_rfl) (by kernel_rfl) (fun _ _ _ h => h) (Or.inl ⟨by rfl, ?_⟩) hHeld ?_
    rotate_left
    · (intro w hS; go_simp; try with_reducible rfl)
    try simp only [Act.put, List.setIfInBounds_toArray, List.set_cons_zero, List.set_cons_succ]
    try rw [ew0]
    refine wpAnyH_take (i := 3) (oi := ({ dst := some 32, op := Op.move (Operand.tmp 0), type := 22, pos := _, after := #[], guard := none } : Oper)) (v := ?_) rfl (by kernel_rfl) (by kernel_rfl) (by kernel_rfl) (fun _ _ _ h => h) (Or.inl ⟨by rfl, ?_⟩) hHeld ?_
    rotate_left
    · (intro w hS; go_simp; try with_reducible rfl)
    try simp only [Act.put, List.setIfInBounds_toArray, List.set_cons_zero, List.set_cons_succ]
    refine wpAnyH_take (i := 4) (oi := ({ dst := some 33, op := Op.call { callee := Callee.builtin Builtin.len, args := #[Operand.tmp 32], argTypes := #[22] }, type := 3, pos := _, after := #[{ on := 3, ground := Ground.data }], guard := none } : Oper)) (v := ?_) rfl (by kernel_rfl) (by kernel_rfl) (by kernel_rfl) (fun _ _ _ h => h) (Or.inl ⟨by rfl, ?_⟩) hHeld ?_
    rotate_left
    · (intro w hS; go_simp; try with_reducible rfl)
    try simp only [Act.put, List.setIfInBounds_toArray, List.set_cons_zero, List.set_cons_succ]
    refine wpAnyH_take (i := 5) (oi := ({ dst := some 34, op := Op.binOp BinOp.sub 3 (Operand.tmp 31) (Operand.tmp 33) 3, type := 3, pos := _, after := #[{ on := 2, ground := Ground.data }, { on := 4, ground := Ground.data }], guard := none } : Oper)) (v := ?_) rfl (by kernel_rfl) (by kernel_rfl) (by kernel_rfl) (fun _ _ _ h => h) (Or.inl ⟨by rfl, ?_⟩) hHeld ?_
    rotate_left
    · (intro w hS; go_simp; try with_reducible rfl)
    try simp only [Act.put, List.setIfInBounds_toArray, List.set_cons_zero, List.set_cons_succ]
    try rw [ew2]
    refine wpAnyH_take (i := 6) (oi := ({ dst := some 35, op := Op.call { callee := Callee.builtin Builtin.max, args := #[Operand.const (Value.int IntKind.i64 0), Operand.tmp 34], argTypes := #[3, 3] }, type := 3, pos := _, after := #[{ on := 5, ground := Ground.data }], guard := none } : Oper)) (v := ?_) rfl (by kernel_rfl) (by kernel_rfl) (by kernel_rfl) (fun _ _ _ h => h) (Or.inl ⟨by rfl, ?_⟩) hHeld ?_
    rotate_left
    · (intro w hS; go_simp; try with_reducible rfl)
    try simp only [Act.put, List.setIfInBounds_toArray, List.set_cons_zero, List.set_cons_succ]
    try rw [hm1]
    refine wpAnyH_take (i := 7) (oi := ({ dst := some 36, op := Op.move (Operand.tmp 5), type := 3, pos := _, after := #[], guard := none } : Oper)) (v := ?_) rfl (by kernel_rfl) (by kernel_rfl) (by kernel_rfl) (fun _ _ _ h => h) (Or.inl ⟨by rfl, ?_⟩) hHeld ?_
    rotate_left
    · (intro w hS; go_simp; try with_reducible rfl)
    try simp only [Act.put, List.setIfInBounds_toArray, List.set_cons_zero, List.set_cons_succ]
    refine wpAnyH_take (i := 8) (oi := ({ dst := some 37, op := Op.binOp BinOp.sub 3 (Operand.tmp 36) (Operand.const (Value.int IntKind.i64 4)) 3, type := 3, pos := _, after := #[{ on := 7, ground := Ground.data }], guard := none } : Oper)) (v := ?_) rfl (by kernel_rfl) (by kernel_rfl) (by kernel_rfl) (fun _ _ _ h => h) (Or.inl ⟨by rfl, ?_⟩) hHeld ?_
    rotate_left
    · (intro w hS; go_simp; try with_reducible rfl)
    try simp only [Act.put, List.setIfInBounds_toArray, List.set_cons_zero, List.set_cons_succ]
    try rw [ew0]
    refine wpAnyH_take (i := 9) (oi := ({ dst := some 38, op := Op.slice 22 (Operand.tmp 29) (some (Operand.tmp 35)) (some (Operand.tmp 37)) none, type := 22, pos := _, after := #[{ on := 0, ground := Ground.data }, { on := 6, ground := Ground.data }, { on := 8, ground := Ground.data }], guard := none } : Oper)) (v := ?_) rfl (by kernel_rfl) (by kernel_rfl) (by kernel_rfl) (fun _ _ _ h => h) (Or.inl ⟨by rfl, ?_⟩) hHeld ?_
    rotate_left
    · (intro w hS; go_simp; try with_reducible rfl)
    try simp only [Act.put, List.setIfInBounds_toArray, List.set_cons_zero, List.set_cons_succ]
    refine wpAnyH_take (i := 10) (oi := ({ dst := some 39, op := Op.move (Operand.tmp 0), type := 22, pos := _, after := #[], guard := none } : Oper)) (v := ?_) rfl (by kernel_rfl) (by kernel_rfl) (by kernel_rfl) (fun _ _ _ h => h) (Or.inl ⟨by rfl, ?_⟩) hHeld ?_
    rotate_left
    · (intro w hS; go_simp; try with_reducible rfl)
    try simp only [Act.put, List.setIfInBounds_toArray, List.set_cons_zero, List.set_cons_succ]
    refine wpAnyH_take (i := 11) (oi := ({ dst := some 40, op := Op.move (Operand.tmp 0), type := 22, pos := _, after := #[], guard := none } : Oper)) (v := ?_) rfl (by kernel_rfl) (by kernel_rfl) (by kernel_rfl) (fun _ _ _ h => h) (Or.inl ⟨by rfl, ?_⟩) hHeld ?_
    rotate_left
    · (intro w hS; go_simp; try with_reducible rfl)
    try simp only [Act.put, List.setIfInBounds_toArray, List.set_cons_zero, List.set_cons_succ]
    refine wpAnyH_take (i := 12) (oi := ({ dst := some 41, op := Op.call { callee := Callee.builtin Builtin.len, args := #[Operand.tmp 40], argTypes := #[22] }, type := 3, pos := _, after := #[{ on := 11, ground := Ground.data }], guard := none } : Oper)) (v := ?_) rfl (by kernel_rfl) (by kernel_rfl) (by kernel_rfl) (fun _ _ _ h => h) (Or.inl ⟨by rfl, ?_⟩) hHeld ?_
    rotate_left
    · (intro w hS; go_simp; try with_reducible rfl)
    try simp only [Act.put, List.setIfInBounds_toArray, List.set_cons_zero, List.set_cons_succ]
    refine wpAnyH_take (i := 13) (oi := ({ dst := some 42, op := Op.move (Operand.tmp 5), type := 3, pos := _, after := #[], guard := none } : Oper)) (v := ?_) rfl (by kernel_rfl) (by kernel_rfl) (by kernel_rfl) (fun _ _ _ h => h) (Or.inl ⟨by rfl, ?_⟩) hHeld ?_
    rotate_left
    · (intro w hS; go_simp; try with_reducible rfl)
    try simp only [Act.put, List.setIfInBounds_toArray, List.set_cons_zero, List.set_cons_succ]
    refine wpAnyH_take (i := 14) (oi := ({ dst := some 43, op := Op.binOp BinOp.sub 3 (Operand.tmp 41) (Operand.tmp 42) 3, type := 3, pos := _, after := #[{ on := 12, ground := Ground.data }, { on := 13, ground := Ground.data }], guard := none } : Oper)) (v := ?_) rfl (by kernel_rfl) (by kernel_rfl) (by kernel_rfl) (fun _ _ _ h => h) (Or.inl ⟨by rfl, ?_⟩) hHeld ?_
    rotate_left
    · (intro w hS; go_simp; try with_reducible rfl)
    try simp only [Act.put, List.setIfInBounds_toArray, List.set_cons_zero, List.set_cons_succ]
    try rw [ew3]
    refine wpAnyH_take (i := 15) (oi := ({ dst := some 44, op := Op.binOp BinOp.add 3 (Operand.tmp 43) (Operand.const (Value.int IntKind.i64 4)) 3, type := 3, pos := _, after := #[{ on := 14, ground := Ground.data }], guard := none } : Oper)) (v := ?_) rfl (by kernel_rfl) (by kernel_rfl) (by kernel_rfl) (fun _ _ _ h => h) (Or.inl ⟨by rfl, ?_⟩) hHeld ?_
    rotate_left
    · (intro w hS; go_simp; try with_reducible rfl)
    try simp only [Act.put, List.setIfInBounds_toArray, List.set_cons_zero, List.set_cons_succ]
    try rw [ew5]
    refine wpAnyH_take (i := 16) (oi := ({ dst := some 45, op := Op.call { callee := Callee.builtin Builtin.max, args := #[Operand.const (Value.int IntKind.i64 0), Operand.tmp 44], argTypes := #[3, 3] }, type := 3, pos := _, after := #[{ on := 15, ground := Ground.data }], guard := none } : Oper)) (v := ?_) rfl (by kernel_rfl) (by kernel_rfl) (by kernel_rfl) (fun _ _ _ h => h) (Or.inl ⟨by rfl, ?_⟩) hHeld ?_
    rotate_left
    · (intro w hS; go_simp; try with_reducible rfl)
    try simp only [Act.put, List.setIfInBounds_toArray, List.set_cons_zero, List.set_cons_succ]
    try rw [hm2]
    refine wpAnyH_take (i := 17) (oi := ({ dst := some 46, op := Op.slice 22 (Operand.tmp 39) (some (Operand.tmp 45)) none none, type := 22, pos := _, after := #[{ on := 10, ground := Ground.data }, { on := 16, ground := Ground.data }], guard := none } : Oper)) (v := ?_) rfl (by kernel_rfl) (by kernel_rfl) (by kernel_rfl) (fun _ _ _ h => h) (Or.inl ⟨by rfl, ?_⟩) hHeld ?_
    rotate_left
    · (intro w hS; go_simp; try with_reducible rfl)
    try simp only [Act.put, List.setIfInBounds_toArray, List.set_cons_zero, List.set_cons_succ]
    refine wpAnyH_ready (rs := [18]) (by kernel_rfl) (by simp) ?_
    refine AllReadyH.cons (o := ({ dst := some 47, op := Op.call { callee := Callee.builtin Builtin.copy, args := #[Operand.tmp 38, Operand.tmp 46], argTypes := #[22, 22] }, type := 3, pos := _, after := #[{ on := 9, ground := Ground.data }, { on := 17, ground := Ground.data }], guard := none } : Oper)) rfl (fun K hK => ?_) AllReadyH.nil
    refine step_cp hcp _ _ rfl rfl rfl rfl rfl ?_
    skip
    refine hK.out _ _ trivial (fun hHeld => ?_)
    clear hK K
    try simp only [Act.put, List.setIfInBounds_toArray, List.set_cons_zero, List.set_cons_succ]
    refine wpAnyH_done (by kernel_rfl) ?_ _
    have O3 : OwnB w1.heap.size w3 (some ⟨w1.heap.size, 0, none⟩) (k + 4) (k + 4) (inN k xs ++ [0, 0, 0, 0]) := by
      rw [← in_long (xs := xs) (k := k) (by have := LX.out; omega), ← LX.out, show len - k = o from by have := HO.out; omega]; exact o3
    have BB : Below w1.heap.size w2 w3 := ((Below.refl w1.heap.size w2).drew).trans b3
    clear o3 b3 z3 o2 hmk ew0 ew2 ew3 ew4 ew5 hm1 hm2 h1
    generalize w3 = W3 at *
    have l3 : (inN k xs).length = k := inN_len k xs
    have B3 : Below w.heap.size w W3 := b1.trans ((b2.trans BB).mono b1.size)
    have HL := long_calls (some ⟨w1.heap.size, 0, none⟩) k (k + 4) (inN k xs) (by rw [l3]; unfold maxLen; omega) W3 (by have := O3.isB.1.take k (by simp; omega); rwa [List.take_left' l3] at this) (Nat.le_refl _)
    have HS := unpack_sealed (x := inN k xs) (by omega) (by rw [l3]; exact HK.out)
    have hC := longN_lt (inN k xs)
    rw [be4_list] at HS
    generalize longN (inN k xs) = C at HL hC HS
    have j3 : (C : Int) / 16777216 = ((UInt8.ofNat (C / 16777216)).toNat : Int) := by rw [byteN]; omega
    have j2 : (C : Int) / 65536 % 256 = ((UInt8.ofNat (C / 65536)).toNat : Int) := by rw [byteN]; omega
    have j1 : (C : Int) / 256 % 256 = ((UInt8.ofNat (C / 256)).toNat : Int) := by rw [byteN]; omega
    have j0 : (C : Int) % 256 = ((UInt8.ofNat C).toNat : Int) := by rw [byteN]; omega
    generalize (UInt8.ofNat (C / 16777216)) = v3 at *
    generalize (UInt8.ofNat (C / 65536)) = v2 at *
    generalize (UInt8.ofNat (C / 256)) = v1 at *
    generalize (UInt8.ofNat C) = v0 at *
    clear hHeld hcp
    go_wp2_with fail
    refine HL.mono ?_
    rintro e w4 ⟨rfl, b4⟩
    have O4 := O3.below b4 (Nat.le_refl _)
    have B4 := B3.trans (b4.mono B3.size)
    obtain ⟨g', cur, e, _, hgs, hcur⟩ := O4.block (by omega)
    cases e
    have cells : ∀ i x, (inN k xs ++ [0, 0, 0, 0])[i]? = some x → w4.cell? ⟨w1.heap.size, i, none⟩ = some (.int .u8 (x.toNat : Int)) := by
      intro i x hx
      obtain ⟨b', off', e, _, hc⟩ := O4.isB.1.cell hx
      cases e
      have := hc i x hx
      rwa [Nat.zero_add] at this
    have a0 : w4.cell? ⟨w1.heap.size, k, none⟩ = some (.int .u8 0) := cells k 0 (by rw [List.getElem?_append_right (by omega), l3, Nat.sub_self]; rfl)
    have a1 : w4.cell? ⟨w1.heap.size, k + 1, none⟩ = some (.int .u8 0) := cells (k + 1) 0 (by rw [List.getElem?_append_right (by omega), l3, show k + 1 - k = 1 from by omega]; rfl)
    have a2 : w4.cell? ⟨w1.heap.size, k + 2, none⟩ = some (.int .u8 0) := cells (k + 2) 0 (by rw [List.getElem?_append_right (by omega), l3, show k + 2 - k = 2 from by omega]; rfl)
    have a3 : w4.cell? ⟨w1.heap.size, k + 3, none⟩ = some (.int .u8 0) := cells (k + 3) 0 (by rw [List.getElem?_append_right (by omega), l3, show k + 3 - k = 3 from by omega]; rfl)
    have f0 := frozen_of_block (k := k) hcur
    have f1 := frozen_of_block (k := k + 1) hcur
    have f2 := frozen_of_block (k := k + 2) hcur
    have f3 := frozen_of_block (k := k + 3) hcur
    have O5 := (((O4.set k v3).set (k + 1) v2).set (k + 2) v1).set (k + 3) v0
    rw [set4 _ _ l3] at O5
    have B5 : Below w.heap.size w ((((w4.setCell ⟨w1.heap.size, k, none⟩ (.int .u8 (v3.toNat : Int))).setCell ⟨w1.heap.size, k + 1, none⟩ (.int .u8 (v2.toNat : Int))).setCell ⟨w1.heap.size, k + 2, none⟩ (.int .u8 (v1.toNat : Int))).setCell ⟨w1.heap.size, k + 3, none⟩ (.int .u8 (v0.toNat : Int))) :=
      (((B4.setCell (p := ⟨w1.heap.size, k, none⟩) b1.size _).setCell (p := ⟨w1.heap.size, k + 1, none⟩) b1.size _).setCell (p := ⟨w1.heap.size, k + 2, none⟩) b1.size _).setCell (p := ⟨w1.heap.size, k + 3, none⟩) b1.size _
    obtain ⟨w5, hW5⟩ : ∃ w5, ((((w4.setCell ⟨w1.heap.size, k, none⟩ (.int .u8 (v3.toNat : Int))).setCell ⟨w1.heap.size, k + 1, none⟩ (.int .u8 (v2.toNat : Int))).setCell ⟨w1.heap.size, k + 2, none⟩ (.int .u8 (v1.toNat : Int))).setCell ⟨w1.heap.size, k + 3, none⟩ (.int .u8 (v0.toNat : Int))) = w5 := ⟨_, rfl⟩
    rw [hW5] at O5 B5
    have I5 := O5.isB.1
    have key3 : ∀ w6, Below w5.heap.size w5 w6 → Calls Try.prog 12 #[.slice (some ⟨w1.heap.size, 0, none⟩) (k + 4) (k + 4)] w6 (UpAns (inN k xs ++ [v3, v2, v1, v0]) w6) := fun w6 b => unpack_calls _ _ _ _ w6 (I5.below b (Nat.le_refl _)) b.size (Nat.le_refl _) (by omega)
    have key4 : ∀ w6, Below w5.heap.size w5 w6 → Calls Try.prog 13 #[.slice (some ⟨w1.heap.size, 0, none⟩) (k + 4) (k + 4)] w6 (UpAns (inN k xs ++ [v3, v2, v1, v0]) w6) := fun w6 b => refunpack_all _ _ _ _ w6 (I5.below b (Nat.le_refl _)) b.size (Nat.le_refl _) (by omega)
    have HU : (unpackN (inN k xs ++ [v3, v2, v1, v0])).1.length ≤ 400 := by have := unpack_len (inN k xs ++ [v3, v2, v1, v0]); simp at this; omega
    unfold UpAns at key3 key4
    generalize unpackN (inN k xs ++ [v3, v2, v1, v0]) = U at *
    obtain ⟨us, um, ue⟩ := U
    dsimp only at key3 key4 HU HS
    obtain ⟨V, hV⟩ : ∃ V, us.length = V := ⟨_, rfl⟩
    rw [hV] at key3 key4 HU
    have HU : Hid (V ≤ 400) := HU
    have qe : ((ue : Int) != 4) = true := by rw [bne_iff_ne]; omega
    clear O5 O4 O3 cells I5 HS hV hcur b4 B3 B4 l3 hgs HL
    go_wp2_with fail
    refine (key3 _ (Below.refl _ _)).mono ?_
    rintro e w6 ⟨a6, c6, rfl, i6, n6, b6⟩
    go_wp2_with fail
    refine (key4 _ b6).mono ?_
    rintro e w7 ⟨a7, c7, rfl, i7, n7, b7⟩
    have z7 := b7.size
    have B7 := B5.trans ((b6.trans (b7.mono b6.size)).mono B5.size)
    have i6 := i6.below b7 (Nat.le_refl _)
    clear key3 key4 b6 b7
    go_wp2_with fail
    refine (same_calls _ _ _ _ _ _ _ _ _ i6 i7 z7 (Nat.le_refl _) (by have := HU.out; omega)).mono ?_
    rintro e w8 ⟨rfl, b8⟩
    rw [beq_self_eq_true]
    go_wp2
    go_ret
    exact ⟨rfl, B7.trans (b8.mono B7.size)⟩
end Go.Proofs.Ytdipffgmjmhjaaa
