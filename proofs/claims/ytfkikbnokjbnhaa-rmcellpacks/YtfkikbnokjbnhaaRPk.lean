/- Proved here: what the document's Pack of cells of rates answers. Conditions: as each theorem states them. -/
import Derived.Test.YtfkikbnokjbnhaaLa
import Derived.Test.YtfkikbnokjbnhaaRs
import Derived.Test.YtfkikbnokjbnhaaRf
namespace Go.Proofs.Ytfkikbnokjbnhaa
set_option linter.unusedSimpArgs false
set_option linter.unusedVariables false
open Go.RowKit

theorem bit_calls (b : Bool) (n : Nat) (m : Int) (hm : m = (n : Int)) (w : World) : Calls Try.prog 27 #[.bool b, .int .i64 m] w fun e w' => e = .returned (.int .i64 (bN b n : Nat)) ∧ w' = w := by
  subst hm
  cases b with
  | true =>
    go_enter Try.func27, Try.ntmps27
    go_wp2
    go_ret
    exact ⟨rfl, rfl⟩
  | false =>
    go_enter Try.func27, Try.ntmps27
    go_wp2
    go_ret
    exact ⟨rfl, rfl⟩

theorem wr_small (x : Int) (h0 : 0 ≤ x) (h1 : x ≤ 1000) : IntKind.i64.wrap x = x := by rw [IntKind.wrap_i64]; omega
theorem sums_small {g1 g2 g3 g4 g5 : Nat} {f8 : UInt8} (l1 : (g1 : Int) ≤ 128) (l2 : (g2 : Int) ≤ 64) (l3 : (g3 : Int) ≤ 32) (l4 : (g4 : Int) ≤ 16) (l5 : (g5 : Int) ≤ 8) (h : ((g1 + g2 + g3 + g4 + g5 : Nat) : Int) = (f8.toNat : Int)) :
    IntKind.i64.wrap ((g1 : Int) + (g2 : Int)) = (g1 : Int) + (g2 : Int) ∧ IntKind.i64.wrap ((g1 : Int) + (g2 : Int) + (g3 : Int)) = (g1 : Int) + (g2 : Int) + (g3 : Int) ∧
    IntKind.i64.wrap ((g1 : Int) + (g2 : Int) + (g3 : Int) + (g4 : Int)) = (g1 : Int) + (g2 : Int) + (g3 : Int) + (g4 : Int) ∧ IntKind.i64.wrap ((g1 : Int) + (g2 : Int) + (g3 : Int) + (g4 : Int) + (g5 : Int)) = (g1 : Int) + (g2 : Int) + (g3 : Int) + (g4 : Int) + (g5 : Int) ∧
    IntKind.u8.wrap ((g1 : Int) + (g2 : Int) + (g3 : Int) + (g4 : Int) + (g5 : Int)) = (f8.toNat : Int) := by
  refine ⟨wr_small _ (by omega) (by omega), wr_small _ (by omega) (by omega), wr_small _ (by omega) (by omega), wr_small _ (by omega) (by omega), ?_⟩
  rw [IntKind.wrap_u8, ← h]
  omega
/-- A number's last bytes, the higher one first. -/
def bsN (n : Nat) : Nat → List UInt8
  | 0 => []
  | k + 1 => UInt8.ofNat (n / 256 ^ k) :: bsN n k
theorem bs_len (n : Nat) : ∀ k, (bsN n k).length = k
  | 0 => rfl
  | k + 1 => by rw [bsN, List.length_cons, bs_len n k]
theorem bs_two (n : Nat) : bsN n 2 = be2 n := by simp [bsN, be2]
theorem bs_four (n : Nat) : bsN n 4 = be4 n := by simp [bsN, be4]

theorem ownB_lit (base : Nat) (w : World) (zs : List UInt8) (hb : base ≤ w.heap.size) (hl : zs.length ≤ 100000) : OwnB base (w.alloc (.cells (vals zs).toArray 5)) (some ⟨w.heap.size, 0, none⟩) zs.length zs.length zs :=
  ⟨rfl, by simp [vals], .inr ⟨w.heap.size, zs.length, _, rfl, hb, World.alloc_heap_new w _, Nat.le_refl _, by unfold maxLen; omega, by simp [vals], by
    rw [List.take_of_length_le (by simp [vals])]⟩⟩

set_option maxHeartbeats 2000000 in
theorem bytes_calls (n many : Nat) (M : Int) (hM : M = (many : Int)) (hn : n < 4294967296) (hm : many ≤ 8) (w : World) : Calls Try.prog 28 #[.int .i64 (n : Int), .int .i64 M] w fun e w' => ∃ a c, e = .returned (.slice a many c) ∧ OwnB w.heap.size w' a many c (bsN n many) ∧ Below w.heap.size w w' := by
  subst hM
  go_enter Try.func28, Try.ntmps28
  go_wp2
  go_loopw [0, 5, 6] (fun nv v i wr => ∃ (k x : Nat) (a : Option Addr) (c : Nat), k ≤ many ∧ nv = .int .i64 x ∧ (x : Int) < 4294967296 ∧ Hid (x = n / 256 ^ k) ∧ v = .slice a k c ∧ i = .int .i64 k ∧ OwnB w.heap.size wr a k c (bsN n k) ∧ Below w.heap.size w wr) (fun _ _ i _ => many - (intOf i).toNat)
  case atStart => exact ⟨0, n, none, 0, by omega, rfl, by omega, by simp [Hid], rfl, rfl, ⟨rfl, World.ownsRow_nil _ _ _ _⟩, Below.refl _ _⟩
  case round =>
    obtain ⟨k, x, a, c, hk, rfl, hx, HX, rfl, rfl, ok, bk⟩ := hrel
    by_cases hlt : k < many
    · obtain ⟨v, hv⟩ : ∃ v, UInt8.ofNat x = v := ⟨_, rfl⟩
      have hv1 : (x : Int) % 256 = (v.toNat : Int) := by rw [← hv]; exact lo_byte x
      have hw : IntKind.u8.wrap (v.toNat : Int) = (v.toNat : Int) := by rw [IntKind.wrap_u8]; have := v.toNat_lt; omega
      obtain ⟨y, hy⟩ : ∃ y, x / 256 = y := ⟨_, rfl⟩
      have hy1 : (x : Int) / 256 = (y : Int) := by omega
      have HY : Hid (y = n / 256 ^ (k + 1)) := by
        show y = _
        rw [← hy, HX.out, Nat.div_div_eq_div_mul, Nat.pow_succ]
      have hb : bsN n (k + 1) = [v] ++ bsN n k := by rw [bsN, ← HX.out, hv]; rfl
      have hyl : (y : Int) < 4294967296 := by omega
      obtain ⟨w6, hW6⟩ : ∃ w6, wr.alloc (.cells #[.int .u8 (v.toNat : Int)] 5) = w6 := ⟨_, rfl⟩
      have J6 : OwnB w.heap.size w6 (some ⟨wr.heap.size, 0, none⟩) 1 1 [v] := by rw [← hW6]; exact ownB_lit w.heap.size wr [v] bk.size (by show 1 ≤ 100000; omega)
      have s6 : Below wr.heap.size wr w6 := by rw [← hW6]; exact (Below.refl _ wr).alloc (Nat.le_refl _) _
      obtain ⟨a7, c7, w7, hap7, o7, b7⟩ := run_app w6 w.heap.size 32 _ _ _ _ J6 a k c _ (ok.below s6 (Nat.le_refl _)).isB.1 ok.isB.2.1 (by omega) (by have := s6.size; have := bk.size; omega)
      rw [← hb, show 1 + k = k + 1 by omega] at o7
      rw [show 1 + k = k + 1 by omega] at hap7
      have HO : Hid (OwnB w.heap.size w7 a7 (k + 1) c7 (bsN n (k + 1))) := o7
      have B7 : Hid (Below w.heap.size w w7) := bk.trans ((s6.mono bk.size).trans b7)
      clear J6 s6 o7 b7 ok bk hb hv hy HX
      go_wp2_with (at_builtin; refine wpList_app hap7 _ _ rfl rfl rfl rfl rfl ?_)
      go_roundw
      case rel => exact ⟨k + 1, y, a7, c7, by omega, rfl, hyl, HY, rfl, by go_num, HO.out, B7.out⟩
      case measure => simp [intOf]; omega
    · obtain rfl : k = many := by omega
      go_wp2
      go_ret
      exact ⟨a, c, rfl, ok, bk⟩

set_option maxHeartbeats 2000000 in
theorem refpack_no (r : Rm) (h : r.Ok) (hc : canB r = false) (w : World) : Calls Try.prog 11 #[.agg (rmV r)] w fun e w' => e = .returned (.slice none 0 0) ∧ Below w.heap.size w w' := by
  have A0 : Below w.heap.size w (w.alloc (.cells (rmV r) 25)) := (Below.refl _ w).alloc (Nat.le_refl _) _
  obtain ⟨_, _, _, _, _, c5, c6, c7, _⟩ := (bk_new w (rmV r) 25).rm
  have H1 := fun w => refright_calls r.er h.er w
  have H2 := fun w => refright_calls r.cc h.cc w
  have H3 := fun w => refright_calls r.mc h.mc w
  obtain ⟨q1, q2, q3, _, _⟩ := h
  unfold canB at hc
  generalize hW : w.alloc (.cells (rmV r) 25) = W at *
  generalize riB r.er = x1 at *
  generalize riB r.cc = x2 at *
  generalize riB r.mc = x3 at *
  have HC : Hid ((x1 && (x2 && x3)) = false) := hc
  clear hc
  go_enter Try.func11, Try.ntmps11
  go_wp2_with fail
  refine (H1 _).mono ?_
  rintro e w1 ⟨rfl, rfl⟩
  cases x1
  · go_wp2
    go_ret
    exact ⟨rfl, A0⟩
  go_wp2_with fail
  refine (H2 _).mono ?_
  rintro e w1 ⟨rfl, rfl⟩
  cases x2
  · go_wp2
    go_ret
    exact ⟨rfl, A0⟩
  go_wp2_with fail
  refine (H3 _).mono ?_
  rintro e w1 ⟨rfl, rfl⟩
  cases x3
  · go_wp2
    go_ret
    exact ⟨rfl, A0⟩
  · have := HC.out
    cases this

set_option maxRecDepth 100000 in
set_option maxHeartbeats 8000000 in
theorem refpack_yes (r : Rm) (h : r.Ok) (hc : canB r = true) (w : World) : Calls Try.prog 11 #[.agg (rmV r)] w fun e w' => ∃ a c, e = .returned (.slice a 48 c) ∧ IsB w'.heap.size w' a 48 (payN r) ∧ Below w.heap.size w w' := by
  have A0 : Below w.heap.size w (w.alloc (.cells (rmV r) 25)) := (Below.refl _ w).alloc (Nat.le_refl _) _
  have K0 := bk_new w (rmV r) 25
  have z0 : (w.alloc (.cells (rmV r) 25)).heap.size = w.heap.size + 1 := by simp
  obtain ⟨_, _, _, _, _, c5, c6, c7, _⟩ := K0.rm
  have H1 := fun w => refright_calls r.er h.er w
  have H2 := fun w => refright_calls r.cc h.cc w
  have H3 := fun w => refright_calls r.mc h.mc w
  obtain ⟨hc1, hc2⟩ := Bool.and_eq_true_iff.1 hc
  obtain ⟨hc2, hc3⟩ := Bool.and_eq_true_iff.1 hc2
  rw [hc1] at H1
  rw [hc2] at H2
  rw [hc3] at H3
  obtain ⟨q1, q2, q3, q4, q5⟩ := h
  have G1 := fun w => bit_calls r.bk 128 128 rfl w
  have G2 := fun w => bit_calls r.nr 64 64 rfl w
  have G3 := fun w => bit_calls r.ci 32 32 rfl w
  have G4 := fun w => bit_calls r.ni 16 16 rfl w
  have G5 := fun w => bit_calls r.ra 8 8 rfl w
  have E1 := fun w => bytes_calls r.er 2 2 rfl (by omega) (by decide) w
  have E2 := fun w => bytes_calls r.cc 2 2 rfl (by omega) (by decide) w
  have E3 := fun w => bytes_calls r.mc 2 2 rfl (by omega) (by decide) w
  have E4 := fun w => bytes_calls r.ql 4 4 rfl q4 (by decide) w
  have E5 := fun w => bytes_calls r.sn 4 4 rfl q5 (by decide) w
  have HH : Hid ([1, UInt8.ofNat (flagN r)] ++ bsN r.er 2 ++ bsN r.cc 2 ++ bsN r.mc 2 ++ bsN r.ql 4 ++ bsN r.sn 4 = headN r) := by
    rw [Hid, bs_two, bs_two, bs_two, bs_four, bs_four]; rfl
  have hf8 : (flagN r : Int) = ((UInt8.ofNat (flagN r)).toNat : Int) := by rw [byteN]; have := flag_lt r; omega
  have hfe : flagN r = bN r.bk 128 + bN r.nr 64 + bN r.ci 32 + bN r.ni 16 + bN r.ra 8 := rfl
  have bl : ∀ b n, bN b n ≤ n := by intro b n; unfold bN; split <;> omega
  have l1 : (bN r.bk 128 : Int) ≤ 128 := by have := bl r.bk 128; omega
  have l2 : (bN r.nr 64 : Int) ≤ 64 := by have := bl r.nr 64; omega
  have l3 : (bN r.ci 32 : Int) ≤ 32 := by have := bl r.ci 32; omega
  have l4 : (bN r.ni 16 : Int) ≤ 16 := by have := bl r.ni 16; omega
  have l5 : (bN r.ra 8 : Int) ≤ 8 := by have := bl r.ra 8; omega
  rw [hfe] at hf8
  rw [hfe] at HH
  generalize bN r.bk 128 = g1 at *
  generalize bN r.nr 64 = g2 at *
  generalize bN r.ci 32 = g3 at *
  generalize bN r.ni 16 = g4 at *
  generalize bN r.ra 8 = g5 at *
  generalize UInt8.ofNat (g1 + g2 + g3 + g4 + g5) = f8 at *
  obtain ⟨hs2, hs3, hs4, hs5, hw8⟩ := sums_small l1 l2 l3 l4 l5 hf8
  generalize hW : w.alloc (.cells (rmV r) 25) = W at *
  obtain ⟨W2, hW2⟩ : ∃ W2, (W.alloc (.cells #[.int .u8 1, .int .u8 (f8.toNat : Int)] 5)).drew = W2 := ⟨_, rfl⟩
  have O2 : OwnB (w.heap.size + 1) W2 (some ⟨w.heap.size + 1, 0, none⟩) 2 2 [1, f8] := by
    rw [← hW2]
    have := (ownB_lit (w.heap.size + 1) W [1, f8] (by omega) (by show 2 ≤ 100000; omega)).below ((Below.refl _ _).drew) (Nat.le_refl _)
    rw [z0] at this
    exact this
  have b2 : Below W.heap.size W W2 := by rw [← hW2]; exact ((Below.refl _ W).alloc (Nat.le_refl _) _).drew
  have K2 := K0.below b2 K0.lt
  have B2 := A0.trans (b2.mono A0.size)
  have Z2 : w.heap.size + 1 ≤ W2.heap.size := by have := b2.size; omega
  clear hc hc1 hc2 hc3 hfe bl hf8 b2
  go_enter Try.func11, Try.ntmps11
  go_wp2_with fail
  refine (H1 _).mono ?_
  rintro e w1 ⟨rfl, rfl⟩
  go_wp2_with fail
  refine (H2 _).mono ?_
  rintro e w1 ⟨rfl, rfl⟩
  go_wp2_with fail
  refine (H3 _).mono ?_
  rintro e w1 ⟨rfl, rfl⟩
  go_wp2
  clear H1 H2 H3
  refine wp_region_held_drew (S := (fun w' => BK w' w.heap.size (rmV r) 25 ∧ Below w.heap.size w w' ∧ w.heap.size + 1 ≤ w'.heap.size)) (by kernel_rfl) ⟨K0.drew, A0.drew, Nat.le_of_eq z0.symm⟩ (fun hHeld => ?_)
  refine wpAnyH_take (i := 0) (oi := ({ dst := some 23, op := Op.fieldAddr 25 (Operand.tmp 1) 0, type := 0, pos := _, after := #[], guard := none } : Oper)) (v := ?_) rfl (by kernel_rfl) (by kernel_rfl) (by kernel_rfl) (fun _ _ _ h => h) (Or.inl ⟨by rfl, ?_⟩) hHeld ?_
  rotate_left
  · (intro w hS; go_simp; try with_reducible rfl)
  try simp only [Act.put, List.setIfInBounds_toArray, List.set_cons_zero, List.set_cons_succ]
  refine wpAnyH_take (i := 1) (oi := ({ dst := some 24, op := Op.load 4 (Operand.tmp 23), type := 4, pos := _, after := #[{ on := 0, ground := Ground.data }], guard := none } : Oper)) (v := ?_) rfl (by kernel_rfl) (by kernel_rfl) (by kernel_rfl) (fun _ _ _ h => h) (Or.inl ⟨by rfl, ?_⟩) hHeld ?_
  rotate_left
  · (intro w hS; obtain ⟨k0, k1, k2, k3, k4, _⟩ := hS.1.rm; go_simp; try with_reducible rfl)
  try simp only [Act.put, List.setIfInBounds_toArray, List.set_cons_zero, List.set_cons_succ]
  refine wpAnyH_take (i := 3) (oi := ({ dst := some 26, op := Op.fieldAddr 25 (Operand.tmp 1) 1, type := 0, pos := _, after := #[], guard := none } : Oper)) (v := ?_) rfl (by kernel_rfl) (by kernel_rfl) (by kernel_rfl) (fun _ _ _ h => h) (Or.inl ⟨by rfl, ?_⟩) hHeld ?_
  rotate_left
  · (intro w hS; go_simp; try with_reducible rfl)
  try simp only [Act.put, List.setIfInBounds_toArray, List.set_cons_zero, List.set_cons_succ]
  refine wpAnyH_take (i := 4) (oi := ({ dst := some 27, op := Op.load 4 (Operand.tmp 26), type := 4, pos := _, after := #[{ on := 3, ground := Ground.data }], guard := none } : Oper)) (v := ?_) rfl (by kernel_rfl) (by kernel_rfl) (by kernel_rfl) (fun _ _ _ h => h) (Or.inl ⟨by rfl, ?_⟩) hHeld ?_
  rotate_left
  · (intro w hS; obtain ⟨k0, k1, k2, k3, k4, _⟩ := hS.1.rm; go_simp; try with_reducible rfl)
  try simp only [Act.put, List.setIfInBounds_toArray, List.set_cons_zero, List.set_cons_succ]
  refine wpAnyH_take (i := 7) (oi := ({ dst := some 30, op := Op.fieldAddr 25 (Operand.tmp 1) 2, type := 0, pos := _, after := #[], guard := none } : Oper)) (v := ?_) rfl (by kernel_rfl) (by kernel_rfl) (by kernel_rfl) (fun _ _ _ h => h) (Or.inl ⟨by rfl, ?_⟩) hHeld ?_
  rotate_left
  · (intro w hS; go_simp; try with_reducible rfl)
  try simp only [Act.put, List.setIfInBounds_toArray, List.set_cons_zero, List.set_cons_succ]
  refine wpAnyH_take (i := 8) (oi := ({ dst := some 31, op := Op.load 4 (Operand.tmp 30), type := 4, pos := _, after := #[{ on := 7, ground := Ground.data }], guard := none } : Oper)) (v := ?_) rfl (by kernel_rfl) (by kernel_rfl) (by kernel_rfl) (fun _ _ _ h => h) (Or.inl ⟨by rfl, ?_⟩) hHeld ?_
  rotate_left
  · (intro w hS; obtain ⟨k0, k1, k2, k3, k4, _⟩ := hS.1.rm; go_simp; try with_reducible rfl)
  try simp only [Act.put, List.setIfInBounds_toArray, List.set_cons_zero, List.set_cons_succ]
  refine wpAnyH_take (i := 11) (oi := ({ dst := some 34, op := Op.fieldAddr 25 (Operand.tmp 1) 3, type := 0, pos := _, after := #[], guard := none } : Oper)) (v := ?_) rfl (by kernel_rfl) (by kernel_rfl) (by kernel_rfl) (fun _ _ _ h => h) (Or.inl ⟨by rfl, ?_⟩) hHeld ?_
  rotate_left
  · (intro w hS; go_simp; try with_reducible rfl)
  try simp only [Act.put, List.setIfInBounds_toArray, List.set_cons_zero, List.set_cons_succ]
  refine wpAnyH_take (i := 12) (oi := ({ dst := some 35, op := Op.load 4 (Operand.tmp 34), type := 4, pos := _, after := #[{ on := 11, ground := Ground.data }], guard := none } : Oper)) (v := ?_) rfl (by kernel_rfl) (by kernel_rfl) (by kernel_rfl) (fun _ _ _ h => h) (Or.inl ⟨by rfl, ?_⟩) hHeld ?_
  rotate_left
  · (intro w hS; obtain ⟨k0, k1, k2, k3, k4, _⟩ := hS.1.rm; go_simp; try with_reducible rfl)
  try simp only [Act.put, List.setIfInBounds_toArray, List.set_cons_zero, List.set_cons_succ]
  refine wpAnyH_take (i := 15) (oi := ({ dst := some 38, op := Op.fieldAddr 25 (Operand.tmp 1) 4, type := 0, pos := _, after := #[], guard := none } : Oper)) (v := ?_) rfl (by kernel_rfl) (by kernel_rfl) (by kernel_rfl) (fun _ _ _ h => h) (Or.inl ⟨by rfl, ?_⟩) hHeld ?_
  rotate_left
  · (intro w hS; go_simp; try with_reducible rfl)
  try simp only [Act.put, List.setIfInBounds_toArray, List.set_cons_zero, List.set_cons_succ]
  refine wpAnyH_take (i := 16) (oi := ({ dst := some 39, op := Op.load 4 (Operand.tmp 38), type := 4, pos := _, after := #[{ on := 15, ground := Ground.data }], guard := none } : Oper)) (v := ?_) rfl (by kernel_rfl) (by kernel_rfl) (by kernel_rfl) (fun _ _ _ h => h) (Or.inl ⟨by rfl, ?_⟩) hHeld ?_
  rotate_left
  · (intro w hS; obtain ⟨k0, k1, k2, k3, k4, _⟩ := hS.1.rm; go_simp; try with_reducible rfl)
  try simp only [Act.put, List.setIfInBounds_toArray, List.set_cons_zero, List.set_cons_succ]
  refine wpAnyH_ready (rs := [2]) (by kernel_rfl) (by simp) ?_
  refine AllReadyH.cons (o := ({ dst := some 25, op := Op.call { callee := Callee.value (Operand.func 27), args := #[Operand.tmp 24, Operand.const (Value.int IntKind.i64 128)], argTypes := #[4, 3] }, type := 3, pos := _, after := #[{ on := 1, ground := Ground.data }], guard := none } : Oper)) rfl (fun K hK => ?_) AllReadyH.nil
  refine step_call (G1 _) (enters_of Try.func27 (by kernel_rfl) rfl) _ _ rfl rfl rfl ?_
  rintro e v1 ⟨rfl, rfl⟩
  refine ⟨_, rfl, hK.out _ _ hHeld (fun hHeld => ?_)⟩
  clear hK K
  try simp only [Act.put, List.setIfInBounds_toArray, List.set_cons_zero, List.set_cons_succ]
  refine wpAnyH_ready (rs := [5]) (by kernel_rfl) (by simp) ?_
  refine AllReadyH.cons (o := ({ dst := some 28, op := Op.call { callee := Callee.value (Operand.func 27), args := #[Operand.tmp 27, Operand.const (Value.int IntKind.i64 64)], argTypes := #[4, 3] }, type := 3, pos := _, after := #[{ on := 4, ground := Ground.data }, { on := 2, ground := Ground.chain }], guard := none } : Oper)) rfl (fun K hK => ?_) AllReadyH.nil
  refine step_call (G2 _) (enters_of Try.func27 (by kernel_rfl) rfl) _ _ rfl rfl rfl ?_
  rintro e v2 ⟨rfl, rfl⟩
  refine ⟨_, rfl, hK.out _ _ hHeld (fun hHeld => ?_)⟩
  clear hK K
  try simp only [Act.put, List.setIfInBounds_toArray, List.set_cons_zero, List.set_cons_succ]
  refine wpAnyH_take (i := 6) (oi := ({ dst := some 29, op := Op.binOp BinOp.add 3 (Operand.tmp 25) (Operand.tmp 28) 3, type := 3, pos := _, after := #[{ on := 2, ground := Ground.data }, { on := 5, ground := Ground.data }], guard := none } : Oper)) (v := ?_) rfl (by kernel_rfl) (by kernel_rfl) (by kernel_rfl) (fun _ _ _ h => h) (Or.inl ⟨by rfl, ?_⟩) hHeld ?_
  rotate_left
  · (intro w hS; go_simp; try with_reducible rfl)
  try simp only [Act.put, List.setIfInBounds_toArray, List.set_cons_zero, List.set_cons_succ]
  refine wpAnyH_ready (rs := [9]) (by kernel_rfl) (by simp) ?_
  refine AllReadyH.cons (o := ({ dst := some 32, op := Op.call { callee := Callee.value (Operand.func 27), args := #[Operand.tmp 31, Operand.const (Value.int IntKind.i64 32)], argTypes := #[4, 3] }, type := 3, pos := _, after := #[{ on := 8, ground := Ground.data }, { on := 5, ground := Ground.chain }], guard := none } : Oper)) rfl (fun K hK => ?_) AllReadyH.nil
  refine step_call (G3 _) (enters_of Try.func27 (by kernel_rfl) rfl) _ _ rfl rfl rfl ?_
  rintro e v3 ⟨rfl, rfl⟩
  refine ⟨_, rfl, hK.out _ _ hHeld (fun hHeld => ?_)⟩
  clear hK K
  try simp only [Act.put, List.setIfInBounds_toArray, List.set_cons_zero, List.set_cons_succ]
  refine wpAnyH_take (i := 10) (oi := ({ dst := some 33, op := Op.binOp BinOp.add 3 (Operand.tmp 29) (Operand.tmp 32) 3, type := 3, pos := _, after := #[{ on := 6, ground := Ground.data }, { on := 9, ground := Ground.data }], guard := none } : Oper)) (v := ?_) rfl (by kernel_rfl) (by kernel_rfl) (by kernel_rfl) (fun _ _ _ h => h) (Or.inl ⟨by rfl, ?_⟩) hHeld ?_
  rotate_left
  · (intro w hS; go_simp; try with_reducible rfl)
  try simp only [Act.put, List.setIfInBounds_toArray, List.set_cons_zero, List.set_cons_succ]
  refine wpAnyH_ready (rs := [13]) (by kernel_rfl) (by simp) ?_
  refine AllReadyH.cons (o := ({ dst := some 36, op := Op.call { callee := Callee.value (Operand.func 27), args := #[Operand.tmp 35, Operand.const (Value.int IntKind.i64 16)], argTypes := #[4, 3] }, type := 3, pos := _, after := #[{ on := 12, ground := Ground.data }, { on := 9, ground := Ground.chain }], guard := none } : Oper)) rfl (fun K hK => ?_) AllReadyH.nil
  refine step_call (G4 _) (enters_of Try.func27 (by kernel_rfl) rfl) _ _ rfl rfl rfl ?_
  rintro e v4 ⟨rfl, rfl⟩
  refine ⟨_, rfl, hK.out _ _ hHeld (fun hHeld => ?_)⟩
  clear hK K
  try simp only [Act.put, List.setIfInBounds_toArray, List.set_cons_zero, List.set_cons_succ]
  refine wpAnyH_take (i := 14) (oi := ({ dst := some 37, op := Op.binOp BinOp.add 3 (Operand.tmp 33) (Operand.tmp 36) 3, type := 3, pos := _, after := #[{ on := 10, ground := Ground.data }, { on := 13, ground := Ground.data }], guard := none } : Oper)) (v := ?_) rfl (by kernel_rfl) (by kernel_rfl) (by kernel_rfl) (fun _ _ _ h => h) (Or.inl ⟨by rfl, ?_⟩) hHeld ?_
  rotate_left
  · (intro w hS; go_simp; try with_reducible rfl)
  try simp only [Act.put, List.setIfInBounds_toArray, List.set_cons_zero, List.set_cons_succ]
  refine wpAnyH_ready (rs := [17]) (by kernel_rfl) (by simp) ?_
  refine AllReadyH.cons (o := ({ dst := some 40, op := Op.call { callee := Callee.value (Operand.func 27), args := #[Operand.tmp 39, Operand.const (Value.int IntKind.i64 8)], argTypes := #[4, 3] }, type := 3, pos := _, after := #[{ on := 16, ground := Ground.data }, { on := 13, ground := Ground.chain }], guard := none } : Oper)) rfl (fun K hK => ?_) AllReadyH.nil
  refine step_call (G5 _) (enters_of Try.func27 (by kernel_rfl) rfl) _ _ rfl rfl rfl ?_
  rintro e v5 ⟨rfl, rfl⟩
  refine ⟨_, rfl, hK.out _ _ hHeld (fun hHeld => ?_)⟩
  clear hK K
  try simp only [Act.put, List.setIfInBounds_toArray, List.set_cons_zero, List.set_cons_succ]
  refine wpAnyH_take (i := 18) (oi := ({ dst := some 41, op := Op.binOp BinOp.add 3 (Operand.tmp 37) (Operand.tmp 40) 3, type := 3, pos := _, after := #[{ on := 14, ground := Ground.data }, { on := 17, ground := Ground.data }], guard := none } : Oper)) (v := ?_) rfl (by kernel_rfl) (by kernel_rfl) (by kernel_rfl) (fun _ _ _ h => h) (Or.inl ⟨by rfl, ?_⟩) hHeld ?_
  rotate_left
  · (intro w hS; go_simp; try with_reducible rfl)
  try simp only [Act.put, List.setIfInBounds_toArray, List.set_cons_zero, List.set_cons_succ]
  refine wpAnyH_take (i := 19) (oi := ({ dst := some 42, op := Op.convert 3 5 (Operand.tmp 41), type := 5, pos := _, after := #[{ on := 18, ground := Ground.data }], guard := none } : Oper)) (v := ?_) rfl (by kernel_rfl) (by kernel_rfl) (by kernel_rfl) (fun _ _ _ h => h) (Or.inl ⟨by rfl, ?_⟩) hHeld ?_
  rotate_left
  · (intro w hS; go_simp; try with_reducible rfl)
  try simp only [Act.put, List.setIfInBounds_toArray, List.set_cons_zero, List.set_cons_succ]
  refine wpAnyH_ready (rs := [20]) (by kernel_rfl) (by simp) ?_
  refine AllReadyH.cons (o := ({ dst := some 43, op := Op.buildSlice 32 2 #[(0, Operand.const (Value.int IntKind.u8 1)), (1, Operand.tmp 42)], type := 32, pos := _, after := #[{ on := 19, ground := Ground.data }], guard := none } : Oper)) rfl (fun K hK => ?_) AllReadyH.nil
  go_simp
  skip
  refine hK.out _ _ ⟨K2, B2, Z2⟩ (fun hHeld => ?_)
  clear hK K
  try simp only [Act.put, List.setIfInBounds_toArray, List.set_cons_zero, List.set_cons_succ]
  refine wpAnyH_take (i := 21) (oi := ({ dst := some 3, op := Op.assign (Operand.tmp 43), type := 32, pos := _, after := #[{ on := 20, ground := Ground.data }, { on := 17, ground := Ground.chain }, { on := 0, ground := Ground.phase }, { on := 1, ground := Ground.phase }, { on := 2, ground := Ground.phase }, { on := 3, ground := Ground.phase }, { on := 4, ground := Ground.phase }, { on := 5, ground := Ground.phase }, { on := 6, ground := Ground.phase }, { on := 7, ground := Ground.phase }, { on := 8, ground := Ground.phase }, { on := 9, ground := Ground.phase }, { on := 10, ground := Ground.phase }, { on := 11, ground := Ground.phase }, { on := 12, ground := Ground.phase }, { on := 13, ground := Ground.phase }, { on := 14, ground := Ground.phase }, { on := 15, ground := Ground.phase }, { on := 16, ground := Ground.phase }, { on := 17, ground := Ground.phase }, { on := 18, ground := Ground.phase }, { on := 19, ground := Ground.phase }, { on := 20, ground := Ground.phase }], guard := none } : Oper)) (v := ?_) rfl (by kernel_rfl) (by kernel_rfl) (by kernel_rfl) (fun _ _ _ h => h) (Or.inl ⟨by rfl, ?_⟩) hHeld ?_
  rotate_left
  · (intro w hS; go_simp; try with_reducible rfl)
  try simp only [Act.put, List.setIfInBounds_toArray, List.set_cons_zero, List.set_cons_succ]
  refine wpAnyH_done (by kernel_rfl) ?_ _
  skip
  clear hHeld G1 G2 G3 G4 G5 hs2 hs3 hs4 hs5 hw8 l1 l2 l3 l4 l5 K0 A0
  have O2 := O2.below ((Below.refl _ W2).drew) (Nat.le_refl _)
  have y1 : IntKind.i64.wrap (r.er : Int) = (r.er : Int) := by rw [IntKind.wrap_i64]; omega
  have y2 : IntKind.i64.wrap (r.cc : Int) = (r.cc : Int) := by rw [IntKind.wrap_i64]; omega
  have y3 : IntKind.i64.wrap (r.mc : Int) = (r.mc : Int) := by rw [IntKind.wrap_i64]; omega
  have y4 : IntKind.i64.wrap (r.ql : Int) = (r.ql : Int) := by rw [IntKind.wrap_i64]; omega
  have y5 : IntKind.i64.wrap (r.sn : Int) = (r.sn : Int) := by rw [IntKind.wrap_i64]; omega
  go_wp2
  refine wp_region_held_drew (S := (fun w' => BK w' w.heap.size (rmV r) 25 ∧ Below w.heap.size w w' ∧ w.heap.size + 1 ≤ w'.heap.size)) (by kernel_rfl) ⟨K2.drew, B2.drew, Z2⟩ (fun hHeld => ?_)
  refine wpAnyH_take (i := 0) (oi := ({ dst := some 44, op := Op.move (Operand.tmp 3), type := 32, pos := _, after := #[], guard := none } : Oper)) (v := ?_) rfl (by kernel_rfl) (by kernel_rfl) (by kernel_rfl) (fun _ _ _ h => h) (Or.inl ⟨by rfl, ?_⟩) hHeld ?_
  rotate_left
  · (intro w hS; go_simp; try with_reducible rfl)
  try simp only [Act.put, List.setIfInBounds_toArray, List.set_cons_zero, List.set_cons_succ]
  refine wpAnyH_take (i := 1) (oi := ({ dst := some 45, op := Op.fieldAddr 25 (Operand.tmp 1) 5, type := 0, pos := _, after := #[], guard := none } : Oper)) (v := ?_) rfl (by kernel_rfl) (by kernel_rfl) (by kernel_rfl) (fun _ _ _ h => h) (Or.inl ⟨by rfl, ?_⟩) hHeld ?_
  rotate_left
  · (intro w hS; go_simp; try with_reducible rfl)
  try simp only [Act.put, List.setIfInBounds_toArray, List.set_cons_zero, List.set_cons_succ]
  refine wpAnyH_take (i := 2) (oi := ({ dst := some 46, op := Op.load 22 (Operand.tmp 45), type := 22, pos := _, after := #[{ on := 1, ground := Ground.data }], guard := none } : Oper)) (v := ?_) rfl (by kernel_rfl) (by kernel_rfl) (by kernel_rfl) (fun _ _ _ h => h) (Or.inl ⟨by rfl, ?_⟩) hHeld ?_
  rotate_left
  · (intro w hS; obtain ⟨_, _, _, _, _, k5, k6, k7, _, _⟩ := hS.1.rm; go_simp; try with_reducible rfl)
  try simp only [Act.put, List.setIfInBounds_toArray, List.set_cons_zero, List.set_cons_succ]
  refine wpAnyH_take (i := 3) (oi := ({ dst := some 47, op := Op.convert 22 3 (Operand.tmp 46), type := 3, pos := _, after := #[{ on := 2, ground := Ground.data }], guard := none } : Oper)) (v := ?_) rfl (by kernel_rfl) (by kernel_rfl) (by kernel_rfl) (fun _ _ _ h => h) (Or.inl ⟨by rfl, ?_⟩) hHeld ?_
  rotate_left
  · (intro w hS; go_simp; try with_reducible rfl)
  try simp only [Act.put, List.setIfInBounds_toArray, List.set_cons_zero, List.set_cons_succ]
  refine wpAnyH_take (i := 6) (oi := ({ dst := some 50, op := Op.fieldAddr 25 (Operand.tmp 1) 6, type := 0, pos := _, after := #[], guard := none } : Oper)) (v := ?_) rfl (by kernel_rfl) (by kernel_rfl) (by kernel_rfl) (fun _ _ _ h => h) (Or.inl ⟨by rfl, ?_⟩) hHeld ?_
  rotate_left
  · (intro w hS; go_simp; try with_reducible rfl)
  try simp only [Act.put, List.setIfInBounds_toArray, List.set_cons_zero, List.set_cons_succ]
  refine wpAnyH_take (i := 7) (oi := ({ dst := some 51, op := Op.load 22 (Operand.tmp 50), type := 22, pos := _, after := #[{ on := 6, ground := Ground.data }], guard := none } : Oper)) (v := ?_) rfl (by kernel_rfl) (by kernel_rfl) (by kernel_rfl) (fun _ _ _ h => h) (Or.inl ⟨by rfl, ?_⟩) hHeld ?_
  rotate_left
  · (intro w hS; obtain ⟨_, _, _, _, _, k5, k6, k7, _, _⟩ := hS.1.rm; go_simp; try with_reducible rfl)
  try simp only [Act.put, List.setIfInBounds_toArray, List.set_cons_zero, List.set_cons_succ]
  refine wpAnyH_take (i := 8) (oi := ({ dst := some 52, op := Op.convert 22 3 (Operand.tmp 51), type := 3, pos := _, after := #[{ on := 7, ground := Ground.data }], guard := none } : Oper)) (v := ?_) rfl (by kernel_rfl) (by kernel_rfl) (by kernel_rfl) (fun _ _ _ h => h) (Or.inl ⟨by rfl, ?_⟩) hHeld ?_
  rotate_left
  · (intro w hS; go_simp; try with_reducible rfl)
  try simp only [Act.put, List.setIfInBounds_toArray, List.set_cons_zero, List.set_cons_succ]
  refine wpAnyH_take (i := 11) (oi := ({ dst := some 55, op := Op.fieldAddr 25 (Operand.tmp 1) 7, type := 0, pos := _, after := #[], guard := none } : Oper)) (v := ?_) rfl (by kernel_rfl) (by kernel_rfl) (by kernel_rfl) (fun _ _ _ h => h) (Or.inl ⟨by rfl, ?_⟩) hHeld ?_
  rotate_left
  · (intro w hS; go_simp; try with_reducible rfl)
  try simp only [Act.put, List.setIfInBounds_toArray, List.set_cons_zero, List.set_cons_succ]
  refine wpAnyH_take (i := 12) (oi := ({ dst := some 56, op := Op.load 22 (Operand.tmp 55), type := 22, pos := _, after := #[{ on := 11, ground := Ground.data }], guard := none } : Oper)) (v := ?_) rfl (by kernel_rfl) (by kernel_rfl) (by kernel_rfl) (fun _ _ _ h => h) (Or.inl ⟨by rfl, ?_⟩) hHeld ?_
  rotate_left
  · (intro w hS; obtain ⟨_, _, _, _, _, k5, k6, k7, _, _⟩ := hS.1.rm; go_simp; try with_reducible rfl)
  try simp only [Act.put, List.setIfInBounds_toArray, List.set_cons_zero, List.set_cons_succ]
  refine wpAnyH_take (i := 13) (oi := ({ dst := some 57, op := Op.convert 22 3 (Operand.tmp 56), type := 3, pos := _, after := #[{ on := 12, ground := Ground.data }], guard := none } : Oper)) (v := ?_) rfl (by kernel_rfl) (by kernel_rfl) (by kernel_rfl) (fun _ _ _ h => h) (Or.inl ⟨by rfl, ?_⟩) hHeld ?_
  rotate_left
  · (intro w hS; go_simp; try with_reducible rfl)
  try simp only [Act.put, List.setIfInBounds_toArray, List.set_cons_zero, List.set_cons_succ]
  refine wpAnyH_ready (rs := [4]) (by kernel_rfl) (by simp) ?_
  refine AllReadyH.cons (o := ({ dst := some 48, op := Op.call { callee := Callee.value (Operand.func 28), args := #[Operand.tmp 47, Operand.const (Value.int IntKind.i64 2)], argTypes := #[3, 3] }, type := 32, pos := _, after := #[{ on := 3, ground := Ground.data }], guard := none } : Oper)) rfl (fun K hK => ?_) AllReadyH.nil
  refine step_call (E1 _) (enters_of Try.func28 (by kernel_rfl) rfl) _ _ rfl rfl rfl ?_
  rintro e v1 ⟨a1, c1, rfl, o1, b1⟩
  obtain ⟨a2, c2, v2, hap2, p2, d2⟩ := run_app v1 (w.heap.size + 1) 32 _ _ _ _ (O2.below b1 (Nat.le_refl _)) a1 2 c1 _ o1.isB.1 o1.isB.2.1 (by decide) (Nat.le_trans hHeld.2.2 b1.size)
  refine ⟨_, rfl, hK.out _ _ ⟨hHeld.1.below b1 hHeld.1.lt, hHeld.2.1.trans (b1.mono hHeld.2.1.size), Nat.le_trans hHeld.2.2 b1.size⟩ (fun hHeld => ?_)⟩
  clear hK K
  try simp only [Act.put, List.setIfInBounds_toArray, List.set_cons_zero, List.set_cons_succ]
  refine wpAnyH_ready (rs := [5]) (by kernel_rfl) (by simp) ?_
  refine AllReadyH.cons (o := ({ dst := some 49, op := Op.call { callee := Callee.builtin Builtin.append, args := #[Operand.tmp 44, Operand.tmp 48], argTypes := #[32, 32] }, type := 32, pos := _, after := #[{ on := 0, ground := Ground.data }, { on := 4, ground := Ground.data }, { on := 4, ground := Ground.chain }], guard := none } : Oper)) rfl (fun K hK => ?_) AllReadyH.nil
  refine step_app hap2 _ _ rfl rfl rfl rfl rfl ?_
  skip
  refine hK.out _ _ ⟨hHeld.1.below d2 (by omega), hHeld.2.1.trans (d2.mono (by omega)), Nat.le_trans hHeld.2.2 d2.size⟩ (fun hHeld => ?_)
  clear hK K
  try simp only [Act.put, List.setIfInBounds_toArray, List.set_cons_zero, List.set_cons_succ]
  refine wpAnyH_ready (rs := [9]) (by kernel_rfl) (by simp) ?_
  refine AllReadyH.cons (o := ({ dst := some 53, op := Op.call { callee := Callee.value (Operand.func 28), args := #[Operand.tmp 52, Operand.const (Value.int IntKind.i64 2)], argTypes := #[3, 3] }, type := 32, pos := _, after := #[{ on := 8, ground := Ground.data }, { on := 5, ground := Ground.chain }], guard := none } : Oper)) rfl (fun K hK => ?_) AllReadyH.nil
  refine step_call (E2 _) (enters_of Try.func28 (by kernel_rfl) rfl) _ _ rfl rfl rfl ?_
  rintro e v3 ⟨a3, c3, rfl, o3, b3⟩
  obtain ⟨a4, c4, v4, hap4, p4, d4⟩ := run_app v3 (w.heap.size + 1) 32 _ _ _ _ (p2.below b3 (Nat.le_refl _)) a3 2 c3 _ o3.isB.1 o3.isB.2.1 (by decide) (Nat.le_trans hHeld.2.2 b3.size)
  refine ⟨_, rfl, hK.out _ _ ⟨hHeld.1.below b3 hHeld.1.lt, hHeld.2.1.trans (b3.mono hHeld.2.1.size), Nat.le_trans hHeld.2.2 b3.size⟩ (fun hHeld => ?_)⟩
  clear hK K
  try simp only [Act.put, List.setIfInBounds_toArray, List.set_cons_zero, List.set_cons_succ]
  refine wpAnyH_ready (rs := [10]) (by kernel_rfl) (by simp) ?_
  refine AllReadyH.cons (o := ({ dst := some 54, op := Op.call { callee := Callee.builtin Builtin.append, args := #[Operand.tmp 49, Operand.tmp 53], argTypes := #[32, 32] }, type := 32, pos := _, after := #[{ on := 5, ground := Ground.data }, { on := 9, ground := Ground.data }, { on := 9, ground := Ground.chain }], guard := none } : Oper)) rfl (fun K hK => ?_) AllReadyH.nil
  refine step_app hap4 _ _ rfl rfl rfl rfl rfl ?_
  skip
  refine hK.out _ _ ⟨hHeld.1.below d4 (by omega), hHeld.2.1.trans (d4.mono (by omega)), Nat.le_trans hHeld.2.2 d4.size⟩ (fun hHeld => ?_)
  clear hK K
  try simp only [Act.put, List.setIfInBounds_toArray, List.set_cons_zero, List.set_cons_succ]
  refine wpAnyH_ready (rs := [14]) (by kernel_rfl) (by simp) ?_
  refine AllReadyH.cons (o := ({ dst := some 58, op := Op.call { callee := Callee.value (Operand.func 28), args := #[Operand.tmp 57, Operand.const (Value.int IntKind.i64 2)], argTypes := #[3, 3] }, type := 32, pos := _, after := #[{ on := 13, ground := Ground.data }, { on := 10, ground := Ground.chain }], guard := none } : Oper)) rfl (fun K hK => ?_) AllReadyH.nil
  refine step_call (E3 _) (enters_of Try.func28 (by kernel_rfl) rfl) _ _ rfl rfl rfl ?_
  rintro e v5 ⟨a5, c5, rfl, o5, b5⟩
  obtain ⟨a6, c6, v6, hap6, p6, d6⟩ := run_app v5 (w.heap.size + 1) 32 _ _ _ _ (p4.below b5 (Nat.le_refl _)) a5 2 c5 _ o5.isB.1 o5.isB.2.1 (by decide) (Nat.le_trans hHeld.2.2 b5.size)
  refine ⟨_, rfl, hK.out _ _ ⟨hHeld.1.below b5 hHeld.1.lt, hHeld.2.1.trans (b5.mono hHeld.2.1.size), Nat.le_trans hHeld.2.2 b5.size⟩ (fun hHeld => ?_)⟩
  clear hK K
  try simp only [Act.put, List.setIfInBounds_toArray, List.set_cons_zero, List.set_cons_succ]
  refine wpAnyH_ready (rs := [15]) (by kernel_rfl) (by simp) ?_
  refine AllReadyH.cons (o := ({ dst := some 59, op := Op.call { callee := Callee.builtin Builtin.append, args := #[Operand.tmp 54, Operand.tmp 58], argTypes := #[32, 32] }, type := 32, pos := _, after := #[{ on := 10, ground := Ground.data }, { on := 14, ground := Ground.data }, { on := 14, ground := Ground.chain }], guard := none } : Oper)) rfl (fun K hK => ?_) AllReadyH.nil
  refine step_app hap6 _ _ rfl rfl rfl rfl rfl ?_
  skip
  refine hK.out _ _ ⟨hHeld.1.below d6 (by omega), hHeld.2.1.trans (d6.mono (by omega)), Nat.le_trans hHeld.2.2 d6.size⟩ (fun hHeld => ?_)
  clear hK K
  try simp only [Act.put, List.setIfInBounds_toArray, List.set_cons_zero, List.set_cons_succ]
  refine wpAnyH_take (i := 16) (oi := ({ dst := some 3, op := Op.assign (Operand.tmp 59), type := 32, pos := _, after := #[{ on := 15, ground := Ground.data }, { on := 15, ground := Ground.chain }, { on := 0, ground := Ground.phase }, { on := 1, ground := Ground.phase }, { on := 2, ground := Ground.phase }, { on := 3, ground := Ground.phase }, { on := 4, ground := Ground.phase }, { on := 5, ground := Ground.phase }, { on := 6, ground := Ground.phase }, { on := 7, ground := Ground.phase }, { on := 8, ground := Ground.phase }, { on := 9, ground := Ground.phase }, { on := 10, ground := Ground.phase }, { on := 11, ground := Ground.phase }, { on := 12, ground := Ground.phase }, { on := 13, ground := Ground.phase }, { on := 14, ground := Ground.phase }, { on := 15, ground := Ground.phase }], guard := none } : Oper)) (v := ?_) rfl (by kernel_rfl) (by kernel_rfl) (by kernel_rfl) (fun _ _ _ h => h) (Or.inl ⟨by rfl, ?_⟩) hHeld ?_
  rotate_left
  · (intro w hS; go_simp; try with_reducible rfl)
  try simp only [Act.put, List.setIfInBounds_toArray, List.set_cons_zero, List.set_cons_succ]
  refine wpAnyH_done (by kernel_rfl) ?_ _
  skip
  obtain ⟨K6, B6, Z6⟩ := hHeld
  have P6 := p6.below ((Below.refl _ v6).drew) (Nat.le_refl _)
  clear E1 E2 E3 hap2 hap4 hap6 o1 o3 o5 b1 b3 b5 d2 d4 d6 p2 p4 p6 O2 K2 B2 Z2 q1 q2 q3 y1 y2 y3
  go_wp2
  refine wp_region_held_drew (S := (fun w' => BK w' w.heap.size (rmV r) 25 ∧ Below w.heap.size w w' ∧ w.heap.size + 1 ≤ w'.heap.size)) (by kernel_rfl) ⟨K6.drew, B6.drew, Z6⟩ (fun hHeld => ?_)
  refine wpAnyH_take (i := 0) (oi := ({ dst := some 60, op := Op.move (Operand.tmp 3), type := 32, pos := _, after := #[], guard := none } : Oper)) (v := ?_) rfl (by kernel_rfl) (by kernel_rfl) (by kernel_rfl) (fun _ _ _ h => h) (Or.inl ⟨by rfl, ?_⟩) hHeld ?_
  rotate_left
  · (intro w hS; go_simp; try with_reducible rfl)
  try simp only [Act.put, List.setIfInBounds_toArray, List.set_cons_zero, List.set_cons_succ]
  refine wpAnyH_take (i := 1) (oi := ({ dst := some 61, op := Op.fieldAddr 25 (Operand.tmp 1) 8, type := 0, pos := _, after := #[], guard := none } : Oper)) (v := ?_) rfl (by kernel_rfl) (by kernel_rfl) (by kernel_rfl) (fun _ _ _ h => h) (Or.inl ⟨by rfl, ?_⟩) hHeld ?_
  rotate_left
  · (intro w hS; go_simp; try with_reducible rfl)
  try simp only [Act.put, List.setIfInBounds_toArray, List.set_cons_zero, List.set_cons_succ]
  refine wpAnyH_take (i := 2) (oi := ({ dst := some 62, op := Op.load 23 (Operand.tmp 61), type := 23, pos := _, after := #[{ on := 1, ground := Ground.data }], guard := none } : Oper)) (v := ?_) rfl (by kernel_rfl) (by kernel_rfl) (by kernel_rfl) (fun _ _ _ h => h) (Or.inl ⟨by rfl, ?_⟩) hHeld ?_
  rotate_left
  · (intro w hS; obtain ⟨_, _, _, _, _, _, _, _, k8, k9⟩ := hS.1.rm; go_simp; try with_reducible rfl)
  try simp only [Act.put, List.setIfInBounds_toArray, List.set_cons_zero, List.set_cons_succ]
  refine wpAnyH_take (i := 3) (oi := ({ dst := some 63, op := Op.convert 23 3 (Operand.tmp 62), type := 3, pos := _, after := #[{ on := 2, ground := Ground.data }], guard := none } : Oper)) (v := ?_) rfl (by kernel_rfl) (by kernel_rfl) (by kernel_rfl) (fun _ _ _ h => h) (Or.inl ⟨by rfl, ?_⟩) hHeld ?_
  rotate_left
  · (intro w hS; go_simp; try with_reducible rfl)
  try simp only [Act.put, List.setIfInBounds_toArray, List.set_cons_zero, List.set_cons_succ]
  refine wpAnyH_take (i := 6) (oi := ({ dst := some 66, op := Op.fieldAddr 25 (Operand.tmp 1) 9, type := 0, pos := _, after := #[], guard := none } : Oper)) (v := ?_) rfl (by kernel_rfl) (by kernel_rfl) (by kernel_rfl) (fun _ _ _ h => h) (Or.inl ⟨by rfl, ?_⟩) hHeld ?_
  rotate_left
  · (intro w hS; go_simp; try with_reducible rfl)
  try simp only [Act.put, List.setIfInBounds_toArray, List.set_cons_zero, List.set_cons_succ]
  refine wpAnyH_take (i := 7) (oi := ({ dst := some 67, op := Op.load 23 (Operand.tmp 66), type := 23, pos := _, after := #[{ on := 6, ground := Ground.data }], guard := none } : Oper)) (v := ?_) rfl (by kernel_rfl) (by kernel_rfl) (by kernel_rfl) (fun _ _ _ h => h) (Or.inl ⟨by rfl, ?_⟩) hHeld ?_
  rotate_left
  · (intro w hS; obtain ⟨_, _, _, _, _, _, _, _, k8, k9⟩ := hS.1.rm; go_simp; try with_reducible rfl)
  try simp only [Act.put, List.setIfInBounds_toArray, List.set_cons_zero, List.set_cons_succ]
  refine wpAnyH_take (i := 8) (oi := ({ dst := some 68, op := Op.convert 23 3 (Operand.tmp 67), type := 3, pos := _, after := #[{ on := 7, ground := Ground.data }], guard := none } : Oper)) (v := ?_) rfl (by kernel_rfl) (by kernel_rfl) (by kernel_rfl) (fun _ _ _ h => h) (Or.inl ⟨by rfl, ?_⟩) hHeld ?_
  rotate_left
  · (intro w hS; go_simp; try with_reducible rfl)
  try simp only [Act.put, List.setIfInBounds_toArray, List.set_cons_zero, List.set_cons_succ]
  refine wpAnyH_ready (rs := [4]) (by kernel_rfl) (by simp) ?_
  refine AllReadyH.cons (o := ({ dst := some 64, op := Op.call { callee := Callee.value (Operand.func 28), args := #[Operand.tmp 63, Operand.const (Value.int IntKind.i64 4)], argTypes := #[3, 3] }, type := 32, pos := _, after := #[{ on := 3, ground := Ground.data }], guard := none } : Oper)) rfl (fun K hK => ?_) AllReadyH.nil
  refine step_call (E4 _) (enters_of Try.func28 (by kernel_rfl) rfl) _ _ rfl rfl rfl ?_
  rintro e v7 ⟨a7, c7, rfl, o7, b7⟩
  obtain ⟨a8, c8, v8, hap8, p8, d8⟩ := run_app v7 (w.heap.size + 1) 32 _ _ _ _ (P6.below b7 (Nat.le_refl _)) a7 4 c7 _ o7.isB.1 o7.isB.2.1 (by decide) (Nat.le_trans hHeld.2.2 b7.size)
  refine ⟨_, rfl, hK.out _ _ ⟨hHeld.1.below b7 hHeld.1.lt, hHeld.2.1.trans (b7.mono hHeld.2.1.size), Nat.le_trans hHeld.2.2 b7.size⟩ (fun hHeld => ?_)⟩
  clear hK K
  try simp only [Act.put, List.setIfInBounds_toArray, List.set_cons_zero, List.set_cons_succ]
  refine wpAnyH_ready (rs := [5]) (by kernel_rfl) (by simp) ?_
  refine AllReadyH.cons (o := ({ dst := some 65, op := Op.call { callee := Callee.builtin Builtin.append, args := #[Operand.tmp 60, Operand.tmp 64], argTypes := #[32, 32] }, type := 32, pos := _, after := #[{ on := 0, ground := Ground.data }, { on := 4, ground := Ground.data }, { on := 4, ground := Ground.chain }], guard := none } : Oper)) rfl (fun K hK => ?_) AllReadyH.nil
  refine step_app hap8 _ _ rfl rfl rfl rfl rfl ?_
  skip
  refine hK.out _ _ ⟨hHeld.1.below d8 (by omega), hHeld.2.1.trans (d8.mono (by omega)), Nat.le_trans hHeld.2.2 d8.size⟩ (fun hHeld => ?_)
  clear hK K
  try simp only [Act.put, List.setIfInBounds_toArray, List.set_cons_zero, List.set_cons_succ]
  refine wpAnyH_ready (rs := [9]) (by kernel_rfl) (by simp) ?_
  refine AllReadyH.cons (o := ({ dst := some 69, op := Op.call { callee := Callee.value (Operand.func 28), args := #[Operand.tmp 68, Operand.const (Value.int IntKind.i64 4)], argTypes := #[3, 3] }, type := 32, pos := _, after := #[{ on := 8, ground := Ground.data }, { on := 5, ground := Ground.chain }], guard := none } : Oper)) rfl (fun K hK => ?_) AllReadyH.nil
  refine step_call (E5 _) (enters_of Try.func28 (by kernel_rfl) rfl) _ _ rfl rfl rfl ?_
  rintro e v9 ⟨a9, c9, rfl, o9, b9⟩
  obtain ⟨a10, c10, v10, hap10, p10, d10⟩ := run_app v9 (w.heap.size + 1) 32 _ _ _ _ (p8.below b9 (Nat.le_refl _)) a9 4 c9 _ o9.isB.1 o9.isB.2.1 (by decide) (Nat.le_trans hHeld.2.2 b9.size)
  refine ⟨_, rfl, hK.out _ _ ⟨hHeld.1.below b9 hHeld.1.lt, hHeld.2.1.trans (b9.mono hHeld.2.1.size), Nat.le_trans hHeld.2.2 b9.size⟩ (fun hHeld => ?_)⟩
  clear hK K
  try simp only [Act.put, List.setIfInBounds_toArray, List.set_cons_zero, List.set_cons_succ]
  refine wpAnyH_ready (rs := [10]) (by kernel_rfl) (by simp) ?_
  refine AllReadyH.cons (o := ({ dst := some 70, op := Op.call { callee := Callee.builtin Builtin.append, args := #[Operand.tmp 65, Operand.tmp 69], argTypes := #[32, 32] }, type := 32, pos := _, after := #[{ on := 5, ground := Ground.data }, { on := 9, ground := Ground.data }, { on := 9, ground := Ground.chain }], guard := none } : Oper)) rfl (fun K hK => ?_) AllReadyH.nil
  refine step_app hap10 _ _ rfl rfl rfl rfl rfl ?_
  skip
  refine hK.out _ _ ⟨hHeld.1.below d10 (by omega), hHeld.2.1.trans (d10.mono (by omega)), Nat.le_trans hHeld.2.2 d10.size⟩ (fun hHeld => ?_)
  clear hK K
  try simp only [Act.put, List.setIfInBounds_toArray, List.set_cons_zero, List.set_cons_succ]
  refine wpAnyH_take (i := 11) (oi := ({ dst := some 3, op := Op.assign (Operand.tmp 70), type := 32, pos := _, after := #[{ on := 10, ground := Ground.data }, { on := 10, ground := Ground.chain }, { on := 0, ground := Ground.phase }, { on := 1, ground := Ground.phase }, { on := 2, ground := Ground.phase }, { on := 3, ground := Ground.phase }, { on := 4, ground := Ground.phase }, { on := 5, ground := Ground.phase }, { on := 6, ground := Ground.phase }, { on := 7, ground := Ground.phase }, { on := 8, ground := Ground.phase }, { on := 9, ground := Ground.phase }, { on := 10, ground := Ground.phase }], guard := none } : Oper)) (v := ?_) rfl (by kernel_rfl) (by kernel_rfl) (by kernel_rfl) (fun _ _ _ h => h) (Or.inl ⟨by rfl, ?_⟩) hHeld ?_
  rotate_left
  · (intro w hS; go_simp; try with_reducible rfl)
  try simp only [Act.put, List.setIfInBounds_toArray, List.set_cons_zero, List.set_cons_succ]
  refine wpAnyH_done (by kernel_rfl) ?_ _
  skip
  obtain ⟨_, B10, Z10⟩ := hHeld
  rw [HH.out] at p10
  have o7 : OwnB (w.heap.size + 1) v10 a10 (16 + 0) c10 (headN r ++ List.replicate 0 106) := by simpa using p10
  clear E4 E5 hap8 hap10 p8 p10 d8 d10 P6 K6 B6 Z6 HH y4 y5 b7 b9 q4 q5
  go_wp2
  go_loopw [3] (fun v wr => ∃ (k : Nat) (a : Option Addr) (c : Nat), k ≤ 30 ∧ v = .slice a (16 + k) c ∧ OwnB (w.heap.size + 1) wr a (16 + k) c (headN r ++ List.replicate k 106) ∧ Below (w.heap.size + 1) v10 wr) (fun v _ => 46 - slen v)
  case atStart => exact ⟨0, _, _, by omega, rfl, o7, Below.refl _ _⟩
  case round =>
    obtain ⟨k, a, c, hk, rfl, ok, bk⟩ := hrel
    clear o7
    by_cases hlt : k < 30
    · obtain ⟨w7, hW7⟩ : ∃ w7, wr.alloc (.cells #[.int .u8 106] 5) = w7 := ⟨_, rfl⟩
      have J7 : IsB (wr.heap.size + 1) w7 (some ⟨wr.heap.size, 0, none⟩) 1 [106] := by rw [← hW7]; exact isB_new wr [106] 5 (0, 0)
      have s7 : Below wr.heap.size wr w7 := by rw [← hW7]; exact (Below.refl _ wr).alloc (Nat.le_refl _) _
      have z7 : w7.heap.size = wr.heap.size + 1 := by rw [← hW7]; simp
      have sz : w.heap.size + 1 ≤ wr.heap.size := by have := bk.size; omega
      obtain ⟨a8, c8, w8, hap8, o8, b8⟩ := run_app w7 (w.heap.size + 1) 32 _ _ _ _ (ok.below s7 (Nat.le_refl _)) (some ⟨wr.heap.size, 0, none⟩) 1 1 _ J7 (by intro h; cases h) (by omega) (by omega)
      rw [List.append_assoc, ← List.replicate_succ'] at o8
      have HO : Hid (OwnB (w.heap.size + 1) w8 a8 (16 + (k + 1)) c8 (headN r ++ List.replicate (k + 1) 106)) := o8
      have B8 : Hid (Below (w.heap.size + 1) v10 w8) := bk.trans ((s7.mono sz).trans b8)
      clear J7 s7 z7 o8 b8 ok bk
      go_wp2_with (at_builtin; refine wpList_app hap8 _ _ rfl rfl rfl rfl rfl ?_)
      go_roundw
      case rel => exact ⟨_, _, _, _, _, _, _, ⟨k + 1, a8, c8, by omega, rfl, HO.out, B8.out⟩, rfl⟩
      case measure => simp [slen]; omega
    · obtain rfl : k = 30 := by omega
      have B7 : Below w.heap.size w wr := B10.trans (bk.mono (by omega))
      have L7 : w.heap.size + 1 ≤ wr.heap.size := Nat.le_trans Z10 bk.size
      obtain ⟨w7, hW7⟩ : ∃ w7, wr.alloc (.cells #[.int .u8 0, .int .u8 0] 5) = w7 := ⟨_, rfl⟩
      have J7 : IsB (wr.heap.size + 1) w7 (some ⟨wr.heap.size, 0, none⟩) 2 [0, 0] := by rw [← hW7]; exact isB_new wr [0, 0] 5 (0, 0)
      have s7 : Below wr.heap.size wr w7 := by rw [← hW7]; exact (Below.refl _ wr).alloc (Nat.le_refl _) _
      have z7 : w7.heap.size = wr.heap.size + 1 := by rw [← hW7]; simp
      obtain ⟨a8, c8, w8, hap8, o8, b8⟩ := run_app w7 (w.heap.size + 1) 32 _ _ _ _ (ok.below s7 (Nat.le_refl _)) (some ⟨wr.heap.size, 0, none⟩) 2 2 _ J7 (by intro h; cases h) (by omega) (by omega)
      have B8 : Below w.heap.size w w8 := B7.trans ((s7.mono B7.size).trans (b8.mono (by omega)))
      have HS := refseal_calls a8 c8 (layN r) w8 o8.isB.1 (Nat.le_refl _) o8.isB.2.1
      clear J7 s7 z7 o8 b8 ok bk B7 L7
      go_wp2_with (at_builtin; refine wpList_app hap8 _ _ rfl rfl rfl rfl rfl ?_)
      refine HS.mono ?_
      rintro e w9 ⟨a9, c9, rfl, I9, b9⟩
      go_wp2
      go_ret
      exact ⟨a9, c9, rfl, I9, B8.trans (b9.mono B8.size)⟩
end Go.Proofs.Ytfkikbnokjbnhaa
