/- Proved here: what the document's Pack of maintenance cells answers. Conditions: as each theorem states them. -/
import Derived.Test.YtpjlcmdidhdbcaaRRi
import Derived.Test.YtpjlcmdidhdbcaaRs
import Derived.Test.YtpjlcmdidhdbcaaLy
namespace Go.Proofs.Ytpjlcmdidhdbcaa
set_option linter.unusedSimpArgs false
set_option linter.unusedVariables false
open Go.RowKit

def slen : Value → Nat
  | .slice _ n _ => n
  | _ => 0
set_option maxHeartbeats 2000000 in
theorem refpack_no (o : Om) (h : o.Ok) (hc : canB o = false) (w : World) : Calls Try.prog 11 #[.agg (omV o)] w fun e w' => e = .returned (.slice none 0 0) ∧ Below w.heap.size w w' := by
  have K0 := bk_new w (omV o) 25
  have A0 : Below w.heap.size w (w.alloc (.cells (omV o) 25)) := (Below.refl _ w).alloc (Nat.le_refl _) _
  have HR := fun w => refright_calls o h w
  rw [hc] at HR
  go_enter Try.func11, Try.ntmps11
  go_wp2_with ((with_reducible show wpList _ _ _ (Oper.mk _ (Op.load 25 _) _ _ _ _ :: _) _ _; refine wpList_ld rfl rfl rfl (run_ldB _ _ _ _ (by assumption) (by first | assumption | exact om0_ok)) ?_; (try simp only [Act.put, List.setIfInBounds_toArray, List.set_cons_zero, List.set_cons_succ, World.size_alloc])))
  refine (HR _).mono ?_
  rintro e w1 ⟨rfl, b1⟩
  go_wp2
  go_ret
  exact ⟨rfl, A0.trans (b1.mono (by simp))⟩
theorem head_one (o : Om) (h : o.k = 0 ∨ o.k = 1) : headN o = [UInt8.ofNat (16 + o.k.toNat)] ++ [o.d] ++ o.p := by
  unfold headN toldN
  rw [if_neg (by omega), if_neg (by omega)]; rfl
theorem head_check (o : Om) (h : o.k = 4) : headN o = [20] := by
  unfold headN toldN
  rw [if_neg (by omega), if_pos h, h]; rfl
theorem head_loop (o : Om) (h : o.k = 8) {x3 x2 x1 x0 : UInt8} (hb : be4 o.t = [x3, x2, x1, x0]) : headN o = [24] ++ [askN o.a, x3, x2, x1, x0] ++ o.p ++ o.s := by
  unfold headN toldN
  rw [if_pos h, h, hb]; simp
theorem lay_of_head (o : Om) (N : Nat) (h : (headN o).length = N) : headN o ++ List.replicate (46 - N) 106 ++ [0, 0] = layN o := by
  unfold layN bodyN
  rw [← h]
  simp [headN]

set_option maxRecDepth 100000 in
set_option maxHeartbeats 8000000 in
theorem refpack_ais (o : Om) (h : o.Ok) (hc : canB o = true) (hk : o.k = 0) (w : World) : Calls Try.prog 11 #[.agg (omV o)] w fun e w' => ∃ a c, e = .returned (.slice a 48 c) ∧ IsB w'.heap.size w' a 48 (payN o) ∧ Below w.heap.size w w' := by
  have K0 := bk_new w (omV o) 25
  have A0 : Below w.heap.size w (w.alloc (.cells (omV o) 25)) := (Below.refl _ w).alloc (Nat.le_refl _) _
  have HR := fun w => refright_calls o h w
  rw [hc] at HR
  have HLAY : Hid (headN o ++ List.replicate (46 - 18) 106 ++ [0, 0] = layN o) := lay_of_head o 18 (by rw [head_one o (by omega)]; simp [h.p])
  have HK : Hid (o.k = 0) := hk
  have HH : Hid ([16] ++ [o.d] ++ o.p = headN o) := by rw [Hid, head_one o (by omega), hk]; rfl
  clear hc
  go_enter Try.func11, Try.ntmps11
  go_wp2_with ((with_reducible show wpList _ _ _ (Oper.mk _ (Op.load 25 _) _ _ _ _ :: _) _ _; refine wpList_ld rfl rfl rfl (run_ldB _ _ _ _ (by assumption) (by first | assumption | exact om0_ok)) ?_; (try simp only [Act.put, List.setIfInBounds_toArray, List.set_cons_zero, List.set_cons_succ, World.size_alloc])))
  refine (HR _).mono ?_
  rintro e w1 ⟨rfl, b1⟩
  have K1 := K0.below b1 K0.lt
  have B1 : Below w.heap.size w w1 := A0.trans (b1.mono (by simp))
  have Z1 : w.heap.size + 1 ≤ w1.heap.size := by have := b1.size; simpa using this
  obtain ⟨e0, e1, e2, e3⟩ := K1.om
  rw [HK.out] at e0
  clear K0 A0 b1 HR
  go_wp2_with (with_reducible show wpList _ _ _ (Oper.mk _ (Op.buildSlice 32 1 _) _ _ _ _ :: _) _ _; refine wpList_slB (zs := [16]) (vs := [(0, .int .u8 ((16 : UInt8).toNat : Int))]) rfl (w.heap.size + 1) rfl rfl (run_sl1 _) rfl (by decide) Z1 ?_; intro b2 w2 hb2 o2 d2; have K2 := K1.below d2 K1.lt; have B2 := B1.trans (d2.mono B1.size); have Z2 := Nat.le_trans Z1 d2.size; obtain ⟨f0, f1, f2, f3⟩ := K2.om; rw [HK.out] at f0; clear e0 e1 e2 e3)
  refine wp_region_held_drew (S := (fun w' => BK w' w.heap.size (omV o) 25 ∧ Below w.heap.size w w' ∧ w.heap.size + 1 ≤ w'.heap.size)) (by kernel_rfl) ⟨K2.drew, B2.drew, Z2⟩ (fun hHeld => ?_)
  refine wpAnyH_take (i := 0) (oi := ({ dst := some 16, op := Op.move (Operand.tmp 3), type := 32, pos := _, after := #[], guard := none } : Oper)) (v := ?_) rfl (by kernel_rfl) (by kernel_rfl) (by kernel_rfl) (fun _ _ _ h => h) (Or.inl ⟨by rfl, ?_⟩) hHeld ?_
  rotate_left
  · (intro w hS; go_simp; try with_reducible rfl)
  try simp only [Act.put, List.setIfInBounds_toArray, List.set_cons_zero, List.set_cons_succ]
  refine wpAnyH_take (i := 1) (oi := ({ dst := some 17, op := Op.fieldAddr 25 (Operand.tmp 1) 1, type := 0, pos := _, after := #[], guard := none } : Oper)) (v := ?_) rfl (by kernel_rfl) (by kernel_rfl) (by kernel_rfl) (fun _ _ _ h => h) (Or.inl ⟨by rfl, ?_⟩) hHeld ?_
  rotate_left
  · (intro w hS; go_simp; try with_reducible rfl)
  try simp only [Act.put, List.setIfInBounds_toArray, List.set_cons_zero, List.set_cons_succ]
  refine wpAnyH_take (i := 2) (oi := ({ dst := some 18, op := Op.load 5 (Operand.tmp 17), type := 5, pos := _, after := #[{ on := 1, ground := Ground.data }], guard := none } : Oper)) (v := ?_) rfl (by kernel_rfl) (by kernel_rfl) (by kernel_rfl) (fun _ _ _ h => h) (Or.inl ⟨by rfl, ?_⟩) hHeld ?_
  rotate_left
  · (intro w hS; obtain ⟨d0, d1, d2, d3⟩ := hS.1.om; go_simp; try with_reducible rfl)
  try simp only [Act.put, List.setIfInBounds_toArray, List.set_cons_zero, List.set_cons_succ]
  refine wpAnyH_take (i := 5) (oi := ({ dst := some 21, op := Op.fieldAddr 25 (Operand.tmp 1) 4, type := 0, pos := _, after := #[], guard := none } : Oper)) (v := ?_) rfl (by kernel_rfl) (by kernel_rfl) (by kernel_rfl) (fun _ _ _ h => h) (Or.inl ⟨by rfl, ?_⟩) hHeld ?_
  rotate_left
  · (intro w hS; go_simp; try with_reducible rfl)
  try simp only [Act.put, List.setIfInBounds_toArray, List.set_cons_zero, List.set_cons_succ]
  refine wpAnyH_take (i := 6) (oi := ({ dst := some 22, op := Op.slice 23 (Operand.tmp 21) none none none, type := 32, pos := _, after := #[{ on := 5, ground := Ground.data }], guard := none } : Oper)) (v := ?_) rfl (by kernel_rfl) (by kernel_rfl) (by kernel_rfl) (fun _ _ _ h => h) (Or.inl ⟨by rfl, ?_⟩) hHeld ?_
  rotate_left
  · (intro w hS; go_simp; try with_reducible rfl)
  try simp only [Act.put, List.setIfInBounds_toArray, List.set_cons_zero, List.set_cons_succ]
  refine wpAnyH_ready (rs := [3]) (by kernel_rfl) (by simp) ?_
  refine AllReadyH.cons (o := ({ dst := some 19, op := Op.buildSlice 32 1 #[(0, Operand.tmp 18)], type := 32, pos := _, after := #[{ on := 2, ground := Ground.data }], guard := none } : Oper)) rfl (fun K hK => ?_) AllReadyH.nil
  refine step_slB (zs := [o.d]) (vs := [(0, .int .u8 (o.d.toNat : Int))]) (by rfl) (w.heap.size + 1) (by rfl) (by rfl) (run_sl1 _) rfl (by decide) hHeld.2.2 ?_
  intro b5 w5 hb5 o5 d5
  have o2 := (o2.below (Below.refl _ _).drew (Nat.le_refl _)).below d5 (Nat.le_refl _)
  refine hK.out _ _ ⟨hHeld.1.below d5 hHeld.1.lt, hHeld.2.1.trans (d5.mono hHeld.2.1.size), Nat.le_trans hHeld.2.2 d5.size⟩ (fun hHeld => ?_)
  clear hK K
  try simp only [Act.put, List.setIfInBounds_toArray, List.set_cons_zero, List.set_cons_succ]
  refine wpAnyH_ready (rs := [4]) (by kernel_rfl) (by simp) ?_
  refine AllReadyH.cons (o := ({ dst := some 20, op := Op.call { callee := Callee.builtin Builtin.append, args := #[Operand.tmp 16, Operand.tmp 19], argTypes := #[32, 32] }, type := 32, pos := _, after := #[{ on := 0, ground := Ground.data }, { on := 3, ground := Ground.data }], guard := none } : Oper)) rfl (fun K hK => ?_) AllReadyH.nil
  refine step_appB (N := 2) (by rfl) (by rfl) (by rfl) (by rfl) o2 o5.isB.1 (by intro h; cases h) (by decide) hHeld.2.2 rfl ?_
  intro a6 c6 w6 o6 d6
  refine hK.out _ _ ⟨hHeld.1.below d6 (by omega), hHeld.2.1.trans (d6.mono (by omega)), Nat.le_trans hHeld.2.2 d6.size⟩ (fun hHeld => ?_)
  clear hK K
  try simp only [Act.put, List.setIfInBounds_toArray, List.set_cons_zero, List.set_cons_succ]
  refine wpAnyH_ready (rs := [7]) (by kernel_rfl) (by simp) ?_
  refine AllReadyH.cons (o := ({ dst := some 23, op := Op.call { callee := Callee.builtin Builtin.append, args := #[Operand.tmp 20, Operand.tmp 22], argTypes := #[32, 32] }, type := 32, pos := _, after := #[{ on := 4, ground := Ground.data }, { on := 6, ground := Ground.data }, { on := 4, ground := Ground.chain }], guard := none } : Oper)) rfl (fun K hK => ?_) AllReadyH.nil
  refine step_appB (N := 18) (by rfl) (by rfl) (by rfl) (by rfl) o6 (hHeld.1.place h) (by intro h; cases h) (by decide) hHeld.2.2 rfl ?_
  intro aH cH wH oH dH
  refine hK.out _ _ ⟨hHeld.1.below dH (by omega), hHeld.2.1.trans (dH.mono (by omega)), Nat.le_trans hHeld.2.2 dH.size⟩ (fun hHeld => ?_)
  clear hK K
  try simp only [Act.put, List.setIfInBounds_toArray, List.set_cons_zero, List.set_cons_succ]
  refine wpAnyH_take (i := 8) (oi := ({ dst := some 3, op := Op.assign (Operand.tmp 23), type := 32, pos := _, after := #[{ on := 7, ground := Ground.data }, { on := 7, ground := Ground.chain }, { on := 0, ground := Ground.phase }, { on := 1, ground := Ground.phase }, { on := 2, ground := Ground.phase }, { on := 3, ground := Ground.phase }, { on := 4, ground := Ground.phase }, { on := 5, ground := Ground.phase }, { on := 6, ground := Ground.phase }, { on := 7, ground := Ground.phase }], guard := none } : Oper)) (v := ?_) rfl (by kernel_rfl) (by kernel_rfl) (by kernel_rfl) (fun _ _ _ h => h) (Or.inl ⟨by rfl, ?_⟩) hHeld ?_
  rotate_left
  · (intro w hS; go_simp; try with_reducible rfl)
  try simp only [Act.put, List.setIfInBounds_toArray, List.set_cons_zero, List.set_cons_succ]
  refine wpAnyH_done (by kernel_rfl) ?_ _
  skip
  obtain ⟨KH, BH, ZH⟩ := hHeld
  obtain ⟨g0, g1, g2, g3⟩ := KH.om
  rw [HK.out] at g0
  rw [HH.out] at oH
  replace oH : OwnB (w.heap.size + 1) wH aH (18 + 0) cH (headN o ++ List.replicate 0 106) := by simpa using oH
  clear K1 B1 Z1 K2 B2 Z2 o2 o5 o6 d5 d6 dH f0 f1 f2 f3
  go_wp2
  go_loopw [3] (fun v wr => ∃ (k : Nat) (a : Option Addr) (c : Nat), k ≤ 28 ∧ v = .slice a (18 + k) c ∧ OwnB (w.heap.size + 1) wr a (18 + k) c (headN o ++ List.replicate k 106) ∧ Below (w.heap.size + 1) wH wr) (fun v _ => 46 - slen v)
  case atStart => exact ⟨0, _, _, by omega, rfl, oH, Below.refl _ _⟩
  case round =>
    obtain ⟨k, a, c, hk, rfl, ok, bk⟩ := hrel
    clear oH
    have sz : w.heap.size + 1 ≤ wr.heap.size := Nat.le_trans ZH bk.size
    by_cases hlt : k < 28
    · obtain ⟨w7, hW7⟩ : ∃ w7, wr.alloc (.cells #[.int .u8 106] 5) = w7 := ⟨_, rfl⟩
      have J7 : IsB (wr.heap.size + 1) w7 (some ⟨wr.heap.size, 0, none⟩) 1 [106] := by rw [← hW7]; exact isB_new wr [106] 5 (0, 0)
      have s7 : Below wr.heap.size wr w7 := by rw [← hW7]; exact (Below.refl _ wr).alloc (Nat.le_refl _) _
      have z7 : w7.heap.size = wr.heap.size + 1 := by rw [← hW7]; simp
      obtain ⟨a8, c8, w8, hap8, o8, b8⟩ := run_app w7 (w.heap.size + 1) 32 _ _ _ _ (ok.below s7 (Nat.le_refl _)) (some ⟨wr.heap.size, 0, none⟩) 1 1 _ J7 (by intro h; cases h) (by omega) (by omega)
      rw [List.append_assoc, ← List.replicate_succ'] at o8
      have HO : Hid (OwnB (w.heap.size + 1) w8 a8 (18 + (k + 1)) c8 (headN o ++ List.replicate (k + 1) 106)) := o8
      have B8 : Hid (Below (w.heap.size + 1) wH w8) := bk.trans ((s7.mono sz).trans b8)
      clear J7 s7 z7 o8 b8 ok bk
      go_wp2_with (at_builtin; refine wpList_app hap8 _ _ rfl rfl rfl rfl rfl ?_)
      go_roundw
      case rel => exact ⟨k + 1, a8, c8, by omega, rfl, HO.out, B8.out⟩
      case measure => simp [slen]; omega
    · obtain rfl : k = 28 := by omega
      have B7 : Below w.heap.size w wr := BH.trans (bk.mono (by omega))
      obtain ⟨w7, hW7⟩ : ∃ w7, wr.alloc (.cells #[.int .u8 0, .int .u8 0] 5) = w7 := ⟨_, rfl⟩
      have J7 : IsB (wr.heap.size + 1) w7 (some ⟨wr.heap.size, 0, none⟩) 2 [0, 0] := by rw [← hW7]; exact isB_new wr [0, 0] 5 (0, 0)
      have s7 : Below wr.heap.size wr w7 := by rw [← hW7]; exact (Below.refl _ wr).alloc (Nat.le_refl _) _
      have z7 : w7.heap.size = wr.heap.size + 1 := by rw [← hW7]; simp
      obtain ⟨a8, c8, w8, hap8, o8, b8⟩ := run_app w7 (w.heap.size + 1) 32 _ _ _ _ (ok.below s7 (Nat.le_refl _)) (some ⟨wr.heap.size, 0, none⟩) 2 2 _ J7 (by intro h; cases h) (by omega) (by omega)
      have B8 : Below w.heap.size w w8 := B7.trans ((s7.mono B7.size).trans (b8.mono (by omega)))
      rw [HLAY.out] at o8
      have HS := refseal_calls a8 c8 (layN o) w8 o8.isB.1 (Nat.le_refl _) o8.isB.2.1
      clear J7 s7 z7 o8 b8 ok bk B7
      go_wp2_with (at_builtin; refine wpList_app hap8 _ _ rfl rfl rfl rfl rfl ?_)
      refine HS.mono ?_
      rintro e w9 ⟨a9, c9, rfl, I9, b9⟩
      go_wp2
      go_ret
      exact ⟨a9, c9, rfl, I9, B8.trans (b9.mono B8.size)⟩
set_option maxRecDepth 100000 in
set_option maxHeartbeats 8000000 in
theorem refpack_rdi (o : Om) (h : o.Ok) (hc : canB o = true) (hk : o.k = 1) (w : World) : Calls Try.prog 11 #[.agg (omV o)] w fun e w' => ∃ a c, e = .returned (.slice a 48 c) ∧ IsB w'.heap.size w' a 48 (payN o) ∧ Below w.heap.size w w' := by
  have K0 := bk_new w (omV o) 25
  have A0 : Below w.heap.size w (w.alloc (.cells (omV o) 25)) := (Below.refl _ w).alloc (Nat.le_refl _) _
  have HR := fun w => refright_calls o h w
  rw [hc] at HR
  have HLAY : Hid (headN o ++ List.replicate (46 - 18) 106 ++ [0, 0] = layN o) := lay_of_head o 18 (by rw [head_one o (by omega)]; simp [h.p])
  have HK : Hid (o.k = 1) := hk
  have HH : Hid ([17] ++ [o.d] ++ o.p = headN o) := by rw [Hid, head_one o (by omega), hk]; rfl
  clear hc
  go_enter Try.func11, Try.ntmps11
  go_wp2_with ((with_reducible show wpList _ _ _ (Oper.mk _ (Op.load 25 _) _ _ _ _ :: _) _ _; refine wpList_ld rfl rfl rfl (run_ldB _ _ _ _ (by assumption) (by first | assumption | exact om0_ok)) ?_; (try simp only [Act.put, List.setIfInBounds_toArray, List.set_cons_zero, List.set_cons_succ, World.size_alloc])))
  refine (HR _).mono ?_
  rintro e w1 ⟨rfl, b1⟩
  have K1 := K0.below b1 K0.lt
  have B1 : Below w.heap.size w w1 := A0.trans (b1.mono (by simp))
  have Z1 : w.heap.size + 1 ≤ w1.heap.size := by have := b1.size; simpa using this
  obtain ⟨e0, e1, e2, e3⟩ := K1.om
  rw [HK.out] at e0
  clear K0 A0 b1 HR
  go_wp2_with (with_reducible show wpList _ _ _ (Oper.mk _ (Op.buildSlice 32 1 _) _ _ _ _ :: _) _ _; refine wpList_slB (zs := [17]) (vs := [(0, .int .u8 ((17 : UInt8).toNat : Int))]) rfl (w.heap.size + 1) rfl rfl (run_sl1 _) rfl (by decide) Z1 ?_; intro b2 w2 hb2 o2 d2; have K2 := K1.below d2 K1.lt; have B2 := B1.trans (d2.mono B1.size); have Z2 := Nat.le_trans Z1 d2.size; obtain ⟨f0, f1, f2, f3⟩ := K2.om; rw [HK.out] at f0; clear e0 e1 e2 e3)
  refine wp_region_held_drew (S := (fun w' => BK w' w.heap.size (omV o) 25 ∧ Below w.heap.size w w' ∧ w.heap.size + 1 ≤ w'.heap.size)) (by kernel_rfl) ⟨K2.drew, B2.drew, Z2⟩ (fun hHeld => ?_)
  refine wpAnyH_take (i := 0) (oi := ({ dst := some 16, op := Op.move (Operand.tmp 3), type := 32, pos := _, after := #[], guard := none } : Oper)) (v := ?_) rfl (by kernel_rfl) (by kernel_rfl) (by kernel_rfl) (fun _ _ _ h => h) (Or.inl ⟨by rfl, ?_⟩) hHeld ?_
  rotate_left
  · (intro w hS; go_simp; try with_reducible rfl)
  try simp only [Act.put, List.setIfInBounds_toArray, List.set_cons_zero, List.set_cons_succ]
  refine wpAnyH_take (i := 1) (oi := ({ dst := some 17, op := Op.fieldAddr 25 (Operand.tmp 1) 1, type := 0, pos := _, after := #[], guard := none } : Oper)) (v := ?_) rfl (by kernel_rfl) (by kernel_rfl) (by kernel_rfl) (fun _ _ _ h => h) (Or.inl ⟨by rfl, ?_⟩) hHeld ?_
  rotate_left
  · (intro w hS; go_simp; try with_reducible rfl)
  try simp only [Act.put, List.setIfInBounds_toArray, List.set_cons_zero, List.set_cons_succ]
  refine wpAnyH_take (i := 2) (oi := ({ dst := some 18, op := Op.load 5 (Operand.tmp 17), type := 5, pos := _, after := #[{ on := 1, ground := Ground.data }], guard := none } : Oper)) (v := ?_) rfl (by kernel_rfl) (by kernel_rfl) (by kernel_rfl) (fun _ _ _ h => h) (Or.inl ⟨by rfl, ?_⟩) hHeld ?_
  rotate_left
  · (intro w hS; obtain ⟨d0, d1, d2, d3⟩ := hS.1.om; go_simp; try with_reducible rfl)
  try simp only [Act.put, List.setIfInBounds_toArray, List.set_cons_zero, List.set_cons_succ]
  refine wpAnyH_take (i := 5) (oi := ({ dst := some 21, op := Op.fieldAddr 25 (Operand.tmp 1) 4, type := 0, pos := _, after := #[], guard := none } : Oper)) (v := ?_) rfl (by kernel_rfl) (by kernel_rfl) (by kernel_rfl) (fun _ _ _ h => h) (Or.inl ⟨by rfl, ?_⟩) hHeld ?_
  rotate_left
  · (intro w hS; go_simp; try with_reducible rfl)
  try simp only [Act.put, List.setIfInBounds_toArray, List.set_cons_zero, List.set_cons_succ]
  refine wpAnyH_take (i := 6) (oi := ({ dst := some 22, op := Op.slice 23 (Operand.tmp 21) none none none, type := 32, pos := _, after := #[{ on := 5, ground := Ground.data }], guard := none } : Oper)) (v := ?_) rfl (by kernel_rfl) (by kernel_rfl) (by kernel_rfl) (fun _ _ _ h => h) (Or.inl ⟨by rfl, ?_⟩) hHeld ?_
  rotate_left
  · (intro w hS; go_simp; try with_reducible rfl)
  try simp only [Act.put, List.setIfInBounds_toArray, List.set_cons_zero, List.set_cons_succ]
  refine wpAnyH_ready (rs := [3]) (by kernel_rfl) (by simp) ?_
  refine AllReadyH.cons (o := ({ dst := some 19, op := Op.buildSlice 32 1 #[(0, Operand.tmp 18)], type := 32, pos := _, after := #[{ on := 2, ground := Ground.data }], guard := none } : Oper)) rfl (fun K hK => ?_) AllReadyH.nil
  refine step_slB (zs := [o.d]) (vs := [(0, .int .u8 (o.d.toNat : Int))]) (by rfl) (w.heap.size + 1) (by rfl) (by rfl) (run_sl1 _) rfl (by decide) hHeld.2.2 ?_
  intro b5 w5 hb5 o5 d5
  have o2 := (o2.below (Below.refl _ _).drew (Nat.le_refl _)).below d5 (Nat.le_refl _)
  refine hK.out _ _ ⟨hHeld.1.below d5 hHeld.1.lt, hHeld.2.1.trans (d5.mono hHeld.2.1.size), Nat.le_trans hHeld.2.2 d5.size⟩ (fun hHeld => ?_)
  clear hK K
  try simp only [Act.put, List.setIfInBounds_toArray, List.set_cons_zero, List.set_cons_succ]
  refine wpAnyH_ready (rs := [4]) (by kernel_rfl) (by simp) ?_
  refine AllReadyH.cons (o := ({ dst := some 20, op := Op.call { callee := Callee.builtin Builtin.append, args := #[Operand.tmp 16, Operand.tmp 19], argTypes := #[32, 32] }, type := 32, pos := _, after := #[{ on := 0, ground := Ground.data }, { on := 3, ground := Ground.data }], guard := none } : Oper)) rfl (fun K hK => ?_) AllReadyH.nil
  refine step_appB (N := 2) (by rfl) (by rfl) (by rfl) (by rfl) o2 o5.isB.1 (by intro h; cases h) (by decide) hHeld.2.2 rfl ?_
  intro a6 c6 w6 o6 d6
  refine hK.out _ _ ⟨hHeld.1.below d6 (by omega), hHeld.2.1.trans (d6.mono (by omega)), Nat.le_trans hHeld.2.2 d6.size⟩ (fun hHeld => ?_)
  clear hK K
  try simp only [Act.put, List.setIfInBounds_toArray, List.set_cons_zero, List.set_cons_succ]
  refine wpAnyH_ready (rs := [7]) (by kernel_rfl) (by simp) ?_
  refine AllReadyH.cons (o := ({ dst := some 23, op := Op.call { callee := Callee.builtin Builtin.append, args := #[Operand.tmp 20, Operand.tmp 22], argTypes := #[32, 32] }, type := 32, pos := _, after := #[{ on := 4, ground := Ground.data }, { on := 6, ground := Ground.data }, { on := 4, ground := Ground.chain }], guard := none } : Oper)) rfl (fun K hK => ?_) AllReadyH.nil
  refine step_appB (N := 18) (by rfl) (by rfl) (by rfl) (by rfl) o6 (hHeld.1.place h) (by intro h; cases h) (by decide) hHeld.2.2 rfl ?_
  intro aH cH wH oH dH
  refine hK.out _ _ ⟨hHeld.1.below dH (by omega), hHeld.2.1.trans (dH.mono (by omega)), Nat.le_trans hHeld.2.2 dH.size⟩ (fun hHeld => ?_)
  clear hK K
  try simp only [Act.put, List.setIfInBounds_toArray, List.set_cons_zero, List.set_cons_succ]
  refine wpAnyH_take (i := 8) (oi := ({ dst := some 3, op := Op.assign (Operand.tmp 23), type := 32, pos := _, after := #[{ on := 7, ground := Ground.data }, { on := 7, ground := Ground.chain }, { on := 0, ground := Ground.phase }, { on := 1, ground := Ground.phase }, { on := 2, ground := Ground.phase }, { on := 3, ground := Ground.phase }, { on := 4, ground := Ground.phase }, { on := 5, ground := Ground.phase }, { on := 6, ground := Ground.phase }, { on := 7, ground := Ground.phase }], guard := none } : Oper)) (v := ?_) rfl (by kernel_rfl) (by kernel_rfl) (by kernel_rfl) (fun _ _ _ h => h) (Or.inl ⟨by rfl, ?_⟩) hHeld ?_
  rotate_left
  · (intro w hS; go_simp; try with_reducible rfl)
  try simp only [Act.put, List.setIfInBounds_toArray, List.set_cons_zero, List.set_cons_succ]
  refine wpAnyH_done (by kernel_rfl) ?_ _
  skip
  obtain ⟨KH, BH, ZH⟩ := hHeld
  obtain ⟨g0, g1, g2, g3⟩ := KH.om
  rw [HK.out] at g0
  rw [HH.out] at oH
  replace oH : OwnB (w.heap.size + 1) wH aH (18 + 0) cH (headN o ++ List.replicate 0 106) := by simpa using oH
  clear K1 B1 Z1 K2 B2 Z2 o2 o5 o6 d5 d6 dH f0 f1 f2 f3
  go_wp2
  go_loopw [3] (fun v wr => ∃ (k : Nat) (a : Option Addr) (c : Nat), k ≤ 28 ∧ v = .slice a (18 + k) c ∧ OwnB (w.heap.size + 1) wr a (18 + k) c (headN o ++ List.replicate k 106) ∧ Below (w.heap.size + 1) wH wr) (fun v _ => 46 - slen v)
  case atStart => exact ⟨0, _, _, by omega, rfl, oH, Below.refl _ _⟩
  case round =>
    obtain ⟨k, a, c, hk, rfl, ok, bk⟩ := hrel
    clear oH
    have sz : w.heap.size + 1 ≤ wr.heap.size := Nat.le_trans ZH bk.size
    by_cases hlt : k < 28
    · obtain ⟨w7, hW7⟩ : ∃ w7, wr.alloc (.cells #[.int .u8 106] 5) = w7 := ⟨_, rfl⟩
      have J7 : IsB (wr.heap.size + 1) w7 (some ⟨wr.heap.size, 0, none⟩) 1 [106] := by rw [← hW7]; exact isB_new wr [106] 5 (0, 0)
      have s7 : Below wr.heap.size wr w7 := by rw [← hW7]; exact (Below.refl _ wr).alloc (Nat.le_refl _) _
      have z7 : w7.heap.size = wr.heap.size + 1 := by rw [← hW7]; simp
      obtain ⟨a8, c8, w8, hap8, o8, b8⟩ := run_app w7 (w.heap.size + 1) 32 _ _ _ _ (ok.below s7 (Nat.le_refl _)) (some ⟨wr.heap.size, 0, none⟩) 1 1 _ J7 (by intro h; cases h) (by omega) (by omega)
      rw [List.append_assoc, ← List.replicate_succ'] at o8
      have HO : Hid (OwnB (w.heap.size + 1) w8 a8 (18 + (k + 1)) c8 (headN o ++ List.replicate (k + 1) 106)) := o8
      have B8 : Hid (Below (w.heap.size + 1) wH w8) := bk.trans ((s7.mono sz).trans b8)
      clear J7 s7 z7 o8 b8 ok bk
      go_wp2_with (at_builtin; refine wpList_app hap8 _ _ rfl rfl rfl rfl rfl ?_)
      go_roundw
      case rel => exact ⟨k + 1, a8, c8, by omega, rfl, HO.out, B8.out⟩
      case measure => simp [slen]; omega
    · obtain rfl : k = 28 := by omega
      have B7 : Below w.heap.size w wr := BH.trans (bk.mono (by omega))
      obtain ⟨w7, hW7⟩ : ∃ w7, wr.alloc (.cells #[.int .u8 0, .int .u8 0] 5) = w7 := ⟨_, rfl⟩
      have J7 : IsB (wr.heap.size + 1) w7 (some ⟨wr.heap.size, 0, none⟩) 2 [0, 0] := by rw [← hW7]; exact isB_new wr [0, 0] 5 (0, 0)
      have s7 : Below wr.heap.size wr w7 := by rw [← hW7]; exact (Below.refl _ wr).alloc (Nat.le_refl _) _
      have z7 : w7.heap.size = wr.heap.size + 1 := by rw [← hW7]; simp
      obtain ⟨a8, c8, w8, hap8, o8, b8⟩ := run_app w7 (w.heap.size + 1) 32 _ _ _ _ (ok.below s7 (Nat.le_refl _)) (some ⟨wr.heap.size, 0, none⟩) 2 2 _ J7 (by intro h; cases h) (by omega) (by omega)
      have B8 : Below w.heap.size w w8 := B7.trans ((s7.mono B7.size).trans (b8.mono (by omega)))
      rw [HLAY.out] at o8
      have HS := refseal_calls a8 c8 (layN o) w8 o8.isB.1 (Nat.le_refl _) o8.isB.2.1
      clear J7 s7 z7 o8 b8 ok bk B7
      go_wp2_with (at_builtin; refine wpList_app hap8 _ _ rfl rfl rfl rfl rfl ?_)
      refine HS.mono ?_
      rintro e w9 ⟨a9, c9, rfl, I9, b9⟩
      go_wp2
      go_ret
      exact ⟨a9, c9, rfl, I9, B8.trans (b9.mono B8.size)⟩
set_option maxRecDepth 100000 in
set_option maxHeartbeats 8000000 in
theorem refpack_check (o : Om) (h : o.Ok) (hc : canB o = true) (hk : o.k = 4) (w : World) : Calls Try.prog 11 #[.agg (omV o)] w fun e w' => ∃ a c, e = .returned (.slice a 48 c) ∧ IsB w'.heap.size w' a 48 (payN o) ∧ Below w.heap.size w w' := by
  have K0 := bk_new w (omV o) 25
  have A0 : Below w.heap.size w (w.alloc (.cells (omV o) 25)) := (Below.refl _ w).alloc (Nat.le_refl _) _
  have HR := fun w => refright_calls o h w
  rw [hc] at HR
  have HLAY : Hid (headN o ++ List.replicate (46 - 1) 106 ++ [0, 0] = layN o) := lay_of_head o 1 (by rw [head_check o hk]; rfl)
  have HK : Hid (o.k = 4) := hk
  have HH : Hid ([20] = headN o) := (head_check o hk).symm
  clear hc
  go_enter Try.func11, Try.ntmps11
  go_wp2_with ((with_reducible show wpList _ _ _ (Oper.mk _ (Op.load 25 _) _ _ _ _ :: _) _ _; refine wpList_ld rfl rfl rfl (run_ldB _ _ _ _ (by assumption) (by first | assumption | exact om0_ok)) ?_; (try simp only [Act.put, List.setIfInBounds_toArray, List.set_cons_zero, List.set_cons_succ, World.size_alloc])))
  refine (HR _).mono ?_
  rintro e w1 ⟨rfl, b1⟩
  have K1 := K0.below b1 K0.lt
  have B1 : Below w.heap.size w w1 := A0.trans (b1.mono (by simp))
  have Z1 : w.heap.size + 1 ≤ w1.heap.size := by have := b1.size; simpa using this
  obtain ⟨e0, e1, e2, e3⟩ := K1.om
  rw [HK.out] at e0
  clear K0 A0 b1 HR
  go_wp2_with (first | (with_reducible show wpList _ _ _ (Oper.mk _ (Op.buildSlice 32 1 _) _ _ _ _ :: _) _ _; refine wpList_slB (zs := [20]) (vs := [(0, .int .u8 ((20 : UInt8).toNat : Int))]) rfl (w.heap.size + 1) rfl rfl (run_sl1 _) rfl (by decide) Z1 ?_; intro b2 w2 hb2 o2 d2; have K2 := K1.below d2 K1.lt; have B2 := B1.trans (d2.mono B1.size); have Z2 := Nat.le_trans Z1 d2.size; obtain ⟨f0, f1, f2, f3⟩ := K2.om; rw [HK.out] at f0; clear e0 e1 e2 e3))
  obtain ⟨wH, hwH⟩ : ∃ z, z = w2 := ⟨_, rfl⟩
  subst hwH
  rw [HH.out] at o2
  have oH : OwnB (w.heap.size + 1) wH (some ⟨b2, 0, none⟩) (1 + 0) 1 (headN o ++ List.replicate 0 106) := by simpa using o2
  have BH := B2
  have ZH := Z2
  clear K1 B1 Z1 o2 d2
  go_loopw [3] (fun v wr => ∃ (k : Nat) (a : Option Addr) (c : Nat), k ≤ 45 ∧ v = .slice a (1 + k) c ∧ OwnB (w.heap.size + 1) wr a (1 + k) c (headN o ++ List.replicate k 106) ∧ Below (w.heap.size + 1) wH wr) (fun v _ => 46 - slen v)
  case atStart => exact ⟨0, _, _, by omega, rfl, oH, Below.refl _ _⟩
  case round =>
    obtain ⟨k, a, c, hk, rfl, ok, bk⟩ := hrel
    clear oH
    have sz : w.heap.size + 1 ≤ wr.heap.size := Nat.le_trans ZH bk.size
    by_cases hlt : k < 45
    · obtain ⟨w7, hW7⟩ : ∃ w7, wr.alloc (.cells #[.int .u8 106] 5) = w7 := ⟨_, rfl⟩
      have J7 : IsB (wr.heap.size + 1) w7 (some ⟨wr.heap.size, 0, none⟩) 1 [106] := by rw [← hW7]; exact isB_new wr [106] 5 (0, 0)
      have s7 : Below wr.heap.size wr w7 := by rw [← hW7]; exact (Below.refl _ wr).alloc (Nat.le_refl _) _
      have z7 : w7.heap.size = wr.heap.size + 1 := by rw [← hW7]; simp
      obtain ⟨a8, c8, w8, hap8, o8, b8⟩ := run_app w7 (w.heap.size + 1) 32 _ _ _ _ (ok.below s7 (Nat.le_refl _)) (some ⟨wr.heap.size, 0, none⟩) 1 1 _ J7 (by intro h; cases h) (by omega) (by omega)
      rw [List.append_assoc, ← List.replicate_succ'] at o8
      have HO : Hid (OwnB (w.heap.size + 1) w8 a8 (1 + (k + 1)) c8 (headN o ++ List.replicate (k + 1) 106)) := o8
      have B8 : Hid (Below (w.heap.size + 1) wH w8) := bk.trans ((s7.mono sz).trans b8)
      clear J7 s7 z7 o8 b8 ok bk
      go_wp2_with (at_builtin; refine wpList_app hap8 _ _ rfl rfl rfl rfl rfl ?_)
      go_roundw
      case rel => exact ⟨k + 1, a8, c8, by omega, rfl, HO.out, B8.out⟩
      case measure => simp [slen]; omega
    · obtain rfl : k = 45 := by omega
      have B7 : Below w.heap.size w wr := BH.trans (bk.mono (by omega))
      obtain ⟨w7, hW7⟩ : ∃ w7, wr.alloc (.cells #[.int .u8 0, .int .u8 0] 5) = w7 := ⟨_, rfl⟩
      have J7 : IsB (wr.heap.size + 1) w7 (some ⟨wr.heap.size, 0, none⟩) 2 [0, 0] := by rw [← hW7]; exact isB_new wr [0, 0] 5 (0, 0)
      have s7 : Below wr.heap.size wr w7 := by rw [← hW7]; exact (Below.refl _ wr).alloc (Nat.le_refl _) _
      have z7 : w7.heap.size = wr.heap.size + 1 := by rw [← hW7]; simp
      obtain ⟨a8, c8, w8, hap8, o8, b8⟩ := run_app w7 (w.heap.size + 1) 32 _ _ _ _ (ok.below s7 (Nat.le_refl _)) (some ⟨wr.heap.size, 0, none⟩) 2 2 _ J7 (by intro h; cases h) (by omega) (by omega)
      have B8 : Below w.heap.size w w8 := B7.trans ((s7.mono B7.size).trans (b8.mono (by omega)))
      rw [HLAY.out] at o8
      have HS := refseal_calls a8 c8 (layN o) w8 o8.isB.1 (Nat.le_refl _) o8.isB.2.1
      clear J7 s7 z7 o8 b8 ok bk B7
      go_wp2_with (at_builtin; refine wpList_app hap8 _ _ rfl rfl rfl rfl rfl ?_)
      refine HS.mono ?_
      rintro e w9 ⟨a9, c9, rfl, I9, b9⟩
      go_wp2
      go_ret
      exact ⟨a9, c9, rfl, I9, B8.trans (b9.mono B8.size)⟩
set_option maxRecDepth 100000 in
set_option maxHeartbeats 8000000 in
theorem refpack_loop0 (o : Om) (h : o.Ok) (hc : canB o = true) (hk : o.k = 8) (ha : o.a = false) (w : World) : Calls Try.prog 11 #[.agg (omV o)] w fun e w' => ∃ a c, e = .returned (.slice a 48 c) ∧ IsB w'.heap.size w' a 48 (payN o) ∧ Below w.heap.size w w' := by
  have K0 := bk_new w (omV o) 25
  have A0 : Below w.heap.size w (w.alloc (.cells (omV o) 25)) := (Below.refl _ w).alloc (Nat.le_refl _) _
  have HR := fun w => refright_calls o h w
  rw [hc] at HR
  have HLAY : Hid (headN o ++ List.replicate (46 - 38) 106 ++ [0, 0] = layN o) := lay_of_head o 38 (by rw [head_loop o hk (shr_bytes o.t h.t).choose_spec.choose_spec.choose_spec.choose_spec.1]; simp [h.p, h.s])
  have HK : Hid (o.k = 8) := hk
  obtain ⟨x3, x2, x1, x0, hbe, s3, s2, s1, s0⟩ := shr_bytes o.t h.t
  have HH : Hid ([24] ++ [0, x3, x2, x1, x0] ++ o.p ++ o.s = headN o) := by rw [Hid, head_loop o hk hbe, ha]; rfl
  have ht := h.t
  have ht2 : (o.t : Int) ≤ 4294967295 := by omega
  rw [IntKind.wrap_u8] at s3 s2 s1 s0
  have s4 : (o.t : Int) / 16777216 = (x3.toNat : Int) := by omega
  clear hbe
  clear hc
  go_enter Try.func11, Try.ntmps11
  go_wp2_with ((with_reducible show wpList _ _ _ (Oper.mk _ (Op.load 25 _) _ _ _ _ :: _) _ _; refine wpList_ld rfl rfl rfl (run_ldB _ _ _ _ (by assumption) (by first | assumption | exact om0_ok)) ?_; (try simp only [Act.put, List.setIfInBounds_toArray, List.set_cons_zero, List.set_cons_succ, World.size_alloc])))
  refine (HR _).mono ?_
  rintro e w1 ⟨rfl, b1⟩
  have K1 := K0.below b1 K0.lt
  have B1 : Below w.heap.size w w1 := A0.trans (b1.mono (by simp))
  have Z1 : w.heap.size + 1 ≤ w1.heap.size := by have := b1.size; simpa using this
  obtain ⟨e0, e1, e2, e3⟩ := K1.om
  rw [HK.out] at e0
  clear K0 A0 b1 HR
  rw [ha] at e2
  go_wp2_with (first
    | (with_reducible show wpList _ _ _ (Oper.mk _ (Op.buildSlice 32 1 _) _ _ _ _ :: _) _ _; refine wpList_slB (zs := [24]) (vs := [(0, .int .u8 ((24 : UInt8).toNat : Int))]) rfl (w.heap.size + 1) rfl rfl (run_sl1 _) rfl (by decide) Z1 ?_; intro b2 w2 hb2 o2 d2; have K2 := K1.below d2 K1.lt; have B2 := B1.trans (d2.mono B1.size); have Z2 := Nat.le_trans Z1 d2.size; obtain ⟨f0, f1, f2, f3⟩ := K2.om; rw [HK.out] at f0; clear e0 e1 e2 e3; rw [ha] at f2)
    | (with_reducible show wpList _ _ _ (Oper.mk _ (Op.buildSlice 32 5 _) _ _ _ _ :: _) _ _; (refine wpList_slB (zs := [0, x3, x2, x1, x0]) (vs := [(0, .int .u8 ((0 : UInt8).toNat : Int)), (1, .int .u8 (x3.toNat : Int)), (2, .int .u8 ((o.t : Int) / 65536 % 256)), (3, .int .u8 ((o.t : Int) / 256 % 256)), (4, .int .u8 ((o.t : Int) % 256))]) rfl (w.heap.size + 1) rfl rfl (by intro w; rw [s2, s1, s0]; exact run_sl5 _ _ _ _ _ w) rfl (by decide) Z2 ?_); intro b3 w3 hb3 o3 d3; have o2 := o2.below d3 (Nat.le_refl _); have K3 := K2.below d3 K2.lt; have B3 := B2.trans (d3.mono B2.size); have Z3 := Nat.le_trans Z2 d3.size)
    | (at_builtin; (refine wpList_appB (N := 6) rfl rfl rfl rfl o2 o3.isB.1 (by intro h; cases h) (by decide) Z3 rfl ?_; intro a4 c4 w4 o4 d4; have K4 := K3.below d4 (by omega); have B4 := B3.trans (d4.mono (by omega)); have Z4 := Nat.le_trans Z3 d4.size)))
  refine wp_region_held_drew (S := (fun w' => BK w' w.heap.size (omV o) 25 ∧ Below w.heap.size w w' ∧ w.heap.size + 1 ≤ w'.heap.size)) (by kernel_rfl) ⟨K4.drew, B4.drew, Z4⟩ (fun hHeld => ?_)
  refine wpAnyH_take (i := 0) (oi := ({ dst := some 48, op := Op.move (Operand.tmp 3), type := 32, pos := _, after := #[], guard := none } : Oper)) (v := ?_) rfl (by kernel_rfl) (by kernel_rfl) (by kernel_rfl) (fun _ _ _ h => h) (Or.inl ⟨by rfl, ?_⟩) hHeld ?_
  rotate_left
  · (intro w hS; go_simp; try with_reducible rfl)
  try simp only [Act.put, List.setIfInBounds_toArray, List.set_cons_zero, List.set_cons_succ]
  refine wpAnyH_take (i := 1) (oi := ({ dst := some 49, op := Op.fieldAddr 25 (Operand.tmp 1) 4, type := 0, pos := _, after := #[], guard := none } : Oper)) (v := ?_) rfl (by kernel_rfl) (by kernel_rfl) (by kernel_rfl) (fun _ _ _ h => h) (Or.inl ⟨by rfl, ?_⟩) hHeld ?_
  rotate_left
  · (intro w hS; go_simp; try with_reducible rfl)
  try simp only [Act.put, List.setIfInBounds_toArray, List.set_cons_zero, List.set_cons_succ]
  refine wpAnyH_take (i := 2) (oi := ({ dst := some 50, op := Op.slice 23 (Operand.tmp 49) none none none, type := 32, pos := _, after := #[{ on := 1, ground := Ground.data }], guard := none } : Oper)) (v := ?_) rfl (by kernel_rfl) (by kernel_rfl) (by kernel_rfl) (fun _ _ _ h => h) (Or.inl ⟨by rfl, ?_⟩) hHeld ?_
  rotate_left
  · (intro w hS; go_simp; try with_reducible rfl)
  try simp only [Act.put, List.setIfInBounds_toArray, List.set_cons_zero, List.set_cons_succ]
  refine wpAnyH_take (i := 4) (oi := ({ dst := some 52, op := Op.fieldAddr 25 (Operand.tmp 1) 5, type := 0, pos := _, after := #[], guard := none } : Oper)) (v := ?_) rfl (by kernel_rfl) (by kernel_rfl) (by kernel_rfl) (fun _ _ _ h => h) (Or.inl ⟨by rfl, ?_⟩) hHeld ?_
  rotate_left
  · (intro w hS; go_simp; try with_reducible rfl)
  try simp only [Act.put, List.setIfInBounds_toArray, List.set_cons_zero, List.set_cons_succ]
  refine wpAnyH_take (i := 5) (oi := ({ dst := some 53, op := Op.slice 23 (Operand.tmp 52) none none none, type := 32, pos := _, after := #[{ on := 4, ground := Ground.data }], guard := none } : Oper)) (v := ?_) rfl (by kernel_rfl) (by kernel_rfl) (by kernel_rfl) (fun _ _ _ h => h) (Or.inl ⟨by rfl, ?_⟩) hHeld ?_
  rotate_left
  · (intro w hS; go_simp; try with_reducible rfl)
  try simp only [Act.put, List.setIfInBounds_toArray, List.set_cons_zero, List.set_cons_succ]
  refine wpAnyH_ready (rs := [3]) (by kernel_rfl) (by simp) ?_
  refine AllReadyH.cons (o := ({ dst := some 51, op := Op.call { callee := Callee.builtin Builtin.append, args := #[Operand.tmp 48, Operand.tmp 50], argTypes := #[32, 32] }, type := 32, pos := _, after := #[{ on := 0, ground := Ground.data }, { on := 2, ground := Ground.data }], guard := none } : Oper)) rfl (fun K hK => ?_) AllReadyH.nil
  refine step_appB (N := 22) (by rfl) (by rfl) (by rfl) (by rfl) (o4.below (Below.refl _ _).drew (Nat.le_refl _)) (hHeld.1.place h) (by intro h; cases h) (by decide) hHeld.2.2 rfl ?_
  intro a6 c6 w6 o6 d6
  refine hK.out _ _ ⟨hHeld.1.below d6 (by omega), hHeld.2.1.trans (d6.mono (by omega)), Nat.le_trans hHeld.2.2 d6.size⟩ (fun hHeld => ?_)
  clear hK K
  try simp only [Act.put, List.setIfInBounds_toArray, List.set_cons_zero, List.set_cons_succ]
  refine wpAnyH_ready (rs := [6]) (by kernel_rfl) (by simp) ?_
  refine AllReadyH.cons (o := ({ dst := some 54, op := Op.call { callee := Callee.builtin Builtin.append, args := #[Operand.tmp 51, Operand.tmp 53], argTypes := #[32, 32] }, type := 32, pos := _, after := #[{ on := 3, ground := Ground.data }, { on := 5, ground := Ground.data }, { on := 3, ground := Ground.chain }], guard := none } : Oper)) rfl (fun K hK => ?_) AllReadyH.nil
  refine step_appB (N := 38) (by rfl) (by rfl) (by rfl) (by rfl) o6 (hHeld.1.source h) (by intro h; cases h) (by decide) hHeld.2.2 rfl ?_
  intro aH cH wH oH dH
  refine hK.out _ _ ⟨hHeld.1.below dH (by omega), hHeld.2.1.trans (dH.mono (by omega)), Nat.le_trans hHeld.2.2 dH.size⟩ (fun hHeld => ?_)
  clear hK K
  try simp only [Act.put, List.setIfInBounds_toArray, List.set_cons_zero, List.set_cons_succ]
  refine wpAnyH_take (i := 7) (oi := ({ dst := some 3, op := Op.assign (Operand.tmp 54), type := 32, pos := _, after := #[{ on := 6, ground := Ground.data }, { on := 6, ground := Ground.chain }, { on := 0, ground := Ground.phase }, { on := 1, ground := Ground.phase }, { on := 2, ground := Ground.phase }, { on := 3, ground := Ground.phase }, { on := 4, ground := Ground.phase }, { on := 5, ground := Ground.phase }, { on := 6, ground := Ground.phase }], guard := none } : Oper)) (v := ?_) rfl (by kernel_rfl) (by kernel_rfl) (by kernel_rfl) (fun _ _ _ h => h) (Or.inl ⟨by rfl, ?_⟩) hHeld ?_
  rotate_left
  · (intro w hS; go_simp; try with_reducible rfl)
  try simp only [Act.put, List.setIfInBounds_toArray, List.set_cons_zero, List.set_cons_succ]
  refine wpAnyH_done (by kernel_rfl) ?_ _
  skip
  obtain ⟨KH, BH, ZH⟩ := hHeld
  rw [HH.out] at oH
  replace oH : OwnB (w.heap.size + 1) wH aH (38 + 0) cH (headN o ++ List.replicate 0 106) := by simpa using oH
  clear K1 B1 Z1 K2 B2 Z2 K3 B3 Z3 K4 B4 Z4 o2 o3 o4 o6 d2 d3 d4 d6 dH s4 s3 s2 s1 s0 ht ht2
  go_wp2
  go_loopw [3] (fun v wr => ∃ (k : Nat) (a : Option Addr) (c : Nat), k ≤ 8 ∧ v = .slice a (38 + k) c ∧ OwnB (w.heap.size + 1) wr a (38 + k) c (headN o ++ List.replicate k 106) ∧ Below (w.heap.size + 1) wH wr) (fun v _ => 46 - slen v)
  case atStart => exact ⟨0, _, _, by omega, rfl, oH, Below.refl _ _⟩
  case round =>
    obtain ⟨k, a, c, hk, rfl, ok, bk⟩ := hrel
    clear oH
    have sz : w.heap.size + 1 ≤ wr.heap.size := Nat.le_trans ZH bk.size
    by_cases hlt : k < 8
    · obtain ⟨w7, hW7⟩ : ∃ w7, wr.alloc (.cells #[.int .u8 106] 5) = w7 := ⟨_, rfl⟩
      have J7 : IsB (wr.heap.size + 1) w7 (some ⟨wr.heap.size, 0, none⟩) 1 [106] := by rw [← hW7]; exact isB_new wr [106] 5 (0, 0)
      have s7 : Below wr.heap.size wr w7 := by rw [← hW7]; exact (Below.refl _ wr).alloc (Nat.le_refl _) _
      have z7 : w7.heap.size = wr.heap.size + 1 := by rw [← hW7]; simp
      obtain ⟨a8, c8, w8, hap8, o8, b8⟩ := run_app w7 (w.heap.size + 1) 32 _ _ _ _ (ok.below s7 (Nat.le_refl _)) (some ⟨wr.heap.size, 0, none⟩) 1 1 _ J7 (by intro h; cases h) (by omega) (by omega)
      rw [List.append_assoc, ← List.replicate_succ'] at o8
      have HO : Hid (OwnB (w.heap.size + 1) w8 a8 (38 + (k + 1)) c8 (headN o ++ List.replicate (k + 1) 106)) := o8
      have B8 : Hid (Below (w.heap.size + 1) wH w8) := bk.trans ((s7.mono sz).trans b8)
      clear J7 s7 z7 o8 b8 ok bk
      go_wp2_with (at_builtin; refine wpList_app hap8 _ _ rfl rfl rfl rfl rfl ?_)
      go_roundw
      case rel => exact ⟨k + 1, a8, c8, by omega, rfl, HO.out, B8.out⟩
      case measure => simp [slen]; omega
    · obtain rfl : k = 8 := by omega
      have B7 : Below w.heap.size w wr := BH.trans (bk.mono (by omega))
      obtain ⟨w7, hW7⟩ : ∃ w7, wr.alloc (.cells #[.int .u8 0, .int .u8 0] 5) = w7 := ⟨_, rfl⟩
      have J7 : IsB (wr.heap.size + 1) w7 (some ⟨wr.heap.size, 0, none⟩) 2 [0, 0] := by rw [← hW7]; exact isB_new wr [0, 0] 5 (0, 0)
      have s7 : Below wr.heap.size wr w7 := by rw [← hW7]; exact (Below.refl _ wr).alloc (Nat.le_refl _) _
      have z7 : w7.heap.size = wr.heap.size + 1 := by rw [← hW7]; simp
      obtain ⟨a8, c8, w8, hap8, o8, b8⟩ := run_app w7 (w.heap.size + 1) 32 _ _ _ _ (ok.below s7 (Nat.le_refl _)) (some ⟨wr.heap.size, 0, none⟩) 2 2 _ J7 (by intro h; cases h) (by omega) (by omega)
      have B8 : Below w.heap.size w w8 := B7.trans ((s7.mono B7.size).trans (b8.mono (by omega)))
      rw [HLAY.out] at o8
      have HS := refseal_calls a8 c8 (layN o) w8 o8.isB.1 (Nat.le_refl _) o8.isB.2.1
      clear J7 s7 z7 o8 b8 ok bk B7
      go_wp2_with (at_builtin; refine wpList_app hap8 _ _ rfl rfl rfl rfl rfl ?_)
      refine HS.mono ?_
      rintro e w9 ⟨a9, c9, rfl, I9, b9⟩
      go_wp2
      go_ret
      exact ⟨a9, c9, rfl, I9, B8.trans (b9.mono B8.size)⟩
set_option maxRecDepth 100000 in
set_option maxHeartbeats 8000000 in
theorem refpack_loop1 (o : Om) (h : o.Ok) (hc : canB o = true) (hk : o.k = 8) (ha : o.a = true) (w : World) : Calls Try.prog 11 #[.agg (omV o)] w fun e w' => ∃ a c, e = .returned (.slice a 48 c) ∧ IsB w'.heap.size w' a 48 (payN o) ∧ Below w.heap.size w w' := by
  have K0 := bk_new w (omV o) 25
  have A0 : Below w.heap.size w (w.alloc (.cells (omV o) 25)) := (Below.refl _ w).alloc (Nat.le_refl _) _
  have HR := fun w => refright_calls o h w
  rw [hc] at HR
  have HLAY : Hid (headN o ++ List.replicate (46 - 38) 106 ++ [0, 0] = layN o) := lay_of_head o 38 (by rw [head_loop o hk (shr_bytes o.t h.t).choose_spec.choose_spec.choose_spec.choose_spec.1]; simp [h.p, h.s])
  have HK : Hid (o.k = 8) := hk
  obtain ⟨x3, x2, x1, x0, hbe, s3, s2, s1, s0⟩ := shr_bytes o.t h.t
  have HH : Hid ([24] ++ [1, x3, x2, x1, x0] ++ o.p ++ o.s = headN o) := by rw [Hid, head_loop o hk hbe, ha]; rfl
  have ht := h.t
  have ht2 : (o.t : Int) ≤ 4294967295 := by omega
  rw [IntKind.wrap_u8] at s3 s2 s1 s0
  have s4 : (o.t : Int) / 16777216 = (x3.toNat : Int) := by omega
  clear hbe
  clear hc
  go_enter Try.func11, Try.ntmps11
  go_wp2_with ((with_reducible show wpList _ _ _ (Oper.mk _ (Op.load 25 _) _ _ _ _ :: _) _ _; refine wpList_ld rfl rfl rfl (run_ldB _ _ _ _ (by assumption) (by first | assumption | exact om0_ok)) ?_; (try simp only [Act.put, List.setIfInBounds_toArray, List.set_cons_zero, List.set_cons_succ, World.size_alloc])))
  refine (HR _).mono ?_
  rintro e w1 ⟨rfl, b1⟩
  have K1 := K0.below b1 K0.lt
  have B1 : Below w.heap.size w w1 := A0.trans (b1.mono (by simp))
  have Z1 : w.heap.size + 1 ≤ w1.heap.size := by have := b1.size; simpa using this
  obtain ⟨e0, e1, e2, e3⟩ := K1.om
  rw [HK.out] at e0
  clear K0 A0 b1 HR
  rw [ha] at e2
  go_wp2_with (first
    | (with_reducible show wpList _ _ _ (Oper.mk _ (Op.buildSlice 32 1 _) _ _ _ _ :: _) _ _; refine wpList_slB (zs := [24]) (vs := [(0, .int .u8 ((24 : UInt8).toNat : Int))]) rfl (w.heap.size + 1) rfl rfl (run_sl1 _) rfl (by decide) Z1 ?_; intro b2 w2 hb2 o2 d2; have K2 := K1.below d2 K1.lt; have B2 := B1.trans (d2.mono B1.size); have Z2 := Nat.le_trans Z1 d2.size; obtain ⟨f0, f1, f2, f3⟩ := K2.om; rw [HK.out] at f0; clear e0 e1 e2 e3; rw [ha] at f2)
    | (with_reducible show wpList _ _ _ (Oper.mk _ (Op.buildSlice 32 5 _) _ _ _ _ :: _) _ _; (refine wpList_slB (zs := [1, x3, x2, x1, x0]) (vs := [(0, .int .u8 ((1 : UInt8).toNat : Int)), (1, .int .u8 (x3.toNat : Int)), (2, .int .u8 ((o.t : Int) / 65536 % 256)), (3, .int .u8 ((o.t : Int) / 256 % 256)), (4, .int .u8 ((o.t : Int) % 256))]) rfl (w.heap.size + 1) rfl rfl (by intro w; rw [s2, s1, s0]; exact run_sl5 _ _ _ _ _ w) rfl (by decide) Z2 ?_); intro b3 w3 hb3 o3 d3; have o2 := o2.below d3 (Nat.le_refl _); have K3 := K2.below d3 K2.lt; have B3 := B2.trans (d3.mono B2.size); have Z3 := Nat.le_trans Z2 d3.size)
    | (at_builtin; (refine wpList_appB (N := 6) rfl rfl rfl rfl o2 o3.isB.1 (by intro h; cases h) (by decide) Z3 rfl ?_; intro a4 c4 w4 o4 d4; have K4 := K3.below d4 (by omega); have B4 := B3.trans (d4.mono (by omega)); have Z4 := Nat.le_trans Z3 d4.size)))
  refine wp_region_held_drew (S := (fun w' => BK w' w.heap.size (omV o) 25 ∧ Below w.heap.size w w' ∧ w.heap.size + 1 ≤ w'.heap.size)) (by kernel_rfl) ⟨K4.drew, B4.drew, Z4⟩ (fun hHeld => ?_)
  refine wpAnyH_take (i := 0) (oi := ({ dst := some 48, op := Op.move (Operand.tmp 3), type := 32, pos := _, after := #[], guard := none } : Oper)) (v := ?_) rfl (by kernel_rfl) (by kernel_rfl) (by kernel_rfl) (fun _ _ _ h => h) (Or.inl ⟨by rfl, ?_⟩) hHeld ?_
  rotate_left
  · (intro w hS; go_simp; try with_reducible rfl)
  try simp only [Act.put, List.setIfInBounds_toArray, List.set_cons_zero, List.set_cons_succ]
  refine wpAnyH_take (i := 1) (oi := ({ dst := some 49, op := Op.fieldAddr 25 (Operand.tmp 1) 4, type := 0, pos := _, after := #[], guard := none } : Oper)) (v := ?_) rfl (by kernel_rfl) (by kernel_rfl) (by kernel_rfl) (fun _ _ _ h => h) (Or.inl ⟨by rfl, ?_⟩) hHeld ?_
  rotate_left
  · (intro w hS; go_simp; try with_reducible rfl)
  try simp only [Act.put, List.setIfInBounds_toArray, List.set_cons_zero, List.set_cons_succ]
  refine wpAnyH_take (i := 2) (oi := ({ dst := some 50, op := Op.slice 23 (Operand.tmp 49) none none none, type := 32, pos := _, after := #[{ on := 1, ground := Ground.data }], guard := none } : Oper)) (v := ?_) rfl (by kernel_rfl) (by kernel_rfl) (by kernel_rfl) (fun _ _ _ h => h) (Or.inl ⟨by rfl, ?_⟩) hHeld ?_
  rotate_left
  · (intro w hS; go_simp; try with_reducible rfl)
  try simp only [Act.put, List.setIfInBounds_toArray, List.set_cons_zero, List.set_cons_succ]
  refine wpAnyH_take (i := 4) (oi := ({ dst := some 52, op := Op.fieldAddr 25 (Operand.tmp 1) 5, type := 0, pos := _, after := #[], guard := none } : Oper)) (v := ?_) rfl (by kernel_rfl) (by kernel_rfl) (by kernel_rfl) (fun _ _ _ h => h) (Or.inl ⟨by rfl, ?_⟩) hHeld ?_
  rotate_left
  · (intro w hS; go_simp; try with_reducible rfl)
  try simp only [Act.put, List.setIfInBounds_toArray, List.set_cons_zero, List.set_cons_succ]
  refine wpAnyH_take (i := 5) (oi := ({ dst := some 53, op := Op.slice 23 (Operand.tmp 52) none none none, type := 32, pos := _, after := #[{ on := 4, ground := Ground.data }], guard := none } : Oper)) (v := ?_) rfl (by kernel_rfl) (by kernel_rfl) (by kernel_rfl) (fun _ _ _ h => h) (Or.inl ⟨by rfl, ?_⟩) hHeld ?_
  rotate_left
  · (intro w hS; go_simp; try with_reducible rfl)
  try simp only [Act.put, List.setIfInBounds_toArray, List.set_cons_zero, List.set_cons_succ]
  refine wpAnyH_ready (rs := [3]) (by kernel_rfl) (by simp) ?_
  refine AllReadyH.cons (o := ({ dst := some 51, op := Op.call { callee := Callee.builtin Builtin.append, args := #[Operand.tmp 48, Operand.tmp 50], argTypes := #[32, 32] }, type := 32, pos := _, after := #[{ on := 0, ground := Ground.data }, { on := 2, ground := Ground.data }], guard := none } : Oper)) rfl (fun K hK => ?_) AllReadyH.nil
  refine step_appB (N := 22) (by rfl) (by rfl) (by rfl) (by rfl) (o4.below (Below.refl _ _).drew (Nat.le_refl _)) (hHeld.1.place h) (by intro h; cases h) (by decide) hHeld.2.2 rfl ?_
  intro a6 c6 w6 o6 d6
  refine hK.out _ _ ⟨hHeld.1.below d6 (by omega), hHeld.2.1.trans (d6.mono (by omega)), Nat.le_trans hHeld.2.2 d6.size⟩ (fun hHeld => ?_)
  clear hK K
  try simp only [Act.put, List.setIfInBounds_toArray, List.set_cons_zero, List.set_cons_succ]
  refine wpAnyH_ready (rs := [6]) (by kernel_rfl) (by simp) ?_
  refine AllReadyH.cons (o := ({ dst := some 54, op := Op.call { callee := Callee.builtin Builtin.append, args := #[Operand.tmp 51, Operand.tmp 53], argTypes := #[32, 32] }, type := 32, pos := _, after := #[{ on := 3, ground := Ground.data }, { on := 5, ground := Ground.data }, { on := 3, ground := Ground.chain }], guard := none } : Oper)) rfl (fun K hK => ?_) AllReadyH.nil
  refine step_appB (N := 38) (by rfl) (by rfl) (by rfl) (by rfl) o6 (hHeld.1.source h) (by intro h; cases h) (by decide) hHeld.2.2 rfl ?_
  intro aH cH wH oH dH
  refine hK.out _ _ ⟨hHeld.1.below dH (by omega), hHeld.2.1.trans (dH.mono (by omega)), Nat.le_trans hHeld.2.2 dH.size⟩ (fun hHeld => ?_)
  clear hK K
  try simp only [Act.put, List.setIfInBounds_toArray, List.set_cons_zero, List.set_cons_succ]
  refine wpAnyH_take (i := 7) (oi := ({ dst := some 3, op := Op.assign (Operand.tmp 54), type := 32, pos := _, after := #[{ on := 6, ground := Ground.data }, { on := 6, ground := Ground.chain }, { on := 0, ground := Ground.phase }, { on := 1, ground := Ground.phase }, { on := 2, ground := Ground.phase }, { on := 3, ground := Ground.phase }, { on := 4, ground := Ground.phase }, { on := 5, ground := Ground.phase }, { on := 6, ground := Ground.phase }], guard := none } : Oper)) (v := ?_) rfl (by kernel_rfl) (by kernel_rfl) (by kernel_rfl) (fun _ _ _ h => h) (Or.inl ⟨by rfl, ?_⟩) hHeld ?_
  rotate_left
  · (intro w hS; go_simp; try with_reducible rfl)
  try simp only [Act.put, List.setIfInBounds_toArray, List.set_cons_zero, List.set_cons_succ]
  refine wpAnyH_done (by kernel_rfl) ?_ _
  skip
  obtain ⟨KH, BH, ZH⟩ := hHeld
  rw [HH.out] at oH
  replace oH : OwnB (w.heap.size + 1) wH aH (38 + 0) cH (headN o ++ List.replicate 0 106) := by simpa using oH
  clear K1 B1 Z1 K2 B2 Z2 K3 B3 Z3 K4 B4 Z4 o2 o3 o4 o6 d2 d3 d4 d6 dH s4 s3 s2 s1 s0 ht ht2
  go_wp2
  go_loopw [3] (fun v wr => ∃ (k : Nat) (a : Option Addr) (c : Nat), k ≤ 8 ∧ v = .slice a (38 + k) c ∧ OwnB (w.heap.size + 1) wr a (38 + k) c (headN o ++ List.replicate k 106) ∧ Below (w.heap.size + 1) wH wr) (fun v _ => 46 - slen v)
  case atStart => exact ⟨0, _, _, by omega, rfl, oH, Below.refl _ _⟩
  case round =>
    obtain ⟨k, a, c, hk, rfl, ok, bk⟩ := hrel
    clear oH
    have sz : w.heap.size + 1 ≤ wr.heap.size := Nat.le_trans ZH bk.size
    by_cases hlt : k < 8
    · obtain ⟨w7, hW7⟩ : ∃ w7, wr.alloc (.cells #[.int .u8 106] 5) = w7 := ⟨_, rfl⟩
      have J7 : IsB (wr.heap.size + 1) w7 (some ⟨wr.heap.size, 0, none⟩) 1 [106] := by rw [← hW7]; exact isB_new wr [106] 5 (0, 0)
      have s7 : Below wr.heap.size wr w7 := by rw [← hW7]; exact (Below.refl _ wr).alloc (Nat.le_refl _) _
      have z7 : w7.heap.size = wr.heap.size + 1 := by rw [← hW7]; simp
      obtain ⟨a8, c8, w8, hap8, o8, b8⟩ := run_app w7 (w.heap.size + 1) 32 _ _ _ _ (ok.below s7 (Nat.le_refl _)) (some ⟨wr.heap.size, 0, none⟩) 1 1 _ J7 (by intro h; cases h) (by omega) (by omega)
      rw [List.append_assoc, ← List.replicate_succ'] at o8
      have HO : Hid (OwnB (w.heap.size + 1) w8 a8 (38 + (k + 1)) c8 (headN o ++ List.replicate (k + 1) 106)) := o8
      have B8 : Hid (Below (w.heap.size + 1) wH w8) := bk.trans ((s7.mono sz).trans b8)
      clear J7 s7 z7 o8 b8 ok bk
      go_wp2_with (at_builtin; refine wpList_app hap8 _ _ rfl rfl rfl rfl rfl ?_)
      go_roundw
      case rel => exact ⟨k + 1, a8, c8, by omega, rfl, HO.out, B8.out⟩
      case measure => simp [slen]; omega
    · obtain rfl : k = 8 := by omega
      have B7 : Below w.heap.size w wr := BH.trans (bk.mono (by omega))
      obtain ⟨w7, hW7⟩ : ∃ w7, wr.alloc (.cells #[.int .u8 0, .int .u8 0] 5) = w7 := ⟨_, rfl⟩
      have J7 : IsB (wr.heap.size + 1) w7 (some ⟨wr.heap.size, 0, none⟩) 2 [0, 0] := by rw [← hW7]; exact isB_new wr [0, 0] 5 (0, 0)
      have s7 : Below wr.heap.size wr w7 := by rw [← hW7]; exact (Below.refl _ wr).alloc (Nat.le_refl _) _
      have z7 : w7.heap.size = wr.heap.size + 1 := by rw [← hW7]; simp
      obtain ⟨a8, c8, w8, hap8, o8, b8⟩ := run_app w7 (w.heap.size + 1) 32 _ _ _ _ (ok.below s7 (Nat.le_refl _)) (some ⟨wr.heap.size, 0, none⟩) 2 2 _ J7 (by intro h; cases h) (by omega) (by omega)
      have B8 : Below w.heap.size w w8 := B7.trans ((s7.mono B7.size).trans (b8.mono (by omega)))
      rw [HLAY.out] at o8
      have HS := refseal_calls a8 c8 (layN o) w8 o8.isB.1 (Nat.le_refl _) o8.isB.2.1
      clear J7 s7 z7 o8 b8 ok bk B7
      go_wp2_with (at_builtin; refine wpList_app hap8 _ _ rfl rfl rfl rfl rfl ?_)
      refine HS.mono ?_
      rintro e w9 ⟨a9, c9, rfl, I9, b9⟩
      go_wp2
      go_ret
      exact ⟨a9, c9, rfl, I9, B8.trans (b9.mono B8.size)⟩
theorem refpack_yes (o : Om) (h : o.Ok) (hc : canB o = true) (w : World) : Calls Try.prog 11 #[.agg (omV o)] w fun e w' => ∃ a c, e = .returned (.slice a 48 c) ∧ IsB w'.heap.size w' a 48 (payN o) ∧ Below w.heap.size w w' := by
  rcases isK_iff.1 (can_kind hc) with hk | hk | hk | hk
  · exact refpack_ais o h hc hk w
  · exact refpack_rdi o h hc hk w
  · exact refpack_check o h hc hk w
  · cases ha : o.a
    · exact refpack_loop0 o h hc hk ha w
    · exact refpack_loop1 o h hc hk ha w
end Go.Proofs.Ytpjlcmdidhdbcaa
