/- Proved here: the law MessagePacks' walk. Conditions: as each theorem states them. -/
import Derived.Test.YtbjeljmnknibnaaDoorAw
import Derived.Test.YtbjeljmnknibnaaDoorMsm
import Derived.Test.YtbjeljmnknibnaaDoorMAny
import Derived.Test.YtbjeljmnknibnaaDoorRMUn
import Derived.Deep.RegionHeld
import Derived.Deep.RegionHeldLaw
namespace Go.Proofs.YtbjeljmnknibnaaDoor
set_option linter.unusedSimpArgs false
set_option linter.unusedVariables false
set_option maxRecDepth 20000
open Go.RowKit Go.Shelf

set_option maxHeartbeats 8000000 in
theorem packs_walk (r : Int) (b : Bool) (k : Int) (a : Option Addr) (n c : Nat) (L : List El) (a1 : Option Addr) (l1 k1 : Nat) (bs : List UInt8) (W : World) (hv : IsI W.heap.size W a n L) (hn : n ≤ maxLen) (I1 : IsB W.heap.size W a1 l1 bs) (c1 : l1 ≤ k1) (ht : Tab W) :
    Calls Tryd.prog 3 #[meV r b k a n c, .slice a1 l1 k1] W fun e w' => e = .returned (.bool true) ∧ Below W.heap.size W w' := by
  have A0 := me_below (w := W) (r := r) (b := b) (k := k) (a := a) (n := n) (c := c)
  have K0 := me_box (w := W) (r := r) (b := b) (k := k) (a := a) (n := n) (c := c)
  go_enter Tryd.func3, Tryd.ntmps3
  go_wp2_with fail
  refine (awake_calls _ (ht.on A0)).mono ?_
  rintro e w1 ⟨rfl, b1⟩
  have B1 := A0.trans (b1.mono A0.size)
  have K1 := K0.below b1 K0.lt
  have HF := mfew_calls r b k a n c L w1 (hv.below B1 (Nat.le_refl _)) B1.size hn
  clear A0 K0 b1
  cases hf : fewB L
  · rw [hf] at HF
    go_wp2_with (with_reducible show wpList _ _ _ (Oper.mk _ (Op.load 24 _) _ _ _ _ :: _) _ _; refine wpList_ld rfl rfl rfl (run_ldM (by with_reducible assumption)) ?_; (try simp only [Act.put, List.setIfInBounds_toArray, List.set_cons_zero, List.set_cons_succ, World.size_alloc]))
    refine HF.mono ?_
    rintro e w2 ⟨rfl, b2⟩
    have B2 := B1.trans (b2.mono B1.size)
    go_wp2_with fail
    refine (awake_calls w2 (ht.on B2)).mono ?_
    rintro e w3 ⟨rfl, b3⟩
    go_wp2
    go_ret
    exact ⟨rfl, B2.trans (b3.mono B2.size)⟩
  rw [hf] at HF
  obtain ⟨h300, h20⟩ := fewB_iff.1 hf
  have hl20 : n ≤ 20 := by have := hv.1; omega
  have H300 : Hid (∀ x ∈ L, x.body.length ≤ 300) := h300
  clear hf h300 h20 hn
  by_cases h6 : 1500 < l1
  · have q1 : decide (1500 < (l1 : Int)) = true := by simp; omega
    clear h6
    go_wp2_with (with_reducible show wpList _ _ _ (Oper.mk _ (Op.load 24 _) _ _ _ _ :: _) _ _; refine wpList_ld rfl rfl rfl (run_ldM (by with_reducible assumption)) ?_; (try simp only [Act.put, List.setIfInBounds_toArray, List.set_cons_zero, List.set_cons_succ, World.size_alloc]))
    refine HF.mono ?_
    rintro e w2 ⟨rfl, b2⟩
    have B2 := B1.trans (b2.mono B1.size)
    go_wp2_with fail
    refine (awake_calls w2 (ht.on B2)).mono ?_
    rintro e w3 ⟨rfl, b3⟩
    go_wp2
    go_ret
    exact ⟨rfl, B2.trans (b3.mono B2.size)⟩
  have q1 : decide (1500 < (l1 : Int)) = false := by simp; omega
  have h15 : l1 ≤ 1500 := Nat.not_lt.1 h6
  clear h6
  go_wp2_with (with_reducible show wpList _ _ _ (Oper.mk _ (Op.load 24 _) _ _ _ _ :: _) _ _; refine wpList_ld rfl rfl rfl (run_ldM (by with_reducible assumption)) ?_; (try simp only [Act.put, List.setIfInBounds_toArray, List.set_cons_zero, List.set_cons_succ, World.size_alloc]))
  refine HF.mono ?_
  rintro e w2 ⟨rfl, b2⟩
  have B2 := B1.trans (b2.mono B1.size)
  have K2 := K1.below b2 K1.lt
  clear HF b2 B1 K1 q1
  have HP := mpack_all r b k a n c L w2 (hv.below B2 (Nat.le_refl _)) B2.size (by omega) (ht.on B2)
  go_wp2_with (with_reducible show wpList _ _ _ (Oper.mk _ (Op.load 24 _) _ _ _ _ :: _) _ _; refine wpList_ld rfl rfl rfl (run_ldM (by with_reducible assumption)) ?_; (try simp only [Act.put, List.setIfInBounds_toArray, List.set_cons_zero, List.set_cons_succ, World.size_alloc]))
  refine HP.mono ?_
  rintro e w3 ⟨a3, n3, c3, rfl, o3, _, _, b3⟩
  have B3 := B2.trans (b3.mono B2.size)
  have K3 := K2.below b3 K2.lt
  clear HP b3 B2 K2
  have HP := refmpack_all r b k a n c L w3 (hv.below B3 (Nat.le_refl _)) B3.size (by omega)
  go_wp2_with (with_reducible show wpList _ _ _ (Oper.mk _ (Op.load 24 _) _ _ _ _ :: _) _ _; refine wpList_ld rfl rfl rfl (run_ldM (by with_reducible assumption)) ?_; (try simp only [Act.put, List.setIfInBounds_toArray, List.set_cons_zero, List.set_cons_succ, World.size_alloc]))
  refine HP.mono ?_
  rintro e w4 ⟨a4, n4, c4, rfl, o4, _, _, b4⟩
  have B4 := B3.trans (b4.mono B3.size)
  have K4 := K3.below b4 K3.lt
  have o3 := o3.below b4 (Nat.le_refl _)
  have s34 := b4.size
  clear HP b4 B3 K3
  obtain ⟨M, hM⟩ : ∃ M, unMe bs = M := ⟨_, rfl⟩
  obtain ⟨E2, hE2⟩ : ∃ E2, unMx bs = E2 := ⟨_, rfl⟩
  have HS : Hid (∀ x ∈ M.ies, x.body.length ≤ 200) := by rw [← hM]; exact unMe_small bs
  have HP := munpack_calls a1 l1 k1 bs w4 (I1.below B4 (Nat.le_refl _)) B4.size c1 (by omega) (ht.on B4)
  unfold MuAll at HP
  rw [hM, hE2] at HP
  go_wp2_with fail
  refine HP.mono ?_
  rintro e w5 ⟨a5, n5, c5, rfl, o5, h5, b5⟩
  have B5 := B4.trans (b5.mono B4.size)
  have K5 := K4.below b5 K4.lt
  have o3 := o3.below b5 s34
  have o4 := o4.below b5 (Nat.le_refl _)
  have s45 := b5.size
  clear HP b5 B4 K4
  have A6 := me_below (w := w5) (r := M.ref) (b := M.back) (k := M.kind) (a := a5) (n := n5) (c := c5)
  have X6 := me_box (w := w5) (r := M.ref) (b := M.back) (k := M.kind) (a := a5) (n := n5) (c := c5)
  have HP := refmunpack_calls a1 l1 k1 bs (w5.alloc (.cells (meC M.ref M.back M.kind a5 n5 c5) 24)) (I1.below (B5.trans (A6.mono B5.size)) (Nat.le_refl _)) (B5.trans (A6.mono B5.size)).size c1 (by omega)
  unfold MuAll at HP
  rw [hM, hE2] at HP
  have B6 := B5.trans (A6.mono B5.size)
  have K6 := K5.below A6 K5.lt
  have o3 := o3.below A6 (Nat.le_trans s34 s45)
  have o4 := o4.below A6 s45
  have o5 := o5.below A6 (Nat.le_refl _)
  have s56 := A6.size
  clear hM hE2 A6 B5 K5
  go_wp2_with fail
  generalize w5.alloc (.cells (meC M.ref M.back M.kind a5 n5 c5) 24) = w6 at *
  refine HP.mono ?_
  rintro e w7 ⟨a7, n7, c7, rfl, o7, h7, b7⟩
  have B7 := B6.trans (b7.mono B6.size)
  have K7 := K6.below b7 K6.lt
  have X7 := X6.below b7 X6.lt
  have o3 := o3.below b7 (Nat.le_trans s34 (Nat.le_trans s45 s56))
  have o4 := o4.below b7 (Nat.le_trans s45 s56)
  have o5 := o5.below b7 s56
  have s67 := b7.size
  clear HP b7 B6 K6 X6
  have A8 := me_below (w := w7) (r := M.ref) (b := M.back) (k := M.kind) (a := a7) (n := n7) (c := c7)
  have Y8 := me_box (w := w7) (r := M.ref) (b := M.back) (k := M.kind) (a := a7) (n := n7) (c := c7)
  have B8 := B7.trans (A8.mono B7.size)
  have K8 := K7.below A8 K7.lt
  have X8 := X7.below A8 X7.lt
  have o3 := o3.below A8 (Nat.le_trans s34 (Nat.le_trans s45 (Nat.le_trans s56 s67)))
  have o4 := o4.below A8 (Nat.le_trans s45 (Nat.le_trans s56 s67))
  have o5 := o5.below A8 (Nat.le_trans s56 s67)
  have o7 := o7.below A8 (Nat.le_refl _)
  have s78 := A8.size
  clear A8 B7 K7 X7
  have hn3 : n3 ≤ 1000 := by
    have h1 := o3.1
    have h2 := mpB_len (mk r b k L)
    omega
  generalize mpE (mk r b k L) = E1 at *
  obtain ⟨zs, hzs⟩ : ∃ zs, mpB (mk r b k L) = zs := ⟨_, rfl⟩
  rw [hzs] at o3 o4
  obtain ⟨R, hR⟩ : ∃ R, rightM (mk r b k L) = R := ⟨_, rfl⟩
  obtain ⟨i1, i2, i3, i4, hi⟩ : ∃ i1 i2 i3 i4, M = (⟨i1, i2, i3, i4⟩ : Me) := ⟨M.ref, M.back, M.kind, M.ies, rfl⟩
  subst hi
  go_upto_region 7 with fail
  have eR : (R == R) = true := by cases R <;> rfl
  have HR : Hid (rightM (mk r b k L) = R) := hR
  have HZ : Hid (∀ zs : List UInt8, (zs == zs) = true) := fun zs => beq_self_eq_true zs
  clear hzs hR
  generalize w7.alloc (.cells (meC i1 i2 i3 a7 n7 c7) 24) = w8 at *
  refine wp_region_held_drew (S := (fun w' => Below w8.heap.size w8 w')) (by kernel_rfl) (Below.refl _ w8).drew (fun hHeld => ?_)
  refine wpAnyH_take (i := 0) (oi := ({ dst := some 46, op := Op.move (Operand.tmp 5), type := 25, pos := _, after := #[], guard := none } : Oper)) (v := ?_) rfl (by kernel_rfl) (by kernel_rfl) (by kernel_rfl) (fun _ _ _ h => h) (Or.inl ⟨by rfl, ?_⟩) hHeld ?_
  rotate_left
  · (intro w hS; go_simp; try with_reducible rfl)
  try simp only [Act.put, List.setIfInBounds_toArray, List.set_cons_zero, List.set_cons_succ]
  refine wpAnyH_take (i := 1) (oi := ({ dst := some 47, op := Op.move (Operand.tmp 7), type := 25, pos := _, after := #[], guard := none } : Oper)) (v := ?_) rfl (by kernel_rfl) (by kernel_rfl) (by kernel_rfl) (fun _ _ _ h => h) (Or.inl ⟨by rfl, ?_⟩) hHeld ?_
  rotate_left
  · (intro w hS; go_simp; try with_reducible rfl)
  try simp only [Act.put, List.setIfInBounds_toArray, List.set_cons_zero, List.set_cons_succ]
  refine wpAnyH_ready (rs := [2]) (by kernel_rfl) (by simp) ?_
  refine AllReadyH.cons (o := ({ dst := some 48, op := Op.call { callee := Callee.value (Operand.func 15), args := #[Operand.tmp 46, Operand.tmp 47], argTypes := #[25, 25] }, type := 4, pos := _, after := #[{ on := 0, ground := Ground.data }, { on := 1, ground := Ground.data }], guard := none } : Oper)) rfl (fun K hK => ?_) AllReadyH.nil
  refine step_call (same_calls a3 a4 n3 c3 n4 c4 zs zs _ (o3.below hHeld (by omega)) (o4.below hHeld (by omega)) (Nat.le_trans (by omega) hHeld.size) (Nat.le_trans (by omega) hHeld.size) (by omega)) (enters_of Tryd.func15 (by kernel_rfl) rfl) _ _ rfl rfl rfl ?_
  rintro e w9 ⟨rfl, b9⟩
  rw [HZ.out zs]
  refine ⟨_, rfl, hK.out _ _ (hHeld.trans (b9.mono hHeld.size)) (fun hHeld => ?_)⟩
  clear hK K
  try simp only [Act.put, List.setIfInBounds_toArray, List.set_cons_zero, List.set_cons_succ]
  refine wpAnyH_take (i := 3) (oi := ({ dst := some 49, op := Op.move (Operand.tmp 48), type := 4, pos := _, after := #[{ on := 2, ground := Ground.data }, { on := 2, ground := Ground.chain }], guard := none } : Oper)) (v := ?_) rfl (by kernel_rfl) (by kernel_rfl) (by kernel_rfl) (fun _ _ _ h => h) (Or.inl ⟨by rfl, ?_⟩) hHeld ?_
  rotate_left
  · (intro w hS; go_simp; try with_reducible rfl)
  try simp only [Act.put, List.setIfInBounds_toArray, List.set_cons_zero, List.set_cons_succ]
  refine wpAnyH_take (i := 4) (oi := ({ dst := some 50, op := Op.move (Operand.tmp 6), type := 28, pos := _, after := #[{ on := 3, ground := Ground.guard }], guard := some (3, true) } : Oper)) (v := ?_) rfl (by kernel_rfl) (by kernel_rfl) (by kernel_rfl) (fun _ _ _ h => h) (Or.inl ⟨by rfl, ?_⟩) hHeld ?_
  rotate_left
  · (intro w hS; go_simp; try with_reducible rfl)
  try simp only [Act.put, List.setIfInBounds_toArray, List.set_cons_zero, List.set_cons_succ]
  refine wpAnyH_take (i := 5) (oi := ({ dst := some 51, op := Op.move (Operand.tmp 8), type := 3, pos := _, after := #[{ on := 3, ground := Ground.guard }], guard := some (3, true) } : Oper)) (v := ?_) rfl (by kernel_rfl) (by kernel_rfl) (by kernel_rfl) (fun _ _ _ h => h) (Or.inl ⟨by rfl, ?_⟩) hHeld ?_
  rotate_left
  · (intro w hS; go_simp; try with_reducible rfl)
  try simp only [Act.put, List.setIfInBounds_toArray, List.set_cons_zero, List.set_cons_succ]
  refine wpAnyH_take (i := 6) (oi := ({ dst := some 52, op := Op.binOp BinOp.eql 3 (Operand.tmp 50) (Operand.tmp 51) 3, type := 4, pos := _, after := #[{ on := 4, ground := Ground.data }, { on := 5, ground := Ground.data }, { on := 3, ground := Ground.guard }], guard := some (3, true) } : Oper)) (v := ?_) rfl (by kernel_rfl) (by kernel_rfl) (by kernel_rfl) (fun _ _ _ h => h) (Or.inl ⟨by rfl, ?_⟩) hHeld ?_
  rotate_left
  · (intro w hS; go_simp; try with_reducible rfl)
  try simp only [Act.put, List.setIfInBounds_toArray, List.set_cons_zero, List.set_cons_succ]
  refine wpAnyH_take (i := 7) (oi := ({ dst := some 53, op := Op.pick (Operand.tmp 49) (Operand.tmp 52) (Operand.const (Value.bool false)), type := 4, pos := _, after := #[{ on := 3, ground := Ground.data }, { on := 6, ground := Ground.data }], guard := none } : Oper)) (v := ?_) rfl (by kernel_rfl) (by kernel_rfl) (by kernel_rfl) (fun _ _ _ h => h) (Or.inl ⟨by rfl, ?_⟩) hHeld ?_
  rotate_left
  · (intro w hS; go_simp; try with_reducible rfl)
  try simp only [Act.put, List.setIfInBounds_toArray, List.set_cons_zero, List.set_cons_succ]
  refine wpAnyH_take (i := 8) (oi := ({ dst := some 54, op := Op.move (Operand.tmp 53), type := 4, pos := _, after := #[{ on := 7, ground := Ground.data }, { on := 3, ground := Ground.chain }], guard := none } : Oper)) (v := ?_) rfl (by kernel_rfl) (by kernel_rfl) (by kernel_rfl) (fun _ _ _ h => h) (Or.inl ⟨by rfl, ?_⟩) hHeld ?_
  rotate_left
  · (intro w hS; go_simp; try with_reducible rfl)
  try simp only [Act.put, List.setIfInBounds_toArray, List.set_cons_zero, List.set_cons_succ]
  refine wpAnyH_take (i := 9) (oi := ({ dst := some 55, op := Op.load 24 (Operand.tmp 9), type := 24, pos := _, after := #[{ on := 8, ground := Ground.guard }], guard := some (8, true) } : Oper))  rfl (by kernel_rfl) (by kernel_rfl) (by kernel_rfl) (fun _ _ _ h => h) (yields_ld rfl rfl rfl (fun w hS => run_ldM (X8.below hS X8.lt))) hHeld ?_
  try simp only [Act.put, List.setIfInBounds_toArray, List.set_cons_zero, List.set_cons_succ]
  refine wpAnyH_take (i := 10) (oi := ({ dst := some 56, op := Op.load 24 (Operand.tmp 11), type := 24, pos := _, after := #[{ on := 8, ground := Ground.guard }], guard := some (8, true) } : Oper))  rfl (by kernel_rfl) (by kernel_rfl) (by kernel_rfl) (fun _ _ _ h => h) (yields_ld rfl rfl rfl (fun w hS => run_ldM (Y8.below hS Y8.lt))) hHeld ?_
  try simp only [Act.put, List.setIfInBounds_toArray, List.set_cons_zero, List.set_cons_succ]
  refine wpAnyH_ready (rs := [11]) (by kernel_rfl) (by simp) ?_
  refine AllReadyH.cons (o := ({ dst := some 57, op := Op.call { callee := Callee.value (Operand.func 16), args := #[Operand.tmp 55, Operand.tmp 56], argTypes := #[24, 24] }, type := 4, pos := _, after := #[{ on := 9, ground := Ground.data }, { on := 10, ground := Ground.data }, { on := 8, ground := Ground.chain }, { on := 8, ground := Ground.guard }], guard := some (8, true) } : Oper)) rfl (fun K hK => ?_) AllReadyH.nil
  refine step_call (refmsame_self i1 i2 i3 a5 a7 n5 c5 n7 c7 i4 _ (o5.below hHeld (by omega)) (o7.below hHeld (by omega)) (Nat.le_trans (by omega) hHeld.size) (Nat.le_trans (by omega) hHeld.size) (by omega) (by omega) (fun x hx => Nat.le_trans (HS.out x hx) (by decide))) (enters_of Tryd.func16 (by kernel_rfl) rfl) _ _ rfl rfl rfl ?_
  rintro e w10 ⟨rfl, b10⟩
  skip
  refine ⟨_, rfl, hK.out _ _ (hHeld.trans (b10.mono hHeld.size)) (fun hHeld => ?_)⟩
  clear hK K
  try simp only [Act.put, List.setIfInBounds_toArray, List.set_cons_zero, List.set_cons_succ]
  refine wpAnyH_take (i := 12) (oi := ({ dst := some 58, op := Op.pick (Operand.tmp 54) (Operand.tmp 57) (Operand.const (Value.bool false)), type := 4, pos := _, after := #[{ on := 8, ground := Ground.data }, { on := 11, ground := Ground.data }], guard := none } : Oper)) (v := ?_) rfl (by kernel_rfl) (by kernel_rfl) (by kernel_rfl) (fun _ _ _ h => h) (Or.inl ⟨by rfl, ?_⟩) hHeld ?_
  rotate_left
  · (intro w hS; go_simp; try with_reducible rfl)
  try simp only [Act.put, List.setIfInBounds_toArray, List.set_cons_zero, List.set_cons_succ]
  refine wpAnyH_take (i := 13) (oi := ({ dst := some 59, op := Op.move (Operand.tmp 58), type := 4, pos := _, after := #[{ on := 12, ground := Ground.data }, { on := 11, ground := Ground.chain }], guard := none } : Oper)) (v := ?_) rfl (by kernel_rfl) (by kernel_rfl) (by kernel_rfl) (fun _ _ _ h => h) (Or.inl ⟨by rfl, ?_⟩) hHeld ?_
  rotate_left
  · (intro w hS; go_simp; try with_reducible rfl)
  try simp only [Act.put, List.setIfInBounds_toArray, List.set_cons_zero, List.set_cons_succ]
  refine wpAnyH_take (i := 14) (oi := ({ dst := some 60, op := Op.move (Operand.tmp 10), type := 28, pos := _, after := #[{ on := 13, ground := Ground.guard }], guard := some (13, true) } : Oper)) (v := ?_) rfl (by kernel_rfl) (by kernel_rfl) (by kernel_rfl) (fun _ _ _ h => h) (Or.inl ⟨by rfl, ?_⟩) hHeld ?_
  rotate_left
  · (intro w hS; go_simp; try with_reducible rfl)
  try simp only [Act.put, List.setIfInBounds_toArray, List.set_cons_zero, List.set_cons_succ]
  refine wpAnyH_take (i := 15) (oi := ({ dst := some 61, op := Op.move (Operand.tmp 12), type := 3, pos := _, after := #[{ on := 13, ground := Ground.guard }], guard := some (13, true) } : Oper)) (v := ?_) rfl (by kernel_rfl) (by kernel_rfl) (by kernel_rfl) (fun _ _ _ h => h) (Or.inl ⟨by rfl, ?_⟩) hHeld ?_
  rotate_left
  · (intro w hS; go_simp; try with_reducible rfl)
  try simp only [Act.put, List.setIfInBounds_toArray, List.set_cons_zero, List.set_cons_succ]
  refine wpAnyH_take (i := 16) (oi := ({ dst := some 62, op := Op.binOp BinOp.eql 3 (Operand.tmp 60) (Operand.tmp 61) 3, type := 4, pos := _, after := #[{ on := 14, ground := Ground.data }, { on := 15, ground := Ground.data }, { on := 13, ground := Ground.guard }], guard := some (13, true) } : Oper)) (v := ?_) rfl (by kernel_rfl) (by kernel_rfl) (by kernel_rfl) (fun _ _ _ h => h) (Or.inl ⟨by rfl, ?_⟩) hHeld ?_
  rotate_left
  · (intro w hS; go_simp; try with_reducible rfl)
  try simp only [Act.put, List.setIfInBounds_toArray, List.set_cons_zero, List.set_cons_succ]
  refine wpAnyH_take (i := 17) (oi := ({ dst := some 63, op := Op.pick (Operand.tmp 59) (Operand.tmp 62) (Operand.const (Value.bool false)), type := 4, pos := _, after := #[{ on := 13, ground := Ground.data }, { on := 16, ground := Ground.data }], guard := none } : Oper)) (v := ?_) rfl (by kernel_rfl) (by kernel_rfl) (by kernel_rfl) (fun _ _ _ h => h) (Or.inl ⟨by rfl, ?_⟩) hHeld ?_
  rotate_left
  · (intro w hS; go_simp; try with_reducible rfl)
  try simp only [Act.put, List.setIfInBounds_toArray, List.set_cons_zero, List.set_cons_succ]
  refine wpAnyH_take (i := 18) (oi := ({ dst := some 64, op := Op.move (Operand.tmp 63), type := 4, pos := _, after := #[{ on := 17, ground := Ground.data }, { on := 13, ground := Ground.chain }], guard := none } : Oper)) (v := ?_) rfl (by kernel_rfl) (by kernel_rfl) (by kernel_rfl) (fun _ _ _ h => h) (Or.inl ⟨by rfl, ?_⟩) hHeld ?_
  rotate_left
  · (intro w hS; go_simp; try with_reducible rfl)
  try simp only [Act.put, List.setIfInBounds_toArray, List.set_cons_zero, List.set_cons_succ]
  refine wpAnyH_take (i := 19) (oi := ({ dst := some 65, op := Op.load 24 (Operand.tmp 2), type := 24, pos := _, after := #[{ on := 18, ground := Ground.guard }], guard := some (18, true) } : Oper))  rfl (by kernel_rfl) (by kernel_rfl) (by kernel_rfl) (fun _ _ _ h => h) (yields_ld rfl rfl rfl (fun w hS => run_ldM (K8.below hS K8.lt))) hHeld ?_
  try simp only [Act.put, List.setIfInBounds_toArray, List.set_cons_zero, List.set_cons_succ]
  refine wpAnyH_take (i := 21) (oi := ({ dst := some 67, op := Op.load 24 (Operand.tmp 2), type := 24, pos := _, after := #[{ on := 18, ground := Ground.guard }], guard := some (18, true) } : Oper))  rfl (by kernel_rfl) (by kernel_rfl) (by kernel_rfl) (fun _ _ _ h => h) (yields_ld rfl rfl rfl (fun w hS => run_ldM (K8.below hS K8.lt))) hHeld ?_
  try simp only [Act.put, List.setIfInBounds_toArray, List.set_cons_zero, List.set_cons_succ]
  refine wpAnyH_ready (rs := [20]) (by kernel_rfl) (by simp) ?_
  refine AllReadyH.cons (o := ({ dst := some 66, op := Op.call { callee := Callee.value (Operand.func 17), args := #[Operand.tmp 65], argTypes := #[24] }, type := 4, pos := _, after := #[{ on := 19, ground := Ground.data }, { on := 18, ground := Ground.chain }, { on := 18, ground := Ground.guard }], guard := some (18, true) } : Oper)) rfl (fun K hK => ?_) AllReadyH.nil
  refine step_call (mright_calls r b k a n c L _ (hv.below (B8.trans (hHeld.mono B8.size)) (Nat.le_refl _)) (Nat.le_trans B8.size hHeld.size) (by omega) (ht.on (B8.trans (hHeld.mono B8.size)))) (enters_of Tryd.func17 (by kernel_rfl) rfl) _ _ rfl rfl rfl ?_
  rintro e w11 ⟨rfl, b11⟩
  rw [HR.out]
  refine ⟨_, rfl, hK.out _ _ (hHeld.trans (b11.mono hHeld.size)) (fun hHeld => ?_)⟩
  clear hK K
  try simp only [Act.put, List.setIfInBounds_toArray, List.set_cons_zero, List.set_cons_succ]
  refine wpAnyH_ready (rs := [22]) (by kernel_rfl) (by simp) ?_
  refine AllReadyH.cons (o := ({ dst := some 68, op := Op.call { callee := Callee.value (Operand.func 18), args := #[Operand.tmp 67], argTypes := #[24] }, type := 4, pos := _, after := #[{ on := 21, ground := Ground.data }, { on := 20, ground := Ground.chain }, { on := 18, ground := Ground.guard }], guard := some (18, true) } : Oper)) rfl (fun K hK => ?_) AllReadyH.nil
  refine step_call (refmright_calls r b k a n c L _ (hv.below (B8.trans (hHeld.mono B8.size)) (Nat.le_refl _)) (Nat.le_trans B8.size hHeld.size) (by omega)) (enters_of Tryd.func18 (by kernel_rfl) rfl) _ _ rfl rfl rfl ?_
  rintro e w12 ⟨rfl, b12⟩
  rw [HR.out]
  refine ⟨_, rfl, hK.out _ _ (hHeld.trans (b12.mono hHeld.size)) (fun hHeld => ?_)⟩
  clear hK K
  try simp only [Act.put, List.setIfInBounds_toArray, List.set_cons_zero, List.set_cons_succ]
  refine wpAnyH_take (i := 23) (oi := ({ dst := some 69, op := Op.binOp BinOp.eql 4 (Operand.tmp 66) (Operand.tmp 68) 4, type := 4, pos := _, after := #[{ on := 20, ground := Ground.data }, { on := 22, ground := Ground.data }, { on := 18, ground := Ground.guard }], guard := some (18, true) } : Oper)) (v := ?_) rfl (by kernel_rfl) (by kernel_rfl) (by kernel_rfl) (fun _ _ _ h => h) (Or.inl ⟨by rfl, ?_⟩) hHeld ?_
  rotate_left
  · (intro w hS; go_simp; try with_reducible rfl)
  try simp only [Act.put, List.setIfInBounds_toArray, List.set_cons_zero, List.set_cons_succ]
  refine wpAnyH_take (i := 24) (oi := ({ dst := some 70, op := Op.pick (Operand.tmp 64) (Operand.tmp 69) (Operand.const (Value.bool false)), type := 4, pos := _, after := #[{ on := 18, ground := Ground.data }, { on := 23, ground := Ground.data }], guard := none } : Oper)) (v := ?_) rfl (by kernel_rfl) (by kernel_rfl) (by kernel_rfl) (fun _ _ _ h => h) (Or.inl ⟨by rfl, ?_⟩) hHeld ?_
  rotate_left
  · (intro w hS; go_simp; try with_reducible rfl)
  try simp only [Act.put, List.setIfInBounds_toArray, List.set_cons_zero, List.set_cons_succ]
  refine wpAnyH_take (i := 25) (oi := ({ dst := some 4, op := Op.assign (Operand.tmp 70), type := 4, pos := _, after := #[{ on := 24, ground := Ground.data }, { on := 22, ground := Ground.chain }, { on := 0, ground := Ground.phase }, { on := 1, ground := Ground.phase }, { on := 2, ground := Ground.phase }, { on := 3, ground := Ground.phase }, { on := 4, ground := Ground.phase }, { on := 5, ground := Ground.phase }, { on := 6, ground := Ground.phase }, { on := 7, ground := Ground.phase }, { on := 8, ground := Ground.phase }, { on := 9, ground := Ground.phase }, { on := 10, ground := Ground.phase }, { on := 11, ground := Ground.phase }, { on := 12, ground := Ground.phase }, { on := 13, ground := Ground.phase }, { on := 14, ground := Ground.phase }, { on := 15, ground := Ground.phase }, { on := 16, ground := Ground.phase }, { on := 17, ground := Ground.phase }, { on := 18, ground := Ground.phase }, { on := 19, ground := Ground.phase }, { on := 20, ground := Ground.phase }, { on := 21, ground := Ground.phase }, { on := 22, ground := Ground.phase }, { on := 23, ground := Ground.phase }, { on := 24, ground := Ground.phase }], guard := none } : Oper)) (v := ?_) rfl (by kernel_rfl) (by kernel_rfl) (by kernel_rfl) (fun _ _ _ h => h) (Or.inl ⟨by rfl, ?_⟩) hHeld ?_
  rotate_left
  · (intro w hS; go_simp; try with_reducible rfl)
  try simp only [Act.put, List.setIfInBounds_toArray, List.set_cons_zero, List.set_cons_succ]
  refine wpAnyH_done (by kernel_rfl) ?_ _
  go_wp2
  go_ret
  exact ⟨rfl, B8.trans (hHeld.mono B8.size)⟩
end Go.Proofs.YtbjeljmnknibnaaDoor
