/- Proved here: what the document's Traffic answers. Conditions: as each theorem states them. -/
import Derived.Deep.DeepCutAuto
import Derived.Test.YtbjkioekmekeaaaAns
import Derived.Test.YtbjkioekmekeaaaBy
import Derived.Test.YtbjkioekmekeaaaRefC
namespace Go.Proofs.Ytbjkioekmekeaaa
set_option linter.unusedSimpArgs false
set_option linter.unusedVariables false
open Go.RowKit Go.Shelf

/-- Bytes, and an error. -/
def ByAll (zs : List UInt8) (E : Int) (w : World) (e : Ending) (w' : World) : Prop :=
  ∃ (a : Option Addr) (n c : Nat), e = .returned (.tuple #[.slice a n c, .int .i64 E]) ∧ IsB w'.heap.size w' a n zs ∧ Below w.heap.size w w'

set_option maxHeartbeats 1000000 in
theorem reftraf_no (k p e v b l : Int) (E : Int) (h : errN k p e v b l = E) (h0 : E ≠ 0) (w : World) : Calls Try.prog 19 #[cV k p e v b l] w (ByAll [] E w) := by
  have A0 : Below w.heap.size w (w.alloc (.cells (cC k p e v b l) 43)) := (Below.refl _ w).alloc (Nat.le_refl _) _
  have HR := refright_calls k p e v b l
  rw [h] at HR
  have q1 : (E != 0) = true := by rw [bne_iff_ne]; exact h0
  clear h h0
  go_enter Try.func19, Try.ntmps19
  go_wp2_with fail
  refine (HR _).mono ?_
  rintro x w2 ⟨rfl, b2⟩
  go_wp2
  go_ret2
  exact ⟨none, 0, 0, rfl, ⟨rfl, .inl rfl⟩, A0.trans (b2.mono A0.size)⟩

set_option maxHeartbeats 4000000 in
theorem reftraf_ok (k p e v b l : Nat) (h : errN k p e v b l = 0) (hk : k ≤ 7) (hp : p ≤ 1099511627776) (he : e ≤ 1099511627776) (hv : v ≤ 1099511627776) (hb : b ≤ 1099511627776) (hl : l ≤ 1099511627776) (w : World) : Calls Try.prog 19 #[cV k p e v b l] w (ByAll (trafB k [p, e, v, b, l]) 0 w) := by
  have A0 : Below w.heap.size w (w.alloc (.cells (cC k p e v b l) 43)) := (Below.refl _ w).alloc (Nat.le_refl _) _
  have J0 := bk_new w (cC k p e v b l) 43
  have S0 : w.heap.size + 1 ≤ (w.alloc (.cells (cC k p e v b l) 43)).heap.size := by simp
  have HR := refright_calls k p e v b l
  rw [h] at HR
  have hwk : IntKind.u8.wrap (k : Int) = ((UInt8.ofNat k).toNat : Int) := by rw [byteN, IntKind.wrap_u8]; omega
  have HT : Hid (trafB k [p, e, v, b, l] = ((((([UInt8.ofNat k] ++ beN 6 p) ++ beN 6 e) ++ beN 6 v) ++ beN 6 b) ++ beN 6 l)) := rfl
  have HP := fun w => bytes_calls p (by omega) 6 (by decide) w
  have HE := fun w => bytes_calls e (by omega) 6 (by decide) w
  have HV := fun w => bytes_calls v (by omega) 6 (by decide) w
  have HB := fun w => bytes_calls b (by omega) 6 (by decide) w
  have HL := fun w => bytes_calls l (by omega) 6 (by decide) w
  clear h hk hp he hv hb hl
  generalize UInt8.ofNat k = y at *
  go_enter Try.func19, Try.ntmps19
  go_wp2_with fail
  refine (HR _).mono ?_
  rintro x w2 ⟨rfl, b2⟩
  have B2 := A0.trans (b2.mono A0.size)
  have J2 := J0.below b2 J0.lt
  have S2 := Nat.le_trans S0 b2.size
  clear HR A0 J0 S0 b2
  go_upto_region 4 with fail
  go_cut [5] (fun s wx => ∃ a c, s = .slice a 7 c ∧ OwnB (w.heap.size + 1) wx a 7 c ([y] ++ beN 6 p) ∧ BK wx w.heap.size (cC k p e v b l) 43 ∧ Below w.heap.size w wx ∧ w.heap.size + 1 ≤ wx.heap.size)
  case first =>
    refine wp_region_held_drew (S := (fun w' => BK w' w.heap.size (cC k p e v b l) 43 ∧ Below w.heap.size w w' ∧ w.heap.size + 1 ≤ w'.heap.size)) (by kernel_rfl) ⟨J2.drew, B2.drew, S2⟩ (fun hHeld => ?_)
    refine wpAnyH_take (i := 0) (oi := ({ dst := some 11, op := Op.fieldAddr 43 (Operand.tmp 1) 0, type := 0, pos := _, after := #[], guard := none } : Oper)) (v := ?_) rfl (by kernel_rfl) (by kernel_rfl) (by kernel_rfl) (fun _ _ _ h => h) (Or.inl ⟨by rfl, ?_⟩) hHeld ?_
    rotate_left
    · (intro w hS; go_simp; try with_reducible rfl)
    try simp only [Act.put, List.setIfInBounds_toArray, List.set_cons_zero, List.set_cons_succ]
    refine wpAnyH_take (i := 1) (oi := ({ dst := some 12, op := Op.load 3 (Operand.tmp 11), type := 3, pos := _, after := #[{ on := 0, ground := Ground.data }], guard := none } : Oper)) (v := ?_) rfl (by kernel_rfl) (by kernel_rfl) (by kernel_rfl) (fun _ _ _ h => h) (Or.inl ⟨by rfl, ?_⟩) hHeld ?_
    rotate_left
    · (intro w hS; have e1 := hS.1.cell 0 _ rfl; go_simp; try with_reducible rfl)
    try simp only [Act.put, List.setIfInBounds_toArray, List.set_cons_zero, List.set_cons_succ]
    refine wpAnyH_take (i := 2) (oi := ({ dst := some 13, op := Op.convert 3 5 (Operand.tmp 12), type := 5, pos := _, after := #[{ on := 1, ground := Ground.data }], guard := none } : Oper)) (v := ?_) rfl (by kernel_rfl) (by kernel_rfl) (by kernel_rfl) (fun _ _ _ h => h) (Or.inl ⟨by rfl, ?_⟩) hHeld ?_
    rotate_left
    · (intro w hS; go_simp; try with_reducible rfl)
    try simp only [Act.put, List.setIfInBounds_toArray, List.set_cons_zero, List.set_cons_succ]
    refine wpAnyH_take (i := 4) (oi := ({ dst := some 15, op := Op.fieldAddr 43 (Operand.tmp 1) 1, type := 0, pos := _, after := #[], guard := none } : Oper)) (v := ?_) rfl (by kernel_rfl) (by kernel_rfl) (by kernel_rfl) (fun _ _ _ h => h) (Or.inl ⟨by rfl, ?_⟩) hHeld ?_
    rotate_left
    · (intro w hS; go_simp; try with_reducible rfl)
    try simp only [Act.put, List.setIfInBounds_toArray, List.set_cons_zero, List.set_cons_succ]
    refine wpAnyH_take (i := 5) (oi := ({ dst := some 16, op := Op.load 3 (Operand.tmp 15), type := 3, pos := _, after := #[{ on := 4, ground := Ground.data }], guard := none } : Oper)) (v := ?_) rfl (by kernel_rfl) (by kernel_rfl) (by kernel_rfl) (fun _ _ _ h => h) (Or.inl ⟨by rfl, ?_⟩) hHeld ?_
    rotate_left
    · (intro w hS; have e1 := hS.1.cell 1 _ rfl; go_simp; try with_reducible rfl)
    try simp only [Act.put, List.setIfInBounds_toArray, List.set_cons_zero, List.set_cons_succ]
    refine wpAnyH_ready (rs := [3, 6]) (by kernel_rfl) (by simp) ?_
    refine AllReadyH.cons (o := ({ dst := some 14, op := Op.buildSlice 23 1 #[(0, Operand.tmp 13)], type := 23, pos := _, after := #[{ on := 2, ground := Ground.data }], guard := none } : Oper)) rfl (fun K hK => ?_) (AllReadyH.cons (o := ({ dst := some 17, op := Op.call { callee := Callee.value (Operand.func 39), args := #[Operand.tmp 16, Operand.const (Value.int IntKind.i64 6)], argTypes := #[3, 3] }, type := 23, pos := _, after := #[{ on := 5, ground := Ground.data }], guard := none } : Oper)) rfl (fun K hK => ?_) (AllReadyH.nil))
    · refine step_slB (zs := [y]) (vs := [(0, .int .u8 (y.toNat : Int))]) (by rfl) (w.heap.size + 1) (by rfl) (by rfl) (run_sl1 _) rfl (by decide) hHeld.2.2 ?_
      intro b3 w3 hb3 o3 d3
      try (have o6 := o6.below d3 (Nat.le_refl _))
      refine hK.out _ _ ⟨hHeld.1.below d3 hHeld.1.lt, hHeld.2.1.trans (d3.mono hHeld.2.1.size), Nat.le_trans hHeld.2.2 d3.size⟩ (fun hHeld => ?_)
      clear hK K
      try simp only [Act.put, List.setIfInBounds_toArray, List.set_cons_zero, List.set_cons_succ]
      refine wpAnyH_ready (rs := [6]) (by kernel_rfl) (by simp) ?_
      refine AllReadyH.cons (o := ({ dst := some 17, op := Op.call { callee := Callee.value (Operand.func 39), args := #[Operand.tmp 16, Operand.const (Value.int IntKind.i64 6)], argTypes := #[3, 3] }, type := 23, pos := _, after := #[{ on := 5, ground := Ground.data }], guard := none } : Oper)) rfl (fun K hK => ?_) AllReadyH.nil
      refine step_call (HP _) (enters_of Try.func39 (by kernel_rfl) rfl) _ _ rfl rfl rfl ?_
      rintro e' v6 ⟨a6, c6, rfl, o6, d6⟩
      try (have o3 := o3.below d6 (Nat.le_refl _))
      refine ⟨_, rfl, hK.out _ _ ⟨hHeld.1.below d6 hHeld.1.lt, hHeld.2.1.trans (d6.mono hHeld.2.1.size), Nat.le_trans hHeld.2.2 d6.size⟩ (fun hHeld => ?_)⟩
      clear hK K
      try simp only [Act.put, List.setIfInBounds_toArray, List.set_cons_zero, List.set_cons_succ]
      refine wpAnyH_ready (rs := [7]) (by kernel_rfl) (by simp) ?_
      refine AllReadyH.cons (o := ({ dst := some 18, op := Op.call { callee := Callee.builtin Builtin.append, args := #[Operand.tmp 14, Operand.tmp 17], argTypes := #[23, 23] }, type := 23, pos := _, after := #[{ on := 3, ground := Ground.data }, { on := 6, ground := Ground.data }, { on := 6, ground := Ground.chain }], guard := none } : Oper)) rfl (fun K hK => ?_) AllReadyH.nil
      refine step_appB (N := 7) (by rfl) (by rfl) (by rfl) (by rfl) o3 o6.isB.1 o6.isB.2.1 (by decide) hHeld.2.2 rfl ?_
      intro a7 c7 w7 o7 d7
      refine hK.out _ _ ⟨hHeld.1.below d7 (Nat.lt_succ_self _), hHeld.2.1.trans (d7.mono (Nat.le_succ _)), Nat.le_trans hHeld.2.2 d7.size⟩ (fun hHeld => ?_)
      clear hK K
      try simp only [Act.put, List.setIfInBounds_toArray, List.set_cons_zero, List.set_cons_succ]
      refine wpAnyH_take (i := 8) (oi := ({ dst := some 5, op := Op.assign (Operand.tmp 18), type := 23, pos := _, after := #[{ on := 7, ground := Ground.data }, { on := 7, ground := Ground.chain }, { on := 0, ground := Ground.phase }, { on := 1, ground := Ground.phase }, { on := 2, ground := Ground.phase }, { on := 3, ground := Ground.phase }, { on := 4, ground := Ground.phase }, { on := 5, ground := Ground.phase }, { on := 6, ground := Ground.phase }, { on := 7, ground := Ground.phase }], guard := none } : Oper)) (v := ?_) rfl (by kernel_rfl) (by kernel_rfl) (by kernel_rfl) (fun _ _ _ h => h) (Or.inl ⟨by rfl, ?_⟩) hHeld ?_
      rotate_left
      · (intro w hS; go_simp; try with_reducible rfl)
      try simp only [Act.put, List.setIfInBounds_toArray, List.set_cons_zero, List.set_cons_succ]
      refine wpAnyH_done (by kernel_rfl) ?_ _
      go_wp2
      go_meet
      exact ⟨_, _, rfl, o7, hHeld.1, hHeld.2.1, hHeld.2.2⟩
    · refine step_call (HP _) (enters_of Try.func39 (by kernel_rfl) rfl) _ _ rfl rfl rfl ?_
      rintro e' v6 ⟨a6, c6, rfl, o6, d6⟩
      try (have o3 := o3.below d6 (Nat.le_refl _))
      refine ⟨_, rfl, hK.out _ _ ⟨hHeld.1.below d6 hHeld.1.lt, hHeld.2.1.trans (d6.mono hHeld.2.1.size), Nat.le_trans hHeld.2.2 d6.size⟩ (fun hHeld => ?_)⟩
      clear hK K
      try simp only [Act.put, List.setIfInBounds_toArray, List.set_cons_zero, List.set_cons_succ]
      refine wpAnyH_ready (rs := [3]) (by kernel_rfl) (by simp) ?_
      refine AllReadyH.cons (o := ({ dst := some 14, op := Op.buildSlice 23 1 #[(0, Operand.tmp 13)], type := 23, pos := _, after := #[{ on := 2, ground := Ground.data }], guard := none } : Oper)) rfl (fun K hK => ?_) AllReadyH.nil
      refine step_slB (zs := [y]) (vs := [(0, .int .u8 (y.toNat : Int))]) (by rfl) (w.heap.size + 1) (by rfl) (by rfl) (run_sl1 _) rfl (by decide) hHeld.2.2 ?_
      intro b3 w3 hb3 o3 d3
      try (have o6 := o6.below d3 (Nat.le_refl _))
      refine hK.out _ _ ⟨hHeld.1.below d3 hHeld.1.lt, hHeld.2.1.trans (d3.mono hHeld.2.1.size), Nat.le_trans hHeld.2.2 d3.size⟩ (fun hHeld => ?_)
      clear hK K
      try simp only [Act.put, List.setIfInBounds_toArray, List.set_cons_zero, List.set_cons_succ]
      refine wpAnyH_ready (rs := [7]) (by kernel_rfl) (by simp) ?_
      refine AllReadyH.cons (o := ({ dst := some 18, op := Op.call { callee := Callee.builtin Builtin.append, args := #[Operand.tmp 14, Operand.tmp 17], argTypes := #[23, 23] }, type := 23, pos := _, after := #[{ on := 3, ground := Ground.data }, { on := 6, ground := Ground.data }, { on := 6, ground := Ground.chain }], guard := none } : Oper)) rfl (fun K hK => ?_) AllReadyH.nil
      refine step_appB (N := 7) (by rfl) (by rfl) (by rfl) (by rfl) o3 o6.isB.1 o6.isB.2.1 (by decide) hHeld.2.2 rfl ?_
      intro a7 c7 w7 o7 d7
      refine hK.out _ _ ⟨hHeld.1.below d7 (Nat.lt_succ_self _), hHeld.2.1.trans (d7.mono (Nat.le_succ _)), Nat.le_trans hHeld.2.2 d7.size⟩ (fun hHeld => ?_)
      clear hK K
      try simp only [Act.put, List.setIfInBounds_toArray, List.set_cons_zero, List.set_cons_succ]
      refine wpAnyH_take (i := 8) (oi := ({ dst := some 5, op := Op.assign (Operand.tmp 18), type := 23, pos := _, after := #[{ on := 7, ground := Ground.data }, { on := 7, ground := Ground.chain }, { on := 0, ground := Ground.phase }, { on := 1, ground := Ground.phase }, { on := 2, ground := Ground.phase }, { on := 3, ground := Ground.phase }, { on := 4, ground := Ground.phase }, { on := 5, ground := Ground.phase }, { on := 6, ground := Ground.phase }, { on := 7, ground := Ground.phase }], guard := none } : Oper)) (v := ?_) rfl (by kernel_rfl) (by kernel_rfl) (by kernel_rfl) (fun _ _ _ h => h) (Or.inl ⟨by rfl, ?_⟩) hHeld ?_
      rotate_left
      · (intro w hS; go_simp; try with_reducible rfl)
      try simp only [Act.put, List.setIfInBounds_toArray, List.set_cons_zero, List.set_cons_succ]
      refine wpAnyH_done (by kernel_rfl) ?_ _
      go_wp2
      go_meet
      exact ⟨_, _, rfl, o7, hHeld.1, hHeld.2.1, hHeld.2.2⟩
  case rest =>
  obtain ⟨a3, c3, rfl, o3, J3, B3, S3⟩ := hcut
  obtain ⟨wd, hwd⟩ : ∃ z, z = wc := ⟨_, rfl⟩
  subst hwd
  clear J2 B2 S2 hwk
  go_upto_region 5 with fail
  go_cut [5] (fun s wx => ∃ a c, s = .slice a 19 c ∧ OwnB (w.heap.size + 1) wx a 19 c ((([y] ++ beN 6 p) ++ beN 6 e) ++ beN 6 v) ∧ BK wx w.heap.size (cC k p e v b l) 43 ∧ Below w.heap.size w wx ∧ w.heap.size + 1 ≤ wx.heap.size)
  case first =>
    refine wp_region_held_drew (S := (fun w' => BK w' w.heap.size (cC k p e v b l) 43 ∧ Below w.heap.size w w' ∧ w.heap.size + 1 ≤ w'.heap.size)) (by kernel_rfl) ⟨J3.drew, B3.drew, S3⟩ (fun hHeld => ?_)
    refine wpAnyH_take (i := 0) (oi := ({ dst := some 19, op := Op.move (Operand.tmp 5), type := 23, pos := _, after := #[], guard := none } : Oper)) (v := ?_) rfl (by kernel_rfl) (by kernel_rfl) (by kernel_rfl) (fun _ _ _ h => h) (Or.inl ⟨by rfl, ?_⟩) hHeld ?_
    rotate_left
    · (intro w hS; go_simp; try with_reducible rfl)
    try simp only [Act.put, List.setIfInBounds_toArray, List.set_cons_zero, List.set_cons_succ]
    refine wpAnyH_take (i := 1) (oi := ({ dst := some 20, op := Op.fieldAddr 43 (Operand.tmp 1) 2, type := 0, pos := _, after := #[], guard := none } : Oper)) (v := ?_) rfl (by kernel_rfl) (by kernel_rfl) (by kernel_rfl) (fun _ _ _ h => h) (Or.inl ⟨by rfl, ?_⟩) hHeld ?_
    rotate_left
    · (intro w hS; go_simp; try with_reducible rfl)
    try simp only [Act.put, List.setIfInBounds_toArray, List.set_cons_zero, List.set_cons_succ]
    refine wpAnyH_take (i := 2) (oi := ({ dst := some 21, op := Op.load 3 (Operand.tmp 20), type := 3, pos := _, after := #[{ on := 1, ground := Ground.data }], guard := none } : Oper)) (v := ?_) rfl (by kernel_rfl) (by kernel_rfl) (by kernel_rfl) (fun _ _ _ h => h) (Or.inl ⟨by rfl, ?_⟩) hHeld ?_
    rotate_left
    · (intro w hS; have e1 := hS.1.cell 2 _ rfl; go_simp; try with_reducible rfl)
    try simp only [Act.put, List.setIfInBounds_toArray, List.set_cons_zero, List.set_cons_succ]
    refine wpAnyH_take (i := 5) (oi := ({ dst := some 24, op := Op.fieldAddr 43 (Operand.tmp 1) 3, type := 0, pos := _, after := #[], guard := none } : Oper)) (v := ?_) rfl (by kernel_rfl) (by kernel_rfl) (by kernel_rfl) (fun _ _ _ h => h) (Or.inl ⟨by rfl, ?_⟩) hHeld ?_
    rotate_left
    · (intro w hS; go_simp; try with_reducible rfl)
    try simp only [Act.put, List.setIfInBounds_toArray, List.set_cons_zero, List.set_cons_succ]
    refine wpAnyH_take (i := 6) (oi := ({ dst := some 25, op := Op.load 3 (Operand.tmp 24), type := 3, pos := _, after := #[{ on := 5, ground := Ground.data }], guard := none } : Oper)) (v := ?_) rfl (by kernel_rfl) (by kernel_rfl) (by kernel_rfl) (fun _ _ _ h => h) (Or.inl ⟨by rfl, ?_⟩) hHeld ?_
    rotate_left
    · (intro w hS; have e1 := hS.1.cell 3 _ rfl; go_simp; try with_reducible rfl)
    try simp only [Act.put, List.setIfInBounds_toArray, List.set_cons_zero, List.set_cons_succ]
    refine wpAnyH_ready (rs := [3]) (by kernel_rfl) (by simp) ?_
    refine AllReadyH.cons (o := ({ dst := some 22, op := Op.call { callee := Callee.value (Operand.func 39), args := #[Operand.tmp 21, Operand.const (Value.int IntKind.i64 6)], argTypes := #[3, 3] }, type := 23, pos := _, after := #[{ on := 2, ground := Ground.data }], guard := none } : Oper)) rfl (fun K hK => ?_) AllReadyH.nil
    refine step_call (HE _) (enters_of Try.func39 (by kernel_rfl) rfl) _ _ rfl rfl rfl ?_
    rintro e' v6 ⟨a6, c6, rfl, o6, d6⟩
    have o3 := (o3.below (Below.refl _ _).drew (Nat.le_refl _)).below d6 (Nat.le_refl _)
    refine ⟨_, rfl, hK.out _ _ ⟨hHeld.1.below d6 hHeld.1.lt, hHeld.2.1.trans (d6.mono hHeld.2.1.size), Nat.le_trans hHeld.2.2 d6.size⟩ (fun hHeld => ?_)⟩
    clear hK K
    try simp only [Act.put, List.setIfInBounds_toArray, List.set_cons_zero, List.set_cons_succ]
    refine wpAnyH_ready (rs := [4]) (by kernel_rfl) (by simp) ?_
    refine AllReadyH.cons (o := ({ dst := some 23, op := Op.call { callee := Callee.builtin Builtin.append, args := #[Operand.tmp 19, Operand.tmp 22], argTypes := #[23, 23] }, type := 23, pos := _, after := #[{ on := 0, ground := Ground.data }, { on := 3, ground := Ground.data }, { on := 3, ground := Ground.chain }], guard := none } : Oper)) rfl (fun K hK => ?_) AllReadyH.nil
    refine step_appB (N := 13) (by rfl) (by rfl) (by rfl) (by rfl) o3 o6.isB.1 o6.isB.2.1 (by decide) hHeld.2.2 rfl ?_
    intro a7 c7 w7 o7 d7
    refine hK.out _ _ ⟨hHeld.1.below d7 (Nat.lt_succ_self _), hHeld.2.1.trans (d7.mono (Nat.le_succ _)), Nat.le_trans hHeld.2.2 d7.size⟩ (fun hHeld => ?_)
    clear hK K
    try simp only [Act.put, List.setIfInBounds_toArray, List.set_cons_zero, List.set_cons_succ]
    refine wpAnyH_ready (rs := [7]) (by kernel_rfl) (by simp) ?_
    refine AllReadyH.cons (o := ({ dst := some 26, op := Op.call { callee := Callee.value (Operand.func 39), args := #[Operand.tmp 25, Operand.const (Value.int IntKind.i64 6)], argTypes := #[3, 3] }, type := 23, pos := _, after := #[{ on := 6, ground := Ground.data }, { on := 4, ground := Ground.chain }], guard := none } : Oper)) rfl (fun K hK => ?_) AllReadyH.nil
    refine step_call (HV _) (enters_of Try.func39 (by kernel_rfl) rfl) _ _ rfl rfl rfl ?_
    rintro e' v8 ⟨a8, c8, rfl, o8, d8⟩
    have o7 := o7.below d8 (Nat.le_refl _)
    refine ⟨_, rfl, hK.out _ _ ⟨hHeld.1.below d8 hHeld.1.lt, hHeld.2.1.trans (d8.mono hHeld.2.1.size), Nat.le_trans hHeld.2.2 d8.size⟩ (fun hHeld => ?_)⟩
    clear hK K
    try simp only [Act.put, List.setIfInBounds_toArray, List.set_cons_zero, List.set_cons_succ]
    refine wpAnyH_ready (rs := [8]) (by kernel_rfl) (by simp) ?_
    refine AllReadyH.cons (o := ({ dst := some 27, op := Op.call { callee := Callee.builtin Builtin.append, args := #[Operand.tmp 23, Operand.tmp 26], argTypes := #[23, 23] }, type := 23, pos := _, after := #[{ on := 4, ground := Ground.data }, { on := 7, ground := Ground.data }, { on := 7, ground := Ground.chain }], guard := none } : Oper)) rfl (fun K hK => ?_) AllReadyH.nil
    refine step_appB (N := 19) (by rfl) (by rfl) (by rfl) (by rfl) o7 o8.isB.1 o8.isB.2.1 (by decide) hHeld.2.2 rfl ?_
    intro a9 c9 w9 o9 d9
    refine hK.out _ _ ⟨hHeld.1.below d9 (Nat.lt_succ_self _), hHeld.2.1.trans (d9.mono (Nat.le_succ _)), Nat.le_trans hHeld.2.2 d9.size⟩ (fun hHeld => ?_)
    clear hK K
    try simp only [Act.put, List.setIfInBounds_toArray, List.set_cons_zero, List.set_cons_succ]
    refine wpAnyH_take (i := 9) (oi := ({ dst := some 5, op := Op.assign (Operand.tmp 27), type := 23, pos := _, after := #[{ on := 8, ground := Ground.data }, { on := 8, ground := Ground.chain }, { on := 0, ground := Ground.phase }, { on := 1, ground := Ground.phase }, { on := 2, ground := Ground.phase }, { on := 3, ground := Ground.phase }, { on := 4, ground := Ground.phase }, { on := 5, ground := Ground.phase }, { on := 6, ground := Ground.phase }, { on := 7, ground := Ground.phase }, { on := 8, ground := Ground.phase }], guard := none } : Oper)) (v := ?_) rfl (by kernel_rfl) (by kernel_rfl) (by kernel_rfl) (fun _ _ _ h => h) (Or.inl ⟨by rfl, ?_⟩) hHeld ?_
    rotate_left
    · (intro w hS; go_simp; try with_reducible rfl)
    try simp only [Act.put, List.setIfInBounds_toArray, List.set_cons_zero, List.set_cons_succ]
    refine wpAnyH_done (by kernel_rfl) ?_ _
    go_wp2
    go_meet
    exact ⟨_, _, rfl, o9, hHeld.1, hHeld.2.1, hHeld.2.2⟩
  case rest =>
  obtain ⟨a5, c5, rfl, o5, J5, B5, S5⟩ := hcut
  obtain ⟨we, hwe⟩ : ∃ z, z = wc := ⟨_, rfl⟩
  subst hwe
  clear J3 B3 S3 o3
  go_wp2
  refine wp_region_held_drew (S := (fun w' => BK w' w.heap.size (cC k p e v b l) 43 ∧ Below w.heap.size w w' ∧ w.heap.size + 1 ≤ w'.heap.size)) (by kernel_rfl) ⟨J5.drew, B5.drew, S5⟩ (fun hHeld => ?_)
  refine wpAnyH_take (i := 0) (oi := ({ dst := some 28, op := Op.move (Operand.tmp 5), type := 23, pos := _, after := #[], guard := none } : Oper)) (v := ?_) rfl (by kernel_rfl) (by kernel_rfl) (by kernel_rfl) (fun _ _ _ h => h) (Or.inl ⟨by rfl, ?_⟩) hHeld ?_
  rotate_left
  · (intro w hS; go_simp; try with_reducible rfl)
  try simp only [Act.put, List.setIfInBounds_toArray, List.set_cons_zero, List.set_cons_succ]
  refine wpAnyH_take (i := 1) (oi := ({ dst := some 29, op := Op.fieldAddr 43 (Operand.tmp 1) 4, type := 0, pos := _, after := #[], guard := none } : Oper)) (v := ?_) rfl (by kernel_rfl) (by kernel_rfl) (by kernel_rfl) (fun _ _ _ h => h) (Or.inl ⟨by rfl, ?_⟩) hHeld ?_
  rotate_left
  · (intro w hS; go_simp; try with_reducible rfl)
  try simp only [Act.put, List.setIfInBounds_toArray, List.set_cons_zero, List.set_cons_succ]
  refine wpAnyH_take (i := 2) (oi := ({ dst := some 30, op := Op.load 3 (Operand.tmp 29), type := 3, pos := _, after := #[{ on := 1, ground := Ground.data }], guard := none } : Oper)) (v := ?_) rfl (by kernel_rfl) (by kernel_rfl) (by kernel_rfl) (fun _ _ _ h => h) (Or.inl ⟨by rfl, ?_⟩) hHeld ?_
  rotate_left
  · (intro w hS; have e1 := hS.1.cell 4 _ rfl; go_simp; try with_reducible rfl)
  try simp only [Act.put, List.setIfInBounds_toArray, List.set_cons_zero, List.set_cons_succ]
  refine wpAnyH_take (i := 5) (oi := ({ dst := some 33, op := Op.fieldAddr 43 (Operand.tmp 1) 5, type := 0, pos := _, after := #[], guard := none } : Oper)) (v := ?_) rfl (by kernel_rfl) (by kernel_rfl) (by kernel_rfl) (fun _ _ _ h => h) (Or.inl ⟨by rfl, ?_⟩) hHeld ?_
  rotate_left
  · (intro w hS; go_simp; try with_reducible rfl)
  try simp only [Act.put, List.setIfInBounds_toArray, List.set_cons_zero, List.set_cons_succ]
  refine wpAnyH_take (i := 6) (oi := ({ dst := some 34, op := Op.load 3 (Operand.tmp 33), type := 3, pos := _, after := #[{ on := 5, ground := Ground.data }], guard := none } : Oper)) (v := ?_) rfl (by kernel_rfl) (by kernel_rfl) (by kernel_rfl) (fun _ _ _ h => h) (Or.inl ⟨by rfl, ?_⟩) hHeld ?_
  rotate_left
  · (intro w hS; have e1 := hS.1.cell 5 _ rfl; go_simp; try with_reducible rfl)
  try simp only [Act.put, List.setIfInBounds_toArray, List.set_cons_zero, List.set_cons_succ]
  refine wpAnyH_ready (rs := [3]) (by kernel_rfl) (by simp) ?_
  refine AllReadyH.cons (o := ({ dst := some 31, op := Op.call { callee := Callee.value (Operand.func 39), args := #[Operand.tmp 30, Operand.const (Value.int IntKind.i64 6)], argTypes := #[3, 3] }, type := 23, pos := _, after := #[{ on := 2, ground := Ground.data }], guard := none } : Oper)) rfl (fun K hK => ?_) AllReadyH.nil
  refine step_call (HB _) (enters_of Try.func39 (by kernel_rfl) rfl) _ _ rfl rfl rfl ?_
  rintro e' v6 ⟨a6, c6, rfl, o6, d6⟩
  have o3 := (o5.below (Below.refl _ _).drew (Nat.le_refl _)).below d6 (Nat.le_refl _)
  refine ⟨_, rfl, hK.out _ _ ⟨hHeld.1.below d6 hHeld.1.lt, hHeld.2.1.trans (d6.mono hHeld.2.1.size), Nat.le_trans hHeld.2.2 d6.size⟩ (fun hHeld => ?_)⟩
  clear hK K
  try simp only [Act.put, List.setIfInBounds_toArray, List.set_cons_zero, List.set_cons_succ]
  refine wpAnyH_ready (rs := [4]) (by kernel_rfl) (by simp) ?_
  refine AllReadyH.cons (o := ({ dst := some 32, op := Op.call { callee := Callee.builtin Builtin.append, args := #[Operand.tmp 28, Operand.tmp 31], argTypes := #[23, 23] }, type := 23, pos := _, after := #[{ on := 0, ground := Ground.data }, { on := 3, ground := Ground.data }, { on := 3, ground := Ground.chain }], guard := none } : Oper)) rfl (fun K hK => ?_) AllReadyH.nil
  refine step_appB (N := 25) (by rfl) (by rfl) (by rfl) (by rfl) o3 o6.isB.1 o6.isB.2.1 (by decide) hHeld.2.2 rfl ?_
  intro a7 c7 w7 o7 d7
  refine hK.out _ _ ⟨hHeld.1.below d7 (Nat.lt_succ_self _), hHeld.2.1.trans (d7.mono (Nat.le_succ _)), Nat.le_trans hHeld.2.2 d7.size⟩ (fun hHeld => ?_)
  clear hK K
  try simp only [Act.put, List.setIfInBounds_toArray, List.set_cons_zero, List.set_cons_succ]
  refine wpAnyH_ready (rs := [7]) (by kernel_rfl) (by simp) ?_
  refine AllReadyH.cons (o := ({ dst := some 35, op := Op.call { callee := Callee.value (Operand.func 39), args := #[Operand.tmp 34, Operand.const (Value.int IntKind.i64 6)], argTypes := #[3, 3] }, type := 23, pos := _, after := #[{ on := 6, ground := Ground.data }, { on := 4, ground := Ground.chain }], guard := none } : Oper)) rfl (fun K hK => ?_) AllReadyH.nil
  refine step_call (HL _) (enters_of Try.func39 (by kernel_rfl) rfl) _ _ rfl rfl rfl ?_
  rintro e' v8 ⟨a8, c8, rfl, o8, d8⟩
  have o7 := o7.below d8 (Nat.le_refl _)
  refine ⟨_, rfl, hK.out _ _ ⟨hHeld.1.below d8 hHeld.1.lt, hHeld.2.1.trans (d8.mono hHeld.2.1.size), Nat.le_trans hHeld.2.2 d8.size⟩ (fun hHeld => ?_)⟩
  clear hK K
  try simp only [Act.put, List.setIfInBounds_toArray, List.set_cons_zero, List.set_cons_succ]
  refine wpAnyH_ready (rs := [8]) (by kernel_rfl) (by simp) ?_
  refine AllReadyH.cons (o := ({ dst := some 36, op := Op.call { callee := Callee.builtin Builtin.append, args := #[Operand.tmp 32, Operand.tmp 35], argTypes := #[23, 23] }, type := 23, pos := _, after := #[{ on := 4, ground := Ground.data }, { on := 7, ground := Ground.data }, { on := 7, ground := Ground.chain }], guard := none } : Oper)) rfl (fun K hK => ?_) AllReadyH.nil
  refine step_appB (N := 31) (by rfl) (by rfl) (by rfl) (by rfl) o7 o8.isB.1 o8.isB.2.1 (by decide) hHeld.2.2 rfl ?_
  intro a9 c9 w9 o9 d9
  refine hK.out _ _ ⟨hHeld.1.below d9 (Nat.lt_succ_self _), hHeld.2.1.trans (d9.mono (Nat.le_succ _)), Nat.le_trans hHeld.2.2 d9.size⟩ (fun hHeld => ?_)
  clear hK K
  try simp only [Act.put, List.setIfInBounds_toArray, List.set_cons_zero, List.set_cons_succ]
  refine wpAnyH_take (i := 9) (oi := ({ dst := some 2, op := Op.assign (Operand.tmp 36), type := 23, pos := _, after := #[{ on := 8, ground := Ground.data }, { on := 8, ground := Ground.chain }, { on := 0, ground := Ground.phase }, { on := 1, ground := Ground.phase }, { on := 2, ground := Ground.phase }, { on := 3, ground := Ground.phase }, { on := 4, ground := Ground.phase }, { on := 5, ground := Ground.phase }, { on := 6, ground := Ground.phase }, { on := 7, ground := Ground.phase }, { on := 8, ground := Ground.phase }], guard := none } : Oper)) (v := ?_) rfl (by kernel_rfl) (by kernel_rfl) (by kernel_rfl) (fun _ _ _ h => h) (Or.inl ⟨by rfl, ?_⟩) hHeld ?_
  rotate_left
  · (intro w hS; go_simp; try with_reducible rfl)
  try simp only [Act.put, List.setIfInBounds_toArray, List.set_cons_zero, List.set_cons_succ]
  refine wpAnyH_take (i := 10) (oi := ({ dst := some 3, op := Op.assign (Operand.const (Value.int IntKind.i64 0)), type := 3, pos := _, after := #[{ on := 9, ground := Ground.chain }, { on := 0, ground := Ground.phase }, { on := 1, ground := Ground.phase }, { on := 2, ground := Ground.phase }, { on := 3, ground := Ground.phase }, { on := 4, ground := Ground.phase }, { on := 5, ground := Ground.phase }, { on := 6, ground := Ground.phase }, { on := 7, ground := Ground.phase }, { on := 8, ground := Ground.phase }, { on := 9, ground := Ground.phase }], guard := none } : Oper)) (v := ?_) rfl (by kernel_rfl) (by kernel_rfl) (by kernel_rfl) (fun _ _ _ h => h) (Or.inl ⟨by rfl, ?_⟩) hHeld ?_
  rotate_left
  · (intro w hS; go_simp; try with_reducible rfl)
  try simp only [Act.put, List.setIfInBounds_toArray, List.set_cons_zero, List.set_cons_succ]
  refine wpAnyH_done (by kernel_rfl) ?_ _
  go_wp2
  go_ret2
  exact ⟨_, _, _, rfl, by rw [HT.out]; exact o9.isB.1, hHeld.2.1⟩

theorem reftraf_all (k p e v b l : Int) (w : World) : Calls Try.prog 19 #[cV k p e v b l] w (ByAll (trX k p e v b l).body (errN k p e v b l) w) := by
  by_cases h : errN k p e v b l = 0
  · obtain ⟨k', p', e', v', b', l', rfl, rfl, rfl, rfl, rfl, rfl, h0, h1, h2, h3, h4, h5⟩ := errN_nats h
    have hx : (trX (k' : Int) p' e' v' b' l').body = trafB k' [p', e', v', b', l'] := by unfold trX; rw [if_pos h]; simp [trafE]
    rw [hx, h]
    exact reftraf_ok k' p' e' v' b' l' h h0 h1 h2 h3 h4 h5 w
  · have hx : (trX k p e v b l).body = [] := by unfold trX; rw [if_neg h]; rfl
    rw [hx]
    exact reftraf_no k p e v b l _ rfl h w
end Go.Proofs.Ytbjkioekmekeaaa
