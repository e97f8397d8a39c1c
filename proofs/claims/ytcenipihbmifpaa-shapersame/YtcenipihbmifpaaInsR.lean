/- Proved here: slices.Insert at slices of changes, where there is room. Conditions: as each theorem states them. -/
import Derived.Test.YtcenipihbmifpaaIns
namespace Go.Proofs.Ytcenipihbmifpaa
set_option linter.unusedSimpArgs false
set_option linter.unusedVariables false
open Go.RowKit Go.Shelf
set_option maxHeartbeats 600000 in
set_option maxRecDepth 100000 in
theorem insert_room (w : World) (base : Nat) (g n c : Nat) (S : List (Int × Int)) (hv : CS 64 base w (some ⟨g, 0, none⟩) n c S) (i : Nat) (hi : i < n) (hroom : n + 1 ≤ c) (x : Int × Int) (vb : Nat) (h2 : BK w vb #[.int .i64 x.1, .int .i64 x.2] 64) (hvb : vb ≠ g) :
    Calls Try.prog 37 #[.slice (some ⟨g, 0, none⟩) n c, .int .i64 i, .slice (some ⟨vb, 0, none⟩) 1 1] w fun e w' => ∃ g' c', e = .returned (.slice (some ⟨g', 0, none⟩) (n + 1) c') ∧
      CS 64 base w' (some ⟨g', 0, none⟩) (n + 1) c' (S.take i ++ x :: S.drop i) ∧ Below base w w' := by
  obtain ⟨g', cur, e1, hbg, hg, hnc, hcm, hcs, htk⟩ := hv.block
  cases e1
  obtain ⟨rfl, _⟩ := hv
  have hc63 : c ≤ 9223372036854775807 := by unfold maxLen at hcm; omega
  have hz2 : ¬ ((i : Int) = (S.length : Int)) := by omega
  have hov : ∀ lb cb, (callFunc 40 #[.slice (some ⟨vb, 0, none⟩) 1 1, .slice (some ⟨g, (i + 1) * 2, none⟩) lb cb]).run Try.prog w = .ok (.value (.bool false)) w := fun lb cb => by
    rw [run_callFunc_extern Try.func40 (by kernel_rfl) (by kernel_rfl) (by kernel_rfl) (e := Extern.SlicesOverlaps.overlaps #[57, 57] #[4]) (by kernel_rfl),
      Lib.run_overlaps_apart w 57 4 64 Try.underlying57 2 Try.sizeOf64 ⟨vb, 0, none⟩ ⟨g, (i + 1) * 2, none⟩ 1 1 lb cb hvb 64 64 2 (c * 2)
        (by unfold World.shape?; rw [show w.heap[vb]? = _ from h2]; rfl) (by unfold World.shape?; rw [show w.heap[g]? = _ from hg, ← hcs]) (by omega) (h2.frozen 0) (h2.frozen 2)]
    rfl
  have hdl : (S.drop i).length = S.length - i := by rw [List.length_drop]
  have hcl : cur.toList.length = c * 2 := by simpa using hcs
  obtain ⟨A1, hA1⟩ : ∃ A1, A1 = cur.toList.take ((i + 1) * 2) ++ ccells (S.drop i) ++ cur.toList.drop ((i + 1) * 2 + (S.drop i).length * 2) := ⟨_, rfl⟩
  obtain ⟨A2, hA2⟩ : ∃ A2, A2 = A1.take (i * 2) ++ ccells [x] ++ A1.drop (i * 2 + 1 * 2) := ⟨_, rfl⟩
  obtain ⟨l1, l2, htk2⟩ := room_cells x hcl htk hi hroom A1 A2 hA1 hA2
  have hcp1 : ∀ (W : World), BK W g cur 64 → ∀ ty dc sc, (Builtin.copy_ #[57, 57] ty #[.slice (some ⟨g, (i + 1) * 2, none⟩) (S.length - i) dc, .slice (some ⟨g, i * 2, none⟩) (S.length + 1 - i) sc]).run Try.prog W = .ok (goInt (S.drop i).length) (W.setRow g A1.toArray) := fun W hW ty dc sc => by
    rw [hA1]
    refine run_copy_c Try.underlying57 info_c W ty g ((i + 1) * 2) _ dc ⟨g, i * 2, none⟩ _ sc cur _ (S.drop i) hW (by rw [hdl]; simp only [Nat.min_def]; split <;> omega) (fun j v hj => ?_) (by omega)
    rw [Addr.add_lit]
    refine hW.cell _ _ ?_
    rw [← ccells_drop, ← htk, List.getElem?_drop, List.getElem?_take] at hj
    split at hj
    · simpa using hj
    · cases hj
  have hcp2 : ∀ (W : World), BK W g A1.toArray 64 → BK W vb #[.int .i64 x.1, .int .i64 x.2] 64 → ∀ ty dc, (Builtin.copy_ #[57, 57] ty #[.slice (some ⟨g, i * 2, none⟩) (S.length + 1 - i) dc, .slice (some ⟨vb, 0, none⟩) 1 1]).run Try.prog W = .ok (goInt [x].length) (W.setRow g A2.toArray) := fun W hW hV ty dc => by
    rw [hA2]
    refine run_copy_c Try.underlying57 info_c W ty g (i * 2) _ dc ⟨vb, 0, none⟩ _ 1 A1.toArray _ [x] hW (by simp only [Nat.min_def, List.length_singleton]; split <;> omega) (fun j v hj => ?_) (by simp [l1]; omega)
    rw [Addr.add_lit, Nat.zero_add]
    rw [ccells_cons, ccells_nil] at hj
    exact hV.cell _ _ (by simpa using hj)
  have hE : ∃ w', w' = (w.drew.setRow g A1.toArray).setRow g A2.toArray ∧ CS 64 base w' (some ⟨g, 0, none⟩) (S.length + 1) c (S.take i ++ x :: S.drop i) ∧ Below base w w' := by
    refine ⟨_, rfl, ⟨by simp; omega, by rw [ccells_length]; simp; omega, .inr ⟨g, c, A2.toArray, rfl, hbg, bk_setRow (bk_setRow (show BK w.drew g cur _ from hg) _) _, hroom, hcm, by simpa using l2, by simpa using htk2⟩⟩, below_setRow (below_setRow (Below.refl base w).drew hbg _) hbg _⟩
  obtain ⟨w2, hw2, hC2, hB2⟩ := hE
  have HC2 : Hid (CS 64 base w2 (some ⟨g, 0, none⟩) (S.length + 1) c (S.take i ++ x :: S.drop i)) := hC2
  have hw1 : IntKind.i64.wrap ((i : Int) + 1) = (i : Int) + 1 := by rw [IntKind.wrap_i64]; omega
  have hb1 : (0 : Int) ≤ (i : Int) + 1 := by omega
  have hin : i ≤ S.length := by omega
  have htn : ((i : Int) + 1).toNat = i + 1 := by omega
  have hb2 : ¬ (c = i + 1) := by omega
  have hb3 : (i : Int) ≤ (S.length : Int) + 1 := by omega
  have hb4 : ¬ (c = i) := by omega
  have hcp1w := hcp1 w.drew hg
  have hcp2w := hcp2 (w.drew.setRow g A1.toArray) (bk_setRow (show BK w.drew g cur _ from hg) _) (bk_setRow_other (show BK w.drew vb _ _ from h2) _ hvb)
  rw [← hw2] at hcp2w
  clear hcp1 hcp2 hA1 hA2 hC2 htk htk2 l1 l2 hcl
  go_enter Try.func37, Try.ntmps37
  go_wp2_with (simp only [hov])
  refine wp_region_held_drew (S := (fun _ => True)) (by kernel_rfl) trivial (fun hHeld => ?_)
  refine wpAnyH_take (i := 0) (oi := ({ dst := some 69, op := Op.move (Operand.tmp 0), type := 57, pos := _, after := #[], guard := none } : Oper)) (v := ?_) rfl (by kernel_rfl) (by kernel_rfl) (by kernel_rfl) (fun _ _ _ h => h) (Or.inl ⟨by rfl, ?_⟩) hHeld ?_
  rotate_left
  · (intro w hS; go_simp; try with_reducible rfl)
  try simp only [Act.put, List.setIfInBounds_toArray, List.set_cons_zero, List.set_cons_succ]
  refine wpAnyH_take (i := 1) (oi := ({ dst := some 70, op := Op.move (Operand.tmp 1), type := 3, pos := _, after := #[], guard := none } : Oper)) (v := ?_) rfl (by kernel_rfl) (by kernel_rfl) (by kernel_rfl) (fun _ _ _ h => h) (Or.inl ⟨by rfl, ?_⟩) hHeld ?_
  rotate_left
  · (intro w hS; go_simp; try with_reducible rfl)
  try simp only [Act.put, List.setIfInBounds_toArray, List.set_cons_zero, List.set_cons_succ]
  refine wpAnyH_take (i := 2) (oi := ({ dst := some 71, op := Op.move (Operand.tmp 7), type := 3, pos := _, after := #[], guard := none } : Oper)) (v := ?_) rfl (by kernel_rfl) (by kernel_rfl) (by kernel_rfl) (fun _ _ _ h => h) (Or.inl ⟨by rfl, ?_⟩) hHeld ?_
  rotate_left
  · (intro w hS; go_simp; try with_reducible rfl)
  try simp only [Act.put, List.setIfInBounds_toArray, List.set_cons_zero, List.set_cons_succ]
  refine wpAnyH_take (i := 3) (oi := ({ dst := some 72, op := Op.binOp BinOp.add 3 (Operand.tmp 70) (Operand.tmp 71) 3, type := 3, pos := _, after := #[{ on := 1, ground := Ground.data }, { on := 2, ground := Ground.data }], guard := none } : Oper)) (v := ?_) rfl (by kernel_rfl) (by kernel_rfl) (by kernel_rfl) (fun _ _ _ h => h) (Or.inl ⟨by rfl, ?_⟩) hHeld ?_
  rotate_left
  · (intro w hS; go_simp; try with_reducible rfl)
  try simp only [Act.put, List.setIfInBounds_toArray, List.set_cons_zero, List.set_cons_succ]
  refine wpAnyH_take (i := 4) (oi := ({ dst := some 73, op := Op.slice 57 (Operand.tmp 69) (some (Operand.tmp 72)) none none, type := 57, pos := _, after := #[{ on := 0, ground := Ground.data }, { on := 3, ground := Ground.data }], guard := none } : Oper)) (v := ?_) rfl (by kernel_rfl) (by kernel_rfl) (by kernel_rfl) (fun _ _ _ h => h) (Or.inl ⟨by rfl, ?_⟩) hHeld ?_
  rotate_left
  · (intro w hS; go_simp; try with_reducible rfl)
  try simp only [Act.put, List.setIfInBounds_toArray, List.set_cons_zero, List.set_cons_succ]
  refine wpAnyH_take (i := 5) (oi := ({ dst := some 74, op := Op.move (Operand.tmp 0), type := 57, pos := _, after := #[], guard := none } : Oper)) (v := ?_) rfl (by kernel_rfl) (by kernel_rfl) (by kernel_rfl) (fun _ _ _ h => h) (Or.inl ⟨by rfl, ?_⟩) hHeld ?_
  rotate_left
  · (intro w hS; go_simp; try with_reducible rfl)
  try simp only [Act.put, List.setIfInBounds_toArray, List.set_cons_zero, List.set_cons_succ]
  refine wpAnyH_take (i := 6) (oi := ({ dst := some 75, op := Op.move (Operand.tmp 1), type := 3, pos := _, after := #[], guard := none } : Oper)) (v := ?_) rfl (by kernel_rfl) (by kernel_rfl) (by kernel_rfl) (fun _ _ _ h => h) (Or.inl ⟨by rfl, ?_⟩) hHeld ?_
  rotate_left
  · (intro w hS; go_simp; try with_reducible rfl)
  try simp only [Act.put, List.setIfInBounds_toArray, List.set_cons_zero, List.set_cons_succ]
  refine wpAnyH_take (i := 7) (oi := ({ dst := some 76, op := Op.slice 57 (Operand.tmp 74) (some (Operand.tmp 75)) none none, type := 57, pos := _, after := #[{ on := 5, ground := Ground.data }, { on := 6, ground := Ground.data }], guard := none } : Oper)) (v := ?_) rfl (by kernel_rfl) (by kernel_rfl) (by kernel_rfl) (fun _ _ _ h => h) (Or.inl ⟨by rfl, ?_⟩) hHeld ?_
  rotate_left
  · (intro w hS; go_simp; try with_reducible rfl)
  try simp only [Act.put, List.setIfInBounds_toArray, List.set_cons_zero, List.set_cons_succ]
  refine wpAnyH_ready (rs := [8]) (by kernel_rfl) (by simp) ?_
  refine AllReadyH.cons (o := ({ dst := some 77, op := Op.call { callee := Callee.builtin Builtin.copy, args := #[Operand.tmp 73, Operand.tmp 76], argTypes := #[57, 57] }, type := 3, pos := _, after := #[{ on := 4, ground := Ground.data }, { on := 7, ground := Ground.data }], guard := none } : Oper)) rfl (fun K hK => ?_) AllReadyH.nil
  refine step_copy_run (hcp1w _ _ _) _ _ rfl rfl rfl rfl rfl ?_
  refine hK.out _ _ trivial (fun hHeld => ?_)
  clear hK K
  try simp only [Act.put, List.setIfInBounds_toArray, List.set_cons_zero, List.set_cons_succ]
  refine wpAnyH_done (by kernel_rfl) ?_ _
  skip
  go_wp2_with (at_builtin; refine wpList_copy_run (hcp2w _ _) _ _ rfl rfl rfl rfl rfl ?_)
  go_ret
  subst hw2
  exact ⟨g, c, rfl, HC2.out, hB2⟩
end Go.Proofs.Ytcenipihbmifpaa
