/- Proved here: slices.Insert at slices of changes, where there is no room; and in both ways. Conditions: as each theorem states them. -/
import Derived.Test.YtcenipihbmifpaaInsR
namespace Go.Proofs.Ytcenipihbmifpaa
set_option linter.unusedSimpArgs false
set_option linter.unusedVariables false
open Go.RowKit Go.Shelf

set_option maxHeartbeats 600000 in
set_option maxRecDepth 100000 in
theorem insert_grow (w : World) (base : Nat) (hbase : base ≤ w.heap.size) (g n c : Nat) (S : List (Int × Int)) (hv : CS 64 base w (some ⟨g, 0, none⟩) n c S) (hn : n ≤ 1000) (i : Nat) (hi : i < n) (hroom : c < n + 1) (x : Int × Int) (vb : Nat) (h2 : BK w vb #[.int .i64 x.1, .int .i64 x.2] 64) :
    Calls Try.prog 37 #[.slice (some ⟨g, 0, none⟩) n c, .int .i64 i, .slice (some ⟨vb, 0, none⟩) 1 1] w fun e w' => ∃ g' c', e = .returned (.slice (some ⟨g', 0, none⟩) (n + 1) c') ∧
      CS 64 base w' (some ⟨g', 0, none⟩) (n + 1) c' (S.take i ++ x :: S.drop i) ∧ Below base w w' := by
  obtain ⟨g', cur, e1, hbg, hg, hnc, hcm, hcs, htk⟩ := hv.block
  cases e1
  obtain ⟨rfl, _⟩ := hv
  obtain ⟨i0, hi0, hz0, hzs, hzb⟩ := info_parts info_c
  have hgl := hg.lt
  have hvl := h2.lt
  have hcl : cur.toList.length = c * 2 := by simpa using hcs
  have hdl : (S.drop i).length = S.length - i := by rw [List.length_drop]
  have htl : (S.take i).length = i := by rw [List.length_take]; omega
  have hik : i + (S.length + 1 - i) = S.length + 1 := by omega
  have hkk : (S.length : Int) + 1 - (i : Int) = ((S.length + 1 - i : Nat) : Int) := by omega
  have hold : (Builtin.firstCells i0.size i (.slice (some ⟨g, 0, none⟩) i c)).run Try.prog w.drew = .ok (ccells (S.take i)).toArray w.drew := by
    rw [hzs]
    refine run_firstCells_some w.drew 2 i ⟨g, 0, none⟩ i c (ccells (S.take i)) (by rw [ccells_length, htl]) (fun j v hj => ?_)
    rw [Addr.add_lit, Nat.zero_add]
    refine hg.cell _ _ ?_
    rw [← ccells_take, ← htk, List.take_take, List.getElem?_take] at hj
    split at hj
    · simpa using hj
    · cases hj
  obtain ⟨G, hG⟩ : ∃ G, G = grownCap w (S.length + 1) c 64 := ⟨_, rfl⟩
  have hGn : S.length + 1 ≤ G := by rw [hG]; exact grownCap_ge w _ _ _
  have hGm : G ≤ maxLen := by rw [hG]; exact grownCap_le_maxLen w (S.length + 1) c _ (by unfold maxLen; omega)
  have hG63 : G ≤ 9223372036854775807 := by unfold maxLen at hGm; omega
  obtain ⟨R0, hR0⟩ : ∃ R0 : List Value, R0 = ccells (S.take i) ++ (Builtin.zeroCells #[(.int .i64 0 : Value), .int .i64 0] (S.length + 1 - i)).toList ++ (Builtin.zeroCells #[(.int .i64 0 : Value), .int .i64 0] (G - (S.length + 1))).toList := ⟨_, rfl⟩
  obtain ⟨R1, hR1⟩ : ∃ R1 : List Value, R1 = R0.take (i * 2) ++ ccells [x] ++ R0.drop (i * 2 + 1 * 2) := ⟨_, rfl⟩
  obtain ⟨R2, hR2⟩ : ∃ R2 : List Value, R2 = R1.take ((i + 1) * 2) ++ ccells (S.drop i) ++ R1.drop ((i + 1) * 2 + (S.drop i).length * 2) := ⟨_, rfl⟩
  obtain ⟨l0, l1, l2, htk2⟩ := grow_cells (R := 0) (G := G) x hi _ _ (by rw [zeroCells_pair, ccells_length, List.length_replicate]) (by rw [zeroCells_pair, ccells_length, List.length_replicate]) hGn R0 R1 R2 hR0 hR1 hR2
  obtain ⟨W1, hW1⟩ : ∃ W1, W1 = w.drew.alloc (.cells R0.toArray 64) := ⟨_, rfl⟩
  have hrz : ∀ ty, (Builtin.append_ #[57, 3] ty #[.slice (some ⟨g, 0, none⟩) i c, .int .i64 ((S.length : Int) + 1 - (i : Int))]).run Try.prog w = .ok (.slice (some ⟨w.heap.size, 0, none⟩) (S.length + 1) G) W1 := fun ty => by
    have h := Lib.run_append_grow_zeros w 57 3 ty 64 i0 _ .i64 .i64 Try.underlying57 Try.underlying3 hi0 hz0 (some ⟨g, 0, none⟩) i c (ccells (S.take i)) hold (S.length + 1 - i) (by omega) (by omega) (by omega) (by omega) (by rw [hzb]; omega) (by rw [hzb, hik]; exact growslice_fits hroom (by omega))
    rw [hik, ← hG] at h
    rw [hkk, h, hW1, hR0]
    congr 3
    simp [Value.cells]
  have K1 : BK W1 w.heap.size R0.toArray 64 := by rw [hW1]; exact bk_new w.drew _ _
  have G1 : BK W1 g cur 64 := by rw [hW1]; exact BK.alloc (show BK w.drew g cur _ from hg) _
  have V1 : BK W1 vb #[.int .i64 x.1, .int .i64 x.2] 64 := by rw [hW1]; exact BK.alloc (show BK w.drew vb _ _ from h2) _
  have B1 : Below base w W1 := by rw [hW1]; exact (Below.refl base w).drew.alloc hbase _
  obtain ⟨W2, hW2⟩ : ∃ W2, W2 = W1.setRow w.heap.size R1.toArray := ⟨_, rfl⟩
  have K2 : BK W2 w.heap.size R1.toArray 64 := by rw [hW2]; exact bk_setRow K1 _
  have G2 : BK W2 g cur 64 := by rw [hW2]; exact bk_setRow_other G1 _ (by omega)
  have B2 : Below base w W2 := by rw [hW2]; exact below_setRow B1 hbase _
  have hcpA : ∀ ty dc, (Builtin.copy_ #[57, 57] ty #[.slice (some ⟨w.heap.size, i * 2, none⟩) (S.length + 1 - i) dc, .slice (some ⟨vb, 0, none⟩) 1 1]).run Try.prog W1 = .ok (goInt [x].length) W2 := fun ty dc => by
    rw [hW2, hR1]
    refine run_copy_c Try.underlying57 info_c W1 ty w.heap.size (i * 2) _ dc ⟨vb, 0, none⟩ _ 1 R0.toArray _ [x] K1 (by simp only [Nat.min_def, List.length_singleton]; split <;> omega) (fun j v hj => ?_) (by simp [l0]; omega)
    rw [Addr.add_lit, Nat.zero_add]
    rw [ccells_cons, ccells_nil] at hj
    exact V1.cell _ _ (by simpa using hj)
  obtain ⟨W3, hW3⟩ : ∃ W3, W3 = W2.drew.setRow w.heap.size R2.toArray := ⟨_, rfl⟩
  have hcpB : ∀ ty dc sc, (Builtin.copy_ #[57, 57] ty #[.slice (some ⟨w.heap.size, (i + 1) * 2, none⟩) (S.length - i) dc, .slice (some ⟨g, i * 2, none⟩) (S.length - i) sc]).run Try.prog W2.drew = .ok (goInt (S.drop i).length) W3 := fun ty dc sc => by
    rw [hW3, hR2]
    refine run_copy_c Try.underlying57 info_c W2.drew ty w.heap.size ((i + 1) * 2) _ dc ⟨g, i * 2, none⟩ _ sc R1.toArray _ (S.drop i) K2 (by rw [hdl]; simp only [Nat.min_def]; split <;> omega) (fun j v hj => ?_) (by simp [l1]; omega)
    rw [Addr.add_lit]
    refine (show BK W2.drew g cur _ from G2).cell _ _ ?_
    rw [← ccells_drop, ← htk, List.getElem?_drop, List.getElem?_take] at hj
    split at hj
    · simpa using hj
    · cases hj
  have HC : Hid (CS 64 base W3 (some ⟨w.heap.size, 0, none⟩) (S.length + 1) G (S.take i ++ x :: S.drop i)) := by
    refine ⟨by simp; omega, by rw [ccells_length]; simp; omega, .inr ⟨w.heap.size, G, R2.toArray, rfl, hbase, ?_, hGn, hGm, by simpa using l2, by simpa using htk2⟩⟩
    rw [hW3]; exact bk_setRow (show BK W2.drew _ _ _ from K2) _
  have B3 : Below base w W3 := by rw [hW3]; exact below_setRow B2.drew hbase _
  have hz2 : ¬ ((i : Int) = (S.length : Int)) := by omega
  have hw1 : IntKind.i64.wrap ((i : Int) + 1) = (i : Int) + 1 := by rw [IntKind.wrap_i64]; omega
  have hb1 : (0 : Int) ≤ (i : Int) + 1 := by omega
  have hin : i ≤ S.length := by omega
  have htn : ((i : Int) + 1).toNat = i + 1 := by omega
  have hb3 : (i : Int) ≤ (S.length : Int) + 1 := by omega
  have hb5 : (i : Int) ≤ (S.length : Int) := by omega
  have hGi : ¬ (G = i) := by omega
  have hGim : ¬ (G = i + 1) := by omega
  have hci : ¬ (c = i) := by omega
  clear hold hkk hik hR0 hR1 hR2 hW1 hW2 hW3 htk htk2 l0 l1 l2 hcl K1 G1 V1 B1 K2 G2 B2 hG hdl htl hi0 hz0 hzs hzb
  go_enter Try.func37, Try.ntmps37
  go_wp2_with (first
    | (at_builtin; refine wpList_app2 (hrz _) _ _ rfl rfl rfl rfl rfl ?_)
    | (at_builtin; refine wpList_copy_run (hcpA _ _) _ _ rfl rfl rfl rfl rfl ?_))
  refine wp_region_held_drew (S := (fun _ => True)) (by kernel_rfl) trivial (fun hHeld => ?_)
  refine wpAnyH_take (i := 0) (oi := ({ dst := some 46, op := Op.move (Operand.tmp 9), type := 57, pos := _, after := #[], guard := none } : Oper)) (v := ?_) rfl (by kernel_rfl) (by kernel_rfl) (by kernel_rfl) (fun _ _ _ h => h) (Or.inl ⟨by rfl, ?_⟩) hHeld ?_
  rotate_left
  · (intro w hS; go_simp; try with_reducible rfl)
  try simp only [Act.put, List.setIfInBounds_toArray, List.set_cons_zero, List.set_cons_succ]
  refine wpAnyH_take (i := 1) (oi := ({ dst := some 47, op := Op.move (Operand.tmp 1), type := 3, pos := _, after := #[], guard := none } : Oper)) (v := ?_) rfl (by kernel_rfl) (by kernel_rfl) (by kernel_rfl) (fun _ _ _ h => h) (Or.inl ⟨by rfl, ?_⟩) hHeld ?_
  rotate_left
  · (intro w hS; go_simp; try with_reducible rfl)
  try simp only [Act.put, List.setIfInBounds_toArray, List.set_cons_zero, List.set_cons_succ]
  refine wpAnyH_take (i := 2) (oi := ({ dst := some 48, op := Op.move (Operand.tmp 7), type := 3, pos := _, after := #[], guard := none } : Oper)) (v := ?_) rfl (by kernel_rfl) (by kernel_rfl) (by kernel_rfl) (fun _ _ _ h => h) (Or.inl ⟨by rfl, ?_⟩) hHeld ?_
  rotate_left
  · (intro w hS; go_simp; try with_reducible rfl)
  try simp only [Act.put, List.setIfInBounds_toArray, List.set_cons_zero, List.set_cons_succ]
  refine wpAnyH_take (i := 3) (oi := ({ dst := some 49, op := Op.binOp BinOp.add 3 (Operand.tmp 47) (Operand.tmp 48) 3, type := 3, pos := _, after := #[{ on := 1, ground := Ground.data }, { on := 2, ground := Ground.data }], guard := none } : Oper)) (v := ?_) rfl (by kernel_rfl) (by kernel_rfl) (by kernel_rfl) (fun _ _ _ h => h) (Or.inl ⟨by rfl, ?_⟩) hHeld ?_
  rotate_left
  · (intro w hS; go_simp; try with_reducible rfl)
  try simp only [Act.put, List.setIfInBounds_toArray, List.set_cons_zero, List.set_cons_succ]
  refine wpAnyH_take (i := 4) (oi := ({ dst := some 50, op := Op.slice 57 (Operand.tmp 46) (some (Operand.tmp 49)) none none, type := 57, pos := _, after := #[{ on := 0, ground := Ground.data }, { on := 3, ground := Ground.data }], guard := none } : Oper)) (v := ?_) rfl (by kernel_rfl) (by kernel_rfl) (by kernel_rfl) (fun _ _ _ h => h) (Or.inl ⟨by rfl, ?_⟩) hHeld ?_
  rotate_left
  · (intro w hS; go_simp; try with_reducible rfl)
  try simp only [Act.put, List.setIfInBounds_toArray, List.set_cons_zero, List.set_cons_succ]
  refine wpAnyH_take (i := 5) (oi := ({ dst := some 51, op := Op.move (Operand.tmp 0), type := 57, pos := _, after := #[], guard := none } : Oper)) (v := ?_) rfl (by kernel_rfl) (by kernel_rfl) (by kernel_rfl) (fun _ _ _ h => h) (Or.inl ⟨by rfl, ?_⟩) hHeld ?_
  rotate_left
  · (intro w hS; go_simp; try with_reducible rfl)
  try simp only [Act.put, List.setIfInBounds_toArray, List.set_cons_zero, List.set_cons_succ]
  refine wpAnyH_take (i := 6) (oi := ({ dst := some 52, op := Op.move (Operand.tmp 1), type := 3, pos := _, after := #[], guard := none } : Oper)) (v := ?_) rfl (by kernel_rfl) (by kernel_rfl) (by kernel_rfl) (fun _ _ _ h => h) (Or.inl ⟨by rfl, ?_⟩) hHeld ?_
  rotate_left
  · (intro w hS; go_simp; try with_reducible rfl)
  try simp only [Act.put, List.setIfInBounds_toArray, List.set_cons_zero, List.set_cons_succ]
  refine wpAnyH_take (i := 7) (oi := ({ dst := some 53, op := Op.slice 57 (Operand.tmp 51) (some (Operand.tmp 52)) none none, type := 57, pos := _, after := #[{ on := 5, ground := Ground.data }, { on := 6, ground := Ground.data }], guard := none } : Oper)) (v := ?_) rfl (by kernel_rfl) (by kernel_rfl) (by kernel_rfl) (fun _ _ _ h => h) (Or.inl ⟨by rfl, ?_⟩) hHeld ?_
  rotate_left
  · (intro w hS; go_simp; try with_reducible rfl)
  try simp only [Act.put, List.setIfInBounds_toArray, List.set_cons_zero, List.set_cons_succ]
  refine wpAnyH_ready (rs := [8]) (by kernel_rfl) (by simp) ?_
  refine AllReadyH.cons (o := ({ dst := some 54, op := Op.call { callee := Callee.builtin Builtin.copy, args := #[Operand.tmp 50, Operand.tmp 53], argTypes := #[57, 57] }, type := 3, pos := _, after := #[{ on := 4, ground := Ground.data }, { on := 7, ground := Ground.data }], guard := none } : Oper)) rfl (fun K hK => ?_) AllReadyH.nil
  refine step_copy_run (hcpB _ _ _) _ _ rfl rfl rfl rfl rfl ?_
  refine hK.out _ _ trivial (fun hHeld => ?_)
  clear hK K
  try simp only [Act.put, List.setIfInBounds_toArray, List.set_cons_zero, List.set_cons_succ]
  refine wpAnyH_done (by kernel_rfl) ?_ _
  skip
  go_wp2
  go_ret
  exact ⟨w.heap.size, G, rfl, HC.out, B3⟩

theorem insert_calls (w : World) (base : Nat) (hbase : base ≤ w.heap.size) (g n c : Nat) (S : List (Int × Int)) (hv : CS 64 base w (some ⟨g, 0, none⟩) n c S) (hn : n ≤ 1000) (i : Nat) (hi : i < n) (x : Int × Int) (vb : Nat) (h2 : BK w vb #[.int .i64 x.1, .int .i64 x.2] 64) (hvb : vb ≠ g) :
    Calls Try.prog 37 #[.slice (some ⟨g, 0, none⟩) n c, .int .i64 i, .slice (some ⟨vb, 0, none⟩) 1 1] w fun e w' => ∃ g' c', e = .returned (.slice (some ⟨g', 0, none⟩) (n + 1) c') ∧
      CS 64 base w' (some ⟨g', 0, none⟩) (n + 1) c' (S.take i ++ x :: S.drop i) ∧ Below base w w' := by
  by_cases hroom : n + 1 ≤ c
  · exact insert_room w base g n c S hv i hi hroom x vb h2 hvb
  · exact insert_grow w base hbase g n c S hv hn i hi (by omega) x vb h2
end Go.Proofs.Ytcenipihbmifpaa
