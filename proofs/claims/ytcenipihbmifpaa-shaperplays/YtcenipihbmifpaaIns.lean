/- Proved here: slices.Insert at slices of changes: one change ahead of another. Conditions: as each theorem states them. -/
import Derived.Laws.Externs
import Derived.Test.YtcenipihbmifpaaChg
namespace Go.Proofs.Ytcenipihbmifpaa
set_option linter.unusedSimpArgs false
set_option linter.unusedVariables false
open Go.RowKit Go.Shelf

theorem wpList_copy_run {P : Program} {w w' : World} {t : TypeId} {va vx v' : Value} {ty : TypeId} (hrun : (Builtin.copy_ #[t, t] ty #[va, vx]).run P w = .ok v' w')
    {ops : Array Oper} {rest : List Oper} {o : Oper} {a : Act} {Q : Exit → Act → World → Prop} (s x : Operand) (hgd : Region.wanted o (yielded ops a.tmps) = true)
    (ho : o.op = .call { callee := .builtin .copy, args := #[s, x], argTypes := #[t, t] }) (hty : o.type = ty) (hs : a.eval s = va) (hx : a.eval x = vx)
    (h : wpList P ops Q rest (a.put o.dst v') w') : wpList P ops Q (o :: rest) a w := by
  refine wpList_step fun K hK => ?_
  rw [if_pos hgd]
  subst hty
  unfold Oper.wp
  simp [execOp, ho, resolve, invoke, builtin, hs, hx, hrun, Result.andThen]
  exact hK _ _ h
theorem step_copy_run {P : Program} {w w' : World} {t : TypeId} {va vx v' : Value} {ty : TypeId} (hrun : (Builtin.copy_ #[t, t] ty #[va, vx]).run P w = .ok v' w')
    {ops : Array Oper} {o : Oper} {a : Act} {K : Act → World → Prop} {Q : Exit → Act → World → Prop} {E : Prop} (s x : Operand) (hgd : Region.wanted o (yielded ops a.tmps) = true)
    (ho : o.op = .call { callee := .builtin .copy, args := #[s, x], argTypes := #[t, t] }) (hty : o.type = ty) (hs : a.eval s = va) (hx : a.eval x = vx)
    (h : K (a.put o.dst v') w') : if Region.wanted o (yielded ops a.tmps) = true then Oper.wp P o a w K Q else E := by
  rw [if_pos hgd]
  subst hty
  unfold Oper.wp
  simp [execOp, ho, resolve, invoke, builtin, hs, hx, hrun, Result.andThen]
  exact h
theorem wpList_app2 {P : Program} {w w' : World} {t t2 : TypeId} {va vx v' : Value} {ty : TypeId} (hrun : (Builtin.append_ #[t, t2] ty #[va, vx]).run P w = .ok v' w')
    {ops : Array Oper} {rest : List Oper} {o : Oper} {a : Act} {Q : Exit → Act → World → Prop} (s x : Operand) (hgd : Region.wanted o (yielded ops a.tmps) = true)
    (ho : o.op = .call { callee := .builtin .append, args := #[s, x], argTypes := #[t, t2] }) (hty : o.type = ty) (hs : a.eval s = va) (hx : a.eval x = vx)
    (h : wpList P ops Q rest (a.put o.dst v') w') : wpList P ops Q (o :: rest) a w := by
  refine wpList_step fun K hK => ?_
  rw [if_pos hgd]
  subst hty
  unfold Oper.wp
  simp [execOp, ho, resolve, invoke, builtin, hs, hx, hrun, Result.andThen]
  exact hK _ _ h

theorem bk_setRow {w : World} {g : Nat} {cur : Array Value} {t : TypeId} (h : BK w g cur t) (A : Array Value) : BK (w.setRow g A) g A t := setRow_heap w g cur A t _ h
theorem bk_setRow_other {w : World} {g b : Nat} {vs : Array Value} {t : TypeId} (h : BK w b vs t) (A : Array Value) (hne : b ≠ g) : BK (w.setRow g A) b vs t := (setRow_other w g b A hne).trans h
theorem below_setRow {n : Nat} {a w : World} (h : Below n a w) {g : Nat} (hg : n ≤ g) (A : Array Value) : Below n a (w.setRow g A) :=
  h.trans ⟨rfl, rfl, rfl, by simp, fun k hk => setRow_other w g k A (by omega)⟩

theorem list_parts {α : Type} (A B C : List α) (k : Nat) (h : A.length = k) : (A ++ B ++ C).take k = A ∧ (A ++ B ++ C).drop k = B ++ C := by
  subst h; simp [List.append_assoc]
theorem drop_parts {α : Type} (A B C : List α) (k : Nat) (h : A.length + B.length = k) : (A ++ B ++ C).drop k = C := by
  subst h; rw [List.append_assoc, List.drop_append, ← List.drop_drop]; simp
/-- What stands in the cells, when there was room. -/
theorem room_cells {cur : List Value} {S : List (Int × Int)} {c i : Nat} (x : Int × Int) (hs : cur.length = c * 2) (ht : cur.take (S.length * 2) = ccells S) (hi : i < S.length) (hc : S.length + 1 ≤ c) :
    ∀ A1 A2, A1 = cur.take ((i + 1) * 2) ++ ccells (S.drop i) ++ cur.drop ((i + 1) * 2 + (S.drop i).length * 2) → A2 = A1.take (i * 2) ++ ccells [x] ++ A1.drop (i * 2 + 1 * 2) →
      A1.length = c * 2 ∧ A2.length = c * 2 ∧ A2.take ((S.length + 1) * 2) = ccells (S.take i ++ x :: S.drop i) := by
  intro A1 A2 h1 h2
  have hd : (S.drop i).length = S.length - i := List.length_drop
  have l1 : A1.length = c * 2 := by rw [h1]; simp only [List.length_append, List.length_take, List.length_drop, ccells_length]; omega
  have l2 : A2.length = c * 2 := by rw [h2]; simp only [List.length_append, List.length_take, List.length_drop, ccells_length, l1, List.length_singleton]; omega
  refine ⟨l1, l2, ?_⟩
  have e1 : A1.take (i * 2) = ccells (S.take i) := by
    rw [h1, List.append_assoc, List.take_append_of_le_length (by rw [List.length_take]; omega), List.take_take, ← ccells_take, ← ht, List.take_take]
    congr 1
    omega
  have e2 : A1.drop (i * 2 + 1 * 2) = ccells (S.drop i) ++ cur.drop ((i + 1) * 2 + (S.drop i).length * 2) := by
    rw [h1, show i * 2 + 1 * 2 = (i + 1) * 2 by omega]
    exact (list_parts _ _ _ _ (by rw [List.length_take]; omega)).2
  rw [h2, e1, e2, show x :: S.drop i = [x] ++ S.drop i from rfl, ccells_append, ccells_append, ← List.append_assoc, ← List.append_assoc]
  refine List.take_left' ?_
  simp only [List.length_append, ccells_length, List.length_take, List.length_drop, List.length_singleton]
  omega
/-- What stands in the cells of a new block. -/
theorem grow_cells {S : List (Int × Int)} {R G i : Nat} (x : Int × Int) (hi : i < S.length) (Z Z' : List Value) (hZ : Z.length = (S.length + 1 - i) * 2) (hZ' : Z'.length = (G - (S.length + 1)) * 2) (hG : S.length + 1 ≤ G) :
    ∀ R0 R1 R2, R0 = ccells (S.take i) ++ Z ++ Z' → R1 = R0.take (i * 2) ++ ccells [x] ++ R0.drop (i * 2 + 1 * 2) → R2 = R1.take ((i + 1) * 2) ++ ccells (S.drop i) ++ R1.drop ((i + 1) * 2 + (S.drop i).length * 2) →
      R0.length = G * 2 ∧ R1.length = G * 2 ∧ R2.length = G * 2 ∧ R2.take ((S.length + 1) * 2) = ccells (S.take i ++ x :: S.drop i) := by
  intro R0 R1 R2 h0 h1 h2
  have hd : (S.drop i).length = S.length - i := List.length_drop
  have ht : (S.take i).length = i := by rw [List.length_take]; omega
  have l0 : R0.length = G * 2 := by rw [h0]; simp only [List.length_append, ccells_length, ht, hZ, hZ']; omega
  have l1 : R1.length = G * 2 := by rw [h1]; simp only [List.length_append, List.length_take, List.length_drop, ccells_length, l0, List.length_singleton]; omega
  have l2 : R2.length = G * 2 := by rw [h2]; simp only [List.length_append, List.length_take, List.length_drop, ccells_length, l1]; omega
  refine ⟨l0, l1, l2, ?_⟩
  have e1 : R0.take (i * 2) = ccells (S.take i) := by rw [h0]; exact (list_parts _ _ _ _ (by rw [ccells_length, ht])).1
  have e2 : R1.take ((i + 1) * 2) = ccells (S.take i) ++ ccells [x] := by
    rw [h1, e1]
    refine List.take_left' ?_
    simp only [List.length_append, ccells_length, ht, List.length_singleton]; omega
  rw [h2, e2, show x :: S.drop i = [x] ++ S.drop i from rfl, ccells_append, ccells_append, ← List.append_assoc]
  refine List.take_left' ?_
  simp only [List.length_append, ccells_length, ht, hd, List.length_singleton]
  omega

end Go.Proofs.Ytcenipihbmifpaa
