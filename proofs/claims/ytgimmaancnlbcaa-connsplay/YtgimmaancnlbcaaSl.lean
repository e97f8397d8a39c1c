/- Proved here: how slots of a table are sliced, and copied within it. Conditions: as each theorem states them. -/
import Derived.Test.YtgimmaancnlbcaaNw
namespace Go.Proofs.Ytgimmaancnlbcaa
set_option linter.unusedSimpArgs false
set_option linter.unusedVariables false
open Go.RowKit Go.Shelf

theorem run_slot_l (w : World) (b : Nat) (z : Int) (i : Nat) (hz : z = (i : Int)) (hi : i ≤ 64) :
    (Instr.sliceAt 60 (.pointer (some ⟨b, 0, none⟩)) (some (.int .i64 z)) none none).run Try.prog w = .ok (.slice (some ⟨b, if i = 64 then 0 else i * 4, none⟩) (64 - i) (64 - i)) w := by
  subst hz
  have hn : Try.prog.arrayLen 60 = 64 := by kernel_rfl
  have he : Try.prog.elem 60 = 59 := by kernel_rfl
  have hu : Try.prog.underlying 60 = some (.array (Try.prog.arrayLen 60) (Try.prog.elem 60)) := by kernel_rfl
  have hs : ∀ w, (sizeOf 59).run Try.prog w = .ok 4 w := fun _ => by kernel_rfl
  rw [run_sliceAt_array_l w _ _ hu .i64 _ (by omega) (by rw [hn]; omega), he, hs, hn]
  simp only [Result.andThen_ok, Int.toNat_natCast, slicedAt]
  by_cases h : i = 64
  · subst h; simp
  · have h' : ¬ (64 = i) := by omega
    rw [if_neg h', if_neg h, Addr.add_lit, Nat.zero_add]
theorem run_slot_lh (w : World) (b : Nat) (z y : Int) (i j : Nat) (hz : z = (i : Int)) (hy : y = (j : Int)) (hij : i ≤ j) (hj : j ≤ 64) :
    (Instr.sliceAt 60 (.pointer (some ⟨b, 0, none⟩)) (some (.int .i64 z)) (some (.int .i64 y)) none).run Try.prog w = .ok (.slice (some ⟨b, if i = 64 then 0 else i * 4, none⟩) (j - i) (64 - i)) w := by
  subst hz hy
  have hn : Try.prog.arrayLen 60 = 64 := by kernel_rfl
  have he : Try.prog.elem 60 = 59 := by kernel_rfl
  have hu : Try.prog.underlying 60 = some (.array (Try.prog.arrayLen 60) (Try.prog.elem 60)) := by kernel_rfl
  have hs : ∀ w, (sizeOf 59).run Try.prog w = .ok 4 w := fun _ => by kernel_rfl
  rw [run_sliceAt_array_lh w _ _ hu .i64 .i64 _ _ (by omega) (by omega) (by rw [hn]; omega), he, hs, hn]
  simp only [Result.andThen_ok, Int.toNat_natCast, slicedAt]
  by_cases h : i = 64
  · subst h; simp
  · have h' : ¬ (64 = i) := by omega
    rw [if_neg h', if_neg h, Addr.add_lit, Nat.zero_add]
theorem run_slot_h (w : World) (b : Nat) (y : Int) (j : Nat) (hy : y = (j : Int)) (hj : j ≤ 64) :
    (Instr.sliceAt 60 (.pointer (some ⟨b, 0, none⟩)) none (some (.int .i64 y)) none).run Try.prog w = .ok (.slice (some ⟨b, 0, none⟩) j 64) w := by
  subst hy
  have hn : Try.prog.arrayLen 60 = 64 := by kernel_rfl
  have he : Try.prog.elem 60 = 59 := by kernel_rfl
  have hu : Try.prog.underlying 60 = some (.array (Try.prog.arrayLen 60) (Try.prog.elem 60)) := by kernel_rfl
  have hs : ∀ w, (sizeOf 59).run Try.prog w = .ok 4 w := fun _ => by kernel_rfl
  rw [run_sliceAt_array_h w _ _ hu .i64 _ (by omega) (by rw [hn]; omega), he, hs, hn]
  simp [slicedAt, Addr.add]

theorem step_copy_run {P : Program} {w w' : World} {t : TypeId} {va vx v' : Value} {ty : TypeId} (hrun : (Builtin.copy_ #[t, t] ty #[va, vx]).run P w = .ok v' w')
    {ops : Array Oper} {o : Oper} {a : Act} {K : Act → World → Prop} {Q : Exit → Act → World → Prop} {E : Prop} (s x : Operand) (hgd : Region.wanted o (yielded ops a.tmps) = true)
    (ho : o.op = .call { callee := .builtin .copy, args := #[s, x], argTypes := #[t, t] }) (hty : o.type = ty) (hs : a.eval s = va) (hx : a.eval x = vx)
    (h : K (a.put o.dst v') w') : if Region.wanted o (yielded ops a.tmps) = true then Oper.wp P o a w K Q else E := by
  rw [if_pos hgd]
  subst hty
  unfold Oper.wp
  simp [execOp, ho, resolve, invoke, builtin, hs, hx, hrun, Result.andThen]
  exact h
theorem bk_setRow {w : World} {g : Nat} {cur : Array Value} {t : TypeId} (h : BK w g cur t) (A : Array Value) : BK (w.setRow g A) g A t := setRow_heap w g cur A t _ h
theorem bk_setRow_other {w : World} {g b : Nat} {vs : Array Value} {t : TypeId} (h : BK w b vs t) (A : Array Value) (hne : b ≠ g) : BK (w.setRow g A) b vs t := (setRow_other w g b A hne).trans h
theorem but_setRow {n r : Nat} {a w : World} (h : But r n a w) (A : Array Value) : But r n a (w.setRow r A) :=
  h.trans ⟨rfl, rfl, rfl, by simp, fun k _ hk => setRow_other w r k A hk⟩
theorem cell_setRow {w : World} {g : Nat} {A : Array Value} {cur : Array Value} {t : TypeId} (h : BK w g cur t) {k : Nat} {v : Value} (hv : A[k]? = some v) : (w.setRow g A).cell? ⟨g, k, none⟩ = some v := (bk_setRow h A).cell k v hv

/-- n slots copied from the place s on to the place d on. -/
theorem copy_slots {W : World} {b : Nat} {S : List En} (hS : S.length = 64) {m r : Int} (hW : BK W b (tabV S m r) 62) (ty : TypeId) (d s n dL dc sL sc o o' : Nat)
    (ho : o = if d = 64 then 0 else d * 4) (ho' : o' = if s = 64 then 0 else s * 4) (hn : n = Nat.min sL dL) (hd : d + n ≤ 64) (hs : s + n ≤ 64) :
    (Builtin.copy_ #[63, 63] ty #[.slice (some ⟨b, o, none⟩) dL dc, .slice (some ⟨b, o', none⟩) sL sc]).run Try.prog W = .ok (goInt n) (W.setRow b (tabV (S.take d ++ (S.drop s).take n ++ S.drop (d + n)) m r)) := by
  have hM : ((S.drop s).take n).length = n := by rw [List.length_take, List.length_drop]; omega
  by_cases hz : n = 0
  · subst hz
    have ho4 : o ≤ 256 := by rw [ho]; split <;> omega
    have h0 := run_copy_e Try.underlying63 info_slot W ty b o dL dc ⟨b, o', none⟩ sL sc _ _ [] hW (by simpa using hn) (fun j v hj => by rw [ecells_nil] at hj; simp at hj) (by rw [List.length_nil, tabV_size]; omega)
    have e1 : (S.take d ++ (S.drop s).take 0 ++ S.drop (d + 0)) = S := by simp
    have e2 : ((tabV S m r).toList.take o ++ ecells [] ++ (tabV S m r).toList.drop (o + ([] : List En).length * 4)).toArray = tabV S m r := by simp [ecells_nil]
    rw [e1]
    rw [e2] at h0
    exact h0
  · have e1 : ¬ d = 64 := by omega
    have e2 : ¬ s = 64 := by omega
    rw [if_neg e1] at ho
    rw [if_neg e2] at ho'
    subst ho ho'
    have h0 := run_copy_e Try.underlying63 info_slot W ty b (d * 4) dL dc ⟨b, s * 4, none⟩ sL sc _ _ ((S.drop s).take n) hW (by rw [hM]; exact hn) (fun j v hj => ?_) (by rw [hM, tabV_size]; omega)
    · rw [tabV_copy m r (by rw [hM]; omega), hM] at h0
      exact h0
    · rw [Addr.add_lit]
      refine hW.cell _ _ ?_
      have hj4 : j < (ecells ((S.drop s).take n)).length := (List.getElem?_eq_some_iff.1 hj).1
      rw [ecells_length, hM] at hj4
      rw [← ecells_take, ← ecells_drop, List.getElem?_take_of_lt (by omega), List.getElem?_drop] at hj
      simp only [tabV, List.getElem?_toArray]
      rw [List.getElem?_append_left (by rw [ecells_length]; omega)]
      exact hj
end Go.Proofs.Ytgimmaancnlbcaa
