/- Proved here: slices.Grow at slices of bytes of one's own. Conditions: as each theorem states them. -/
import Derived.Deep.AppendSrc
import Derived.Lib.AppendZerosOnto
import Derived.Test.YtfmicnjijcmjaaaGV
namespace Go.Proofs.Ytfmicnjijcmjaaa
set_option linter.unusedSimpArgs false
set_option linter.unusedVariables false
open Go.RowKit

/-- An append of a make whose run is known, as a law for the walk. -/
theorem wpList_apm {P : Program} {w w' : World} {t t2 : TypeId} {va vx v' : Value} {ty : TypeId} (hrun : (Builtin.append_ #[t, t2] ty #[va, vx]).run P w = .ok v' w')
    {ops : Array Oper} {rest : List Oper} {o : Oper} {a : Act} {Q : Exit → Act → World → Prop} (s x : Operand) (hgd : Region.wanted o (yielded ops a.tmps) = true)
    (ho : o.op = .call { callee := .builtin .append, args := #[s, x], argTypes := #[t, t2] }) (hty : o.type = ty) (hs : a.eval s = va) (hx : a.eval x = vx)
    (h : wpList P ops Q rest (a.put o.dst v') w') : wpList P ops Q (o :: rest) a w := by
  refine wpList_step fun K hK => ?_
  rw [if_pos hgd]
  subst hty
  unfold Oper.wp
  simp [execOp, ho, resolve, invoke, builtin, hs, hx, hrun, Result.andThen]
  exact hK _ _ h

/-- A slice's own block, with room. -/
structure Room (w : World) (g n c : Nat) (xs : List UInt8) : Prop where
  ex : ∃ cur, BK w g cur 5 ∧ cur.size = c ∧ cur.toList.take n = vals xs
  room : n + 48 ≤ c
  max : c ≤ maxLen
  len : n = xs.length
set_option maxHeartbeats 1000000 in
theorem grow_calls (w : World) (a : Option Addr) (n c : Nat) (xs : List UInt8) (h : OwnB 0 w a n c xs) (hn : n ≤ 2000) :
    Calls Try.prog 31 #[.slice a n c, .int .i64 48] w fun e w' => ∃ g c', e = .returned (.slice (some ⟨g, 0, none⟩) n c') ∧ Room w' g n c' xs ∧ (a = some ⟨g, 0, none⟩ ∨ w.heap.size ≤ g) ∧ Below w.heap.size w w' := by
  obtain ⟨i0, hi, hz0, hz1, hz2⟩ := info_parts info5
  obtain ⟨hxs, hl, h⟩ := h
  by_cases hr : n + 48 ≤ c
  · rcases h with ⟨e, h0⟩ | ⟨g, cap, cur, e, _, hh, hc, hm, hsz, ht⟩
    · cases e; omega
    · cases e
      have hR : Room w g n c xs := ⟨⟨cur, hh, by simpa using hsz, by simpa using ht⟩, hr, hm, hxs⟩
      have h2 : wrap64 ((c : Int) - (n : Int)) = (c : Int) - (n : Int) := by unfold maxLen at hm; unfold wrap64; omega
      have h3 : wrap64 (48 - ((c : Int) - (n : Int))) = 48 - ((c : Int) - (n : Int)) := by unfold maxLen at hm; unfold wrap64; omega
      have h4 : decide ((0 : Int) < 48 - ((c : Int) - (n : Int))) = false := by simp; omega
      clear hm hsz ht hh hxs hl
      go_enter Try.func31, Try.ntmps31
      go_wp2
      go_ret
      exact ⟨g, c, rfl, hR, .inl rfl, Below.refl _ _⟩
  · have hc5 : c ≤ 4000 := by omega
    have hGn : n + 48 ≤ grownCap w (n + 48) c 5 := grownCap_ge w _ _ _
    have hGm : grownCap w (n + 48) c 5 ≤ maxLen := grownCap_le_maxLen w (n + 48) c 5 (by unfold maxLen; omega)
    obtain ⟨G, hG⟩ : ∃ G, grownCap w (n + 48) c 5 = G := ⟨_, rfl⟩
    rw [hG] at hGn hGm
    have key : ∃ w', (Builtin.append_ #[32, 3] 32 #[.slice a c c, .int .i64 (48 - ((c : Int) - (n : Int)))]).run Try.prog w = .ok (.slice (some ⟨w.heap.size, 0, none⟩) (n + 48) G) w' ∧ Room w' w.heap.size n G xs ∧ Below w.heap.size w w' := by
      rcases h with ⟨e, h0⟩ | ⟨g, cap, cur, e, _, hh, hc, hm, hsz, ht⟩
      · cases e
        have hr := Lib.run_append_nil_zeros w 32 3 32 5 i0 (.int .u8 0) .i64 .i64 Try.underlying32 Try.underlying3 hi hz0 48 (by omega) (by omega) (by omega) (by omega)
        rw [Nat.zero_add] at hG
        rw [hG] at hr
        refine ⟨_, hr, ⟨⟨_, World.alloc_heap_new _ _, ?_, ?_⟩, by omega, by omega, hxs⟩, ?_⟩
        · rw [Array.size_append, size_zeroCells, size_zeroCells]
          simp [Value.cells]; omega
        · rw [List.eq_nil_of_length_eq_zero hxs.symm]; simp [vals]
        · exact ((Below.refl w.heap.size w).drew).alloc (Nat.le_refl _) _
      · cases e
        have hold : (Builtin.firstCells i0.size c (.slice (some ⟨g, 0, none⟩) c c)).run Try.prog w.drew = .ok cur.toList.toArray w.drew :=
          run_firstCells_some w.drew i0.size c ⟨g, 0, none⟩ c c cur.toList (by rw [hz1]; simp; omega) (fun j v hj => by
            rw [Addr.add_lit, Nat.zero_add]
            exact (show BK w.drew g cur 5 from hh).cell j v (by simpa using hj))
        have hr := Lib.run_append_grow_zeros w 32 3 32 5 i0 (.int .u8 0) .i64 .i64 Try.underlying32 Try.underlying3 hi hz0 (some ⟨g, 0, none⟩) c c cur.toList hold (n + 48 - c) (by omega) (by omega) (by omega) (by omega) (by rw [hz2]; omega) (growslice_fits (by omega) (by rw [hz2]; omega))
        rw [show c + (n + 48 - c) = n + 48 by omega, hG] at hr
        rw [show ((n + 48 - c : Nat) : Int) = 48 - ((c : Int) - (n : Int)) by omega] at hr
        refine ⟨_, hr, ⟨⟨_, World.alloc_heap_new _ _, ?_, ?_⟩, by omega, by omega, hxs⟩, ?_⟩
        · rw [Array.size_append, Array.size_append, size_zeroCells, size_zeroCells]
          simp [Value.cells]; omega
        · rw [Array.toList_append, Array.toList_append, List.append_assoc, List.take_append_of_le_length (by simp; omega)]
          simpa using ht
        · exact ((Below.refl w.heap.size w).drew).alloc (Nat.le_refl _) _
    obtain ⟨w', hrun, hR, hB⟩ := key
    have h2 : wrap64 ((c : Int) - (n : Int)) = (c : Int) - (n : Int) := by unfold wrap64; omega
    have h4 : (c : Int) - (n : Int) < 48 := by omega
    have hnG : n ≤ G := by omega
    have hGm' : G ≤ 9223372036854775807 := by unfold maxLen at hGm; omega
    clear h hxs hl hG hGn hGm hi hz0 hz1 hz2
    go_enter Try.func31, Try.ntmps31
    go_wp2_with (at_builtin; refine wpList_apm hrun _ _ rfl rfl rfl rfl rfl ?_)
    go_ret
    exact ⟨w.heap.size, G, rfl, hR, .inr (Nat.le_refl _), hB⟩
end Go.Proofs.Ytfmicnjijcmjaaa
