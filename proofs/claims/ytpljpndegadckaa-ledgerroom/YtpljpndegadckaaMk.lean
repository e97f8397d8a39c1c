/- Proved here: a map from numbers to numbers, beside bookings in order. Conditions: as each theorem states them. -/
import Derived.Maps.OwnSet
import Derived.Lib.SlKeysI
import Derived.Test.YtpljpndegadckaaBut
import Derived.Test.YtpljpndegadckaaPl
namespace Go.Proofs.Ytpljpndegadckaa
set_option linter.unusedSimpArgs false
set_option linter.unusedVariables false
open Go.RowKit Go.Shelf
open Go.Maps (Keyed)

/-- A number that an int can be. -/
def okI (z : Int) : Prop := (Lit.int .i64 z).wf = true
theorem okI_iff (z : Int) : okI z ↔ -9223372036854775808 ≤ z ∧ z ≤ 9223372036854775807 := by
  unfold okI
  simp [Lit.wf, IntKind.min, IntKind.max, IntKind.bits, IntKind.signed]
theorem mkeyed : Keyed Try.prog 3 := Go.Maps.int_keyed Try.underlying3
abbrev kl (k : Int) : Lit := .int .i64 k
theorem keyOf_k {k : Int} (h : okI k) : keyOf Try.prog 3 (.int .i64 k) = some (kl k) := Go.Maps.keyOf_int_mk Try.underlying3 h

/-- The map beside the bookings. -/
def MR (D : DataW Unit) (L : List En) : Prop := ∀ k, D.atKey (kl k) (.lit (.int .i64 0)) = .lit (.int .i64 (getN L k)) ∧ Maps.has D (kl k) = getB L k
theorem mr_nil : MR (.map []) [] := fun _ => ⟨rfl, rfl⟩
theorem kl_ne {a b : Int} (h : a ≠ b) : kl b ≠ kl a := fun e => h (by cases e; rfl)
theorem MR.put {D : DataW Unit} {L : List En} (h : MR D L) (ht : Maps.Tidy D) {k n : Int} (hk : okI k) : MR (D.put (kl k) (.lit (.int .i64 n))) (put L k n) := fun q => by
  have hkl := mkeyed.key (keyOf_k hk)
  have hl := look_put L k n q
  by_cases e : k = q
  · subst e
    rw [if_pos rfl] at hl
    rw [Maps.atKey_put_same ht.isMap hkl, Maps.has_put_same ht.isMap hkl]
    unfold getN getB
    rw [hl]
    exact ⟨rfl, rfl⟩
  · rw [if_neg e] at hl
    rw [Maps.atKey_put_other (kl_ne e), Maps.has_put_other (kl_ne e)]
    unfold getN getB
    rw [hl]
    exact h q
theorem MR.del {D : DataW Unit} {L : List En} (h : MR D L) (k : Int) : MR (D.del (kl k)) (del L k) := fun q => by
  have hl := look_del L k q
  by_cases e : k = q
  · subst e
    rw [if_pos rfl] at hl
    rw [Maps.atKey_del_same, Maps.has_del_same]
    unfold getN getB
    rw [hl]
    exact ⟨rfl, rfl⟩
  · rw [if_neg e] at hl
    rw [Maps.atKey_del_other (kl_ne e), Maps.has_del_other (kl_ne e)]
    unfold getN getB
    rw [hl]
    exact h q

theorem mzero (w : World) : (zeroValue 3).run Try.prog w = .ok (.int .i64 0) w := by kernel_rfl
/-- A map in a block. -/
abbrev MB (w : World) (b n : Nat) (D : DataW Unit) : Prop := w.ownsMap Try.prog 3 (plainElem Try.prog 3) b n D
theorem look_run {w : World} {b n : Nat} {D : DataW Unit} {L : List En} (h : MB w b n D) (hr : MR D L) {k : Int} (hk : okI k) :
    (Instr.lookup 54 (.map (some b)) (.int .i64 k) true).run Try.prog w = .ok (.tuple #[.int .i64 (getN L k), .bool (getB L k)]) w := by
  obtain ⟨v, ps, hrun, hv⟩ := h.look_ok mkeyed Try.underlying54 (mzero w) (plainElem_int Try.underlying3 (by decide)) (keyOf_k hk)
  obtain ⟨c, rfl, hc, _⟩ := plainElem_int_inv Try.underlying3 hv
  obtain ⟨h1, h2⟩ := hr k
  have hc1 := congrArg Prod.fst hc
  rw [h1] at hc1
  simp at hc1
  rw [hrun, h2, hc1]
theorem at_run {w : World} {b n : Nat} {D : DataW Unit} {L : List En} (h : MB w b n D) (hr : MR D L) {k : Int} (hk : okI k) :
    (Instr.lookup 54 (.map (some b)) (.int .i64 k) false).run Try.prog w = .ok (.int .i64 (getN L k)) w := by
  obtain ⟨c, hrun, hat, _⟩ := h.lookup_int mkeyed Try.underlying54 Try.underlying3 (mzero w) (keyOf_k hk)
  rw [(hr k).1] at hat
  simp at hat
  rw [hrun, hat]
theorem map_same {w w' : World} {b n : Nat} {D : DataW Unit} (h : MB w b n D) (hb : w'.heap[b]? = w.heap[b]?) : MB w' b n D := by
  obtain ⟨es, c, h1, h2⟩ := h
  exact ⟨es, c, hb.trans h1, h2⟩
/-- Its numbers, in whatever order, are the bookings'. -/
theorem keys_perm {w : World} {b n : Nat} {D : DataW Unit} {L : List En} (h : MB w b n D) (hr : MR D L) (hs : Srt L) : (L.map (·.1)).Perm (intKeys D) := by
  refine CollectedI.perm (left := fun _ => false) ⟨?_, fun x => ?_⟩ h mkeyed Try.underlying3 (fun _ => rfl)
  · exact List.pairwise_map.2 (hs.imp fun {x y} h e => by omega)
  · rw [(hr x).2, ← getB_mem]; simp
theorem keys_sort {L : List En} {ss : List Int} (hs : Srt L) (hp : ss.Perm (L.map (·.1))) : ss.mergeSort (fun x y => decide (x ≤ y)) = L.map (·.1) := by
  rw [show ss.mergeSort (fun x y => decide (x ≤ y)) = (L.map (·.1)).mergeSort (fun x y => decide (x ≤ y)) from mergeSort_of_perm_i hp]
  exact List.mergeSort_of_pairwise (List.pairwise_map.2 (hs.imp fun {x y} h => by simp; omega))
theorem keys_ok {w : World} {b n : Nat} {D : DataW Unit} {L : List En} (h : MB w b n D) (hr : MR D L) (hs : Srt L) {x : En} (hx : x ∈ L) : okI x.1 :=
  intKeys_wf h Try.underlying3 x.1 ((keys_perm h hr hs).mem_iff.1 (List.mem_map_of_mem hx))
end Go.Proofs.Ytpljpndegadckaa
