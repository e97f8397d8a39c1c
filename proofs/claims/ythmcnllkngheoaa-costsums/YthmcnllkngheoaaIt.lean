/- Proved here: the iterator of package cost that tells what each contract of a slice costs. Conditions: as each theorem states them. -/
import Derived.RangeFuncNested
import Derived.RangeFuncBound
import Derived.RangeFuncCalls
import Derived.RangeFuncLeaves
import Derived.RangeFuncBox
import Derived.Shelf.Abstract
import Derived.Shelf.RegionOpen
import Derived.WalkKit
import Derived.OwnWalkIn
import Derived.TacticsInMore
import Derived.LoopNIn
import Derived.LoopIn
import Derived.Test.YthmcnllkngheoaaNd
import Derived.Test.YthmcnllkngheoaaCs
namespace Go.Proofs.Ythmcnllkngheoaa
set_option linter.unusedSimpArgs false
set_option linter.unusedVariables false
open Go.RowKit Go.Shelf
attribute [local go_sem] Oper.semAt_some

/-- What a round keeps: what lies below block s, and block s + 1. -/
structure Kp (s : Nat) (W W' : World) : Prop where
  size : W.heap.size ≤ W'.heap.size
  low : ∀ k, k < s → W'.heap[k]? = W.heap[k]?
  box : W'.heap[s + 1]? = W.heap[s + 1]?
theorem Kp.trans {s : Nat} {A B C : World} (h : Kp s A B) (k : Kp s B C) : Kp s A C := ⟨Nat.le_trans h.size k.size, fun j hj => (k.low j hj).trans (h.low j hj), k.box.trans h.box⟩
theorem Kp.refl (s : Nat) (W : World) : Kp s W W := ⟨Nat.le_refl _, fun _ _ => rfl, rfl⟩
theorem Kp.put {s n : Nat} (hs : s + 1 < n) (W : World) (l : Nat) (o o' : Obj) (hl : n ≤ l) (_ : W.heap[l]? = some o) (_ : o.isCells = false) (_ : o.isWalk = false) : Kp s W (W.putObj l o') :=
  ⟨by simp, fun k hk => World.putObj_heap_other (by omega), World.putObj_heap_other (by omega)⟩
theorem Kp.of {s n : Nat} {A B : World} (h : Below n A B) (hs : s + 1 < n) : Kp s A B := ⟨h.size, fun k hk => h.block k (by omega), h.block _ hs⟩
theorem Kp.set {s : Nat} (W : World) (v : Value) : Kp s W (W.setCell ⟨s, 0, none⟩ v) :=
  ⟨by simp [World.setCell], fun k hk => Below.heap_setCell _ _ _ _ (by show k ≠ s; omega), Below.heap_setCell _ _ _ _ (by show s + 1 ≠ s; omega)⟩

/-- What a round is told: a cost. -/
abbrev Ct := { x : Int // 0 ≤ x ∧ x ≤ 1048576 }
abbrev encC (x : Ct) : Array Value := #[.int .i64 x.1]
def ctC (x : C6) : Ct := ⟨costC x, costC_bounds x⟩

theorem grown_below {n : Nat} {A B : World} (h : Below n A B) (hn : A.heap.size ≤ n) : A.grownBy B none := ⟨h.os, h.tape, h.output, h.size, fun k hk _ => h.block k (by omega)⟩

set_option maxRecDepth 100000 in
set_option maxHeartbeats 4000000 in
theorem needs1_in (n : Nat) (hn : 1 ≤ n) (l s : Nat) (a : Option Addr) (len c : Nat) (L : List C6) (hlen : L.length ≤ 1000) (W : World) (J Jx : List Ct → World → Prop) (hJ : AbidesFrom W.heap.size J)
    (hY : ∀ pre x W, J pre W → pre.length < L.length → YieldAt Fence.wide (n - 1) Try.prog l (encC x) W fun e W' =>
      (e = .returned (.bool true) ∧ J (pre ++ [x]) W' ∧ Kp s W W') ∨ (e = .returned (.bool false) ∧ Jx (pre ++ [x]) W'))
    (hB : W.cell? ⟨s + 1, 0, none⟩ = some (.slice a len c)) (hI : IsT s W a len c L) (hs : s + 1 < W.heap.size) (h0 : J [] W) :
    CallsIn Fence.wide n Try.prog 25 #[.func (.yield l) #[] #[], .pointer (some ⟨s + 1, 0, none⟩)] W fun e W' => (∃ v, e = .returned v) ∧
      ((∃ ys, ys = L.map ctC ∧ J ys W') ∨ (∃ pre, True ∧ Jx pre W')) := by
  have HY : Hid (∀ pre x W, J pre W → pre.length < L.length → YieldAt Fence.wide (n - 1) Try.prog l (encC x) W fun e W' =>
      (e = .returned (.bool true) ∧ J (pre ++ [x]) W' ∧ Kp s W W') ∨ (e = .returned (.bool false) ∧ Jx (pre ++ [x]) W')) := hY
  have HJ : Hid (AbidesFrom W.heap.size J) := hJ
  have hl := hI.1
  clear hY hJ
  refine callsIn_of_wp Try.func25 rfl trivial ?_ rfl
  simp only [Try.ntmps25, List.size_toArray, List.length_cons, List.length_nil, Nat.reduceAdd, Nat.reduceSub, Array.replicate_succ, Array.replicate_zero, List.push_toArray, List.append_toArray, List.nil_append, List.cons_append]
  subst hl
  gi_wp2
  gi_loopw [7] (fun i wr => ∃ (k : Nat), k ≤ L.length ∧ i = .int .i64 k ∧ J ((L.take k).map ctC) wr ∧ Kp s W wr)
    (fun i _ => L.length - (intOf i).toNat)
  case atStart => exact ⟨0, Nat.zero_le _, rfl, by simpa using h0, Kp.refl _ _⟩
  case round =>
    obtain ⟨k, hk, rfl, hJs, hkp⟩ := hrel
    by_cases hlt : k < L.length
    · obtain ⟨b, off, x, ha, hb, hx, hc⟩ := hI.at hlt
      obtain ⟨c0, c1, c2, c3, c4, c5⟩ := hc wr (hkp.low b hb)
      have HYS : Hid ((L.take k).map ctC ++ [ctC x] = (L.take (k + 1)).map ctC) := by
        show _ = _
        rw [List.take_add_one, hx, List.map_append]; rfl
      have hlen2 : Hid (((L.take k).map ctC).length < L.length) := by show _ < _; rw [List.length_map, List.length_take]; omega
      subst ha
      obtain ⟨xk, xp, xe, xw, xb, xl⟩ := x
      simp only at c0 c1 c2 c3 c4 c5
      clear hc hI hx
      have HK : Hid (Kp s W wr) := hkp
      have hsr : s + 1 < wr.heap.size := Nat.lt_of_lt_of_le hs hkp.size
      have HJS : Hid (∀ w1, Below wr.heap.size wr w1 → J ((L.take k).map ctC) w1) := fun w1 b1 => HJ.out _ wr w1 none hJs (grown_below b1 (Nat.le_refl _)) (fun r e => by cases e)
      clear hkp hJs h0 hB
      gi_wp2_with (refine ⟨trivial, ?_⟩; gi_at_call 11; refine (callsIn_wide.2 (need_calls xk xp xe xw xb xl _)).mono ?_; rintro e1 w1 ⟨rfl, b1⟩; have b2 := below_box2 b1; obtain ⟨fn, tmps, assign, body, hy, hR⟩ := HY.out _ (ctC ⟨xk, xp, xe, xw, xb, xl⟩) w1 (HJS.out w1 b2) hlen2.out; simp only [encC, ctC, costC] at hy hR)
      refine hR.mono ?_
      rintro e3 W3 (⟨rfl, hJ3, hk3⟩ | ⟨rfl, hJx3⟩)
      · have HK3 : Hid (Kp s W W3) := (HK.out.trans (Kp.of b2 hsr)).trans hk3
        replace hJ3 : J ((L.take (k + 1)).map ctC) W3 := by rw [← HYS.out]; exact hJ3
        clear hk3 HK b1 b2 hR hy
        gi_wp2
        go_roundw
        case rel => exact ⟨k + 1, by omega, by go_num, hJ3, HK3.out⟩
        case measure => simp [intOf]; omega
      · gi_wp2
        refine bodyPost_ret (results_none rfl _ _ _) rfl ?_
        exact ⟨⟨_, rfl⟩, .inr ⟨_, trivial, hJx3⟩⟩
    · obtain rfl : k = L.length := by omega
      gi_wp2
      go_end0
      exact ⟨⟨_, rfl⟩, .inl ⟨_, rfl, by simpa using hJs⟩⟩

theorem needs_stops (n : Nat) (hn : 1 ≤ n) (s : Nat) (a : Option Addr) (len c : Nat) (L : List C6) (hlen : L.length ≤ 1000) (w : World) (hs : s + 1 < w.heap.size) (hB : w.cell? ⟨s + 1, 0, none⟩ = some (.slice a len c)) (hI : IsT s w a len c L) :
    SeqStopsK Fence.wide n Try.prog 25 #[.pointer (some ⟨s + 1, 0, none⟩)] encC (Kp s) (fun ys => ys = L.map ctC) (fun _ => True) L.length w := fun l J Jx W hW hJ _ hY h0 =>
  needs1_in n hn l s a len c L hlen W J Jx hJ hY ((hW.cell (p := ⟨s + 1, 0, none⟩) hs).trans hB) (hI.below hW (by omega)) (Nat.lt_of_lt_of_le hs hW.size) h0

set_option maxHeartbeats 1000000 in
theorem needs_in (n : Nat) (a : Option Addr) (len c : Nat) (w : World) :
    CallsIn Fence.wide n Try.prog 23 #[.slice a len c] w fun e w' => e = .returned (.func (.func 25) #[] #[.pointer (some ⟨w.heap.size, 0, none⟩)]) ∧ w' = w.alloc (.cells #[.slice a len c] 32) := by
  refine callsIn_of_wp Try.func23 rfl trivial ?_ rfl
  simp only [Try.ntmps23, List.size_toArray, List.length_cons, List.length_nil, Nat.reduceAdd, Nat.reduceSub, Array.replicate_succ, Array.replicate_zero, List.push_toArray, List.append_toArray, List.nil_append, List.cons_append]
  gi_wp2
  go_ret
  exact ⟨rfl, rfl⟩
end Go.Proofs.Ythmcnllkngheoaa
