/- Proved here: the iterator of package police that tells the rules that a cell asks. Conditions: as each theorem states them. -/
import Derived.RangeFuncNested
import Derived.RangeFuncBound
import Derived.RangeFuncCalls
import Derived.RangeFuncLeaves
import Derived.RangeFuncBox
import Derived.Shelf.Abstract
import Derived.Shelf.RegionOpen
import Derived.WalkKit
import Derived.OwnWalkIn
import Derived.TacticsInMore
import Derived.LoopNIn
import Derived.LoopIn
import Derived.Test.YtlaomjhibaoglaaTake
namespace Go.Proofs.Ytlaomjhibaoglaa
set_option linter.unusedSimpArgs false
set_option linter.unusedVariables false
open Go.RowKit Go.Shelf
attribute [local go_sem] Oper.semAt_some

/-- A rule of a policer: its bucket's block, whether it is of loss priority 0 alone, whether it tags; and what the bucket holds. -/
structure Lim where
  b : Nat
  z : Bool
  g : Bool
  s : Int
  e : Int
  T : Int

/-- A rule, as a value. -/
abbrev limV (b : Nat) (z g : Bool) : Value := .agg #[.iface 55 (.pointer (some ⟨b, 0, none⟩)), .bool z, .bool g]

/-- Rules that lie side by side in block g. -/
def LC (w : World) (g : Nat) (L : List Lim) : Prop := ∀ j x, L[j]? = some x → w.cell? ⟨g, j * 3, none⟩ = some (.iface 55 (.pointer (some ⟨x.b, 0, none⟩))) ∧ w.cell? ⟨g, j * 3 + 1, none⟩ = some (.bool x.z) ∧ w.cell? ⟨g, j * 3 + 1 + 1, none⟩ = some (.bool x.g)

/-- Does a cell of a loss priority ask a rule? Which ones? -/
def asks (c : Int) (x : Lim) : Bool := !x.z || c == 0
def askedL (c : Int) (L : List Lim) : List Lim := L.filter (asks c)
theorem askedL_take {c : Int} {L : List Lim} {k : Nat} {x : Lim} (h : L[k]? = some x) : askedL c (L.take (k + 1)) = if asks c x then askedL c (L.take k) ++ [x] else askedL c (L.take k) := by
  unfold askedL
  rw [List.take_add_one, h, List.filter_append]
  simp only [Option.toList_some, List.filter_cons, List.filter_nil]
  split <;> simp
theorem askedL_len (c : Int) (L : List Lim) (k : Nat) : (askedL c (L.take k)).length ≤ k := by
  unfold askedL
  exact Nat.le_trans (List.length_filter_le _ _) (by simp; omega)

/-- What a round keeps: the rules, and the loss priority. -/
structure Kp (g c : Nat) (W W' : World) : Prop where
  size : W.heap.size ≤ W'.heap.size
  rules : W'.heap[g]? = W.heap[g]?
  clp : W'.heap[c]? = W.heap[c]?
theorem Kp.trans {g c : Nat} {A B C : World} (h : Kp g c A B) (k : Kp g c B C) : Kp g c A C := ⟨Nat.le_trans h.size k.size, k.rules.trans h.rules, k.clp.trans h.clp⟩
theorem Kp.put {g c : Nat} {w : World} (hg : g < w.heap.size) (hc : c < w.heap.size) (W : World) (l : Nat) (o o' : Obj) (hl : w.heap.size ≤ l) (h : W.heap[l]? = some o) (_ : o.isCells = false) (_ : o.isWalk = false) : Kp g c W (W.putObj l o') :=
  ⟨by simp, World.putObj_heap_other (by omega), World.putObj_heap_other (by omega)⟩
theorem Kp.of {g c n : Nat} {A B : World} (h : Below n A B) (hg : g < n) (hc : c < n) : Kp g c A B := ⟨h.size, h.block g hg, h.block c hc⟩
theorem Kp.cellg {g c : Nat} {A B : World} (h : Kp g c A B) (k : Nat) : B.cell? ⟨g, k, none⟩ = A.cell? ⟨g, k, none⟩ := by unfold World.cell?; rw [h.rules]
theorem Kp.cellc {g c : Nat} {A B : World} (h : Kp g c A B) (k : Nat) : B.cell? ⟨c, k, none⟩ = A.cell? ⟨c, k, none⟩ := by unfold World.cell?; rw [h.clp]

set_option maxRecDepth 100000 in
set_option maxHeartbeats 2000000 in
theorem asked1_in (n : Nat) (hn : 1 ≤ n) (l Bp Bc r g cap : Nat) (L : List Lim) (clp : Int) (hlen : L.length ≤ 2) (W : World) (J Jx : List { x : Lim // x ∈ askedL clp L } → World → Prop) (hJ : AbidesFrom W.heap.size J)
    (hY : ∀ pre x W, J pre W → pre.length < L.length → YieldAt Fence.wide (n - 1) Try.prog l #[limV x.1.b x.1.z x.1.g] W fun e W' =>
      (e = .returned (.bool true) ∧ J (pre ++ [x]) W' ∧ Kp g Bc W W') ∨ (e = .returned (.bool false) ∧ Jx (pre ++ [x]) W'))
    (hBp : W.cell? ⟨Bp, 0, none⟩ = some (.pointer (some ⟨r, 0, none⟩))) (hBc : W.cell? ⟨Bc, 0, none⟩ = some (.int .i64 clp)) (hr : W.cell? ⟨r, 0, none⟩ = some (.slice (some ⟨g, 0, none⟩) L.length cap)) (hLC : LC W g L) (hg : g < W.heap.size) (hc : Bc < W.heap.size) (h0 : J [] W) :
    CallsIn Fence.wide n Try.prog 24 #[.func (.yield l) #[] #[], .pointer (some ⟨Bp, 0, none⟩), .pointer (some ⟨Bc, 0, none⟩)] W fun e W' => (∃ v, e = .returned v) ∧
      ((∃ ys, ys.map (·.1) = askedL clp L ∧ J ys W') ∨ (∃ pre, True ∧ Jx pre W')) := by
  refine callsIn_of_wp Try.func24 rfl trivial ?_ rfl
  simp only [Try.ntmps24, List.size_toArray, List.length_cons, List.length_nil, Nat.reduceAdd, Nat.reduceSub, Array.replicate_succ, Array.replicate_zero, List.push_toArray, List.append_toArray, List.nil_append, List.cons_append]
  gi_wp2
  gi_loopw [11] (fun i wr => ∃ (k : Nat) (ys : List { x : Lim // x ∈ askedL clp L }), k ≤ L.length ∧ i = .int .i64 k ∧ ys.map (·.1) = askedL clp (L.take k) ∧ J ys wr ∧ Kp g Bc W wr)
    (fun i _ => L.length - (intOf i).toNat)
  case atStart => exact ⟨0, [], Nat.zero_le _, rfl, by simp [askedL], h0, ⟨Nat.le_refl _, rfl, rfl⟩⟩
  case round =>
    obtain ⟨k, ys, hk, rfl, hys, hJs, hkp⟩ := hrel
    by_cases hlt : k < L.length
    · obtain ⟨x, hx⟩ : ∃ x, L[k]? = some x := ⟨L[k], by rw [List.getElem?_eq_getElem]⟩
      obtain ⟨c1, c2, c3⟩ := hLC k x hx
      rw [← hkp.cellg] at c1 c2 c3
      have cc := (hkp.cellc 0).trans hBc
      have hlen2 : ys.length < L.length := by have := congrArg List.length hys; have := askedL_len clp L k; simp at *; omega
      have hmem : x ∈ L := List.mem_of_getElem? hx
      have hst := askedL_take (c := clp) hx
      obtain ⟨b, z, gt, s, e, T⟩ := x
      simp only at c1 c2 c3
      clear hLC hr hBp hBc
      have hcb : Bc < wr.heap.size := Nat.lt_of_lt_of_le hc hkp.size
      have hgb : g < wr.heap.size := Nat.lt_of_lt_of_le hg hkp.size
      have hal : ∀ o, J ys (wr.alloc o) := fun o => hJ ys wr _ none hJs (World.grownBy_alloc wr o none) (fun r e => by cases e)
      have hka : ∀ o, Kp g Bc W (wr.alloc o) := fun o => hkp.trans (Kp.of ((Below.refl _ wr).alloc (Nat.le_refl _) o) hgb hcb)
      by_cases ha : z = true ∧ clp ≠ 0
      · obtain ⟨rfl, hcl⟩ := ha
        have q : (clp != 0) = true := by simpa using hcl
        have hst' : Hid (askedL clp (L.take (k + 1)) = askedL clp (L.take k)) := by show _ = _; rw [hst]; simp [asks, hcl]
        have HA : Hid (∀ o, J ys (wr.alloc o)) := hal
        have HK : Hid (∀ o, Kp g Bc W (wr.alloc o)) := hka
        clear hst hcl hJ hY hx hal hka
        gi_wp2
        go_roundw
        case rel => exact ⟨k + 1, ys, by omega, by go_num, by rw [hst'.out]; exact hys, HA.out _, HK.out _⟩
        case measure => simp [intOf]; omega
      · have hask : asks clp ⟨b, z, gt, s, e, T⟩ = true := by unfold asks; simp at ha ⊢; cases z <;> simp_all
        have hst' : Hid (askedL clp (L.take (k + 1)) = askedL clp (L.take k) ++ [⟨b, z, gt, s, e, T⟩]) := by show _ = _; rw [hst, hask]; rfl
        have hmm : (⟨b, z, gt, s, e, T⟩ : Lim) ∈ askedL clp L := List.mem_filter.2 ⟨hmem, hask⟩
        obtain ⟨fn, tmps, assign, body, hy, hR⟩ := hY ys ⟨_, hmm⟩ (wr.alloc (.cells #[.iface 55 (.pointer (some ⟨b, 0, none⟩)), .bool z, .bool gt] 60)) (hal _) hlen2
        have HK : Hid (∀ o, Kp g Bc W (wr.alloc o)) := hka
        have HY : Hid (ys.map (·.1) = askedL clp (L.take k)) := hys
        clear hst hJ hY hx hal hka hys
        simp only at hy hR
        by_cases hz : z = true
        · have hcl : clp = 0 := by simp at ha; exact ha hz
          subst hz hcl
          clear ha hask
          gi_wp2
          refine hR.mono ?_
          rintro e3 W3 (⟨rfl, hJ3, hk3⟩ | ⟨rfl, hJx3⟩)
          · have HK3 : Hid (Kp g Bc W W3) := (HK.out _).trans hk3
            clear hk3 HK
            gi_wp2
            go_roundw
            case rel => exact ⟨k + 1, ys ++ [⟨_, hmm⟩], by omega, by go_num, by rw [hst'.out, List.map_append, HY.out]; rfl, hJ3, HK3.out⟩
            case measure => simp [intOf]; omega
          · gi_wp2
            refine bodyPost_ret (results_none rfl _ _ _) rfl ?_
            exact ⟨⟨_, rfl⟩, .inr ⟨_, trivial, hJx3⟩⟩
        · have hz' : z = false := by simpa using hz
          subst hz'
          clear ha hask hz
          gi_wp2
          refine hR.mono ?_
          rintro e3 W3 (⟨rfl, hJ3, hk3⟩ | ⟨rfl, hJx3⟩)
          · have HK3 : Hid (Kp g Bc W W3) := (HK.out _).trans hk3
            clear hk3 HK
            gi_wp2
            go_roundw
            case rel => exact ⟨k + 1, ys ++ [⟨_, hmm⟩], by omega, by go_num, by rw [hst'.out, List.map_append, HY.out]; rfl, hJ3, HK3.out⟩
            case measure => simp [intOf]; omega
          · gi_wp2
            refine bodyPost_ret (results_none rfl _ _ _) rfl ?_
            exact ⟨⟨_, rfl⟩, .inr ⟨_, trivial, hJx3⟩⟩
    · obtain rfl : k = L.length := by omega
      gi_wp2
      go_end0
      exact ⟨⟨_, rfl⟩, .inl ⟨ys, by rw [hys, List.take_length], hJs⟩⟩

theorem asked_stops (n : Nat) (hn : 1 ≤ n) (Bp Bc r g cap : Nat) (L : List Lim) (clp : Int) (hlen : L.length ≤ 2) (w : World) (h1 : Bp < w.heap.size) (h2 : Bc < w.heap.size) (h3 : r < w.heap.size) (h4 : g < w.heap.size)
    (hBp : w.cell? ⟨Bp, 0, none⟩ = some (.pointer (some ⟨r, 0, none⟩))) (hBc : w.cell? ⟨Bc, 0, none⟩ = some (.int .i64 clp)) (hr : w.cell? ⟨r, 0, none⟩ = some (.slice (some ⟨g, 0, none⟩) L.length cap)) (hLC : LC w g L) :
    SeqStopsK Fence.wide n Try.prog 24 #[.pointer (some ⟨Bp, 0, none⟩), .pointer (some ⟨Bc, 0, none⟩)] (fun x : { x : Lim // x ∈ askedL clp L } => #[limV x.1.b x.1.z x.1.g]) (Kp g Bc) (fun ys => ys.map (·.1) = askedL clp L) (fun _ => True) L.length w := fun l J Jx W hW hJ _ hY h0 => by
  have hc : ∀ (b k : Nat), b < w.heap.size → W.cell? ⟨b, k, none⟩ = w.cell? ⟨b, k, none⟩ := fun b k hb => hW.cell (p := ⟨b, k, none⟩) hb
  have hs := hW.size
  exact asked1_in n hn l Bp Bc r g cap L clp hlen W J Jx hJ hY ((hc _ _ h1).trans hBp) ((hc _ _ h2).trans hBc) ((hc _ _ h3).trans hr)
    (fun j x hx => by obtain ⟨a1, a2, a3⟩ := hLC j x hx; exact ⟨(hc _ _ h4).trans a1, (hc _ _ h4).trans a2, (hc _ _ h4).trans a3⟩) (by omega) (by omega) h0

set_option maxHeartbeats 1000000 in
theorem asked_in (n : Nat) (r : Nat) (clp : Int) (w : World) :
    CallsIn Fence.wide n Try.prog 22 #[.pointer (some ⟨r, 0, none⟩), .int .i64 clp] w fun e w' => e = .returned (.func (.func 24) #[] #[.pointer (some ⟨w.heap.size, 0, none⟩), .pointer (some ⟨w.heap.size + 1, 0, none⟩)]) ∧ w' = (w.alloc (.cells #[.pointer (some ⟨r, 0, none⟩)] 26)).alloc (.cells #[.int .i64 clp] 3) := by
  refine callsIn_of_wp Try.func22 rfl trivial ?_ rfl
  simp only [Try.ntmps22, List.size_toArray, List.length_cons, List.length_nil, Nat.reduceAdd, Nat.reduceSub, Array.replicate_succ, Array.replicate_zero, List.push_toArray, List.append_toArray, List.nil_append, List.cons_append]
  gi_wp2
  go_ret
  exact ⟨rfl, rfl⟩
end Go.Proofs.Ytlaomjhibaoglaa
