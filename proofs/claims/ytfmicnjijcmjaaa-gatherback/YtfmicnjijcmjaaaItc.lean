/- Proved here: the iterator that tells a frame's parts. Conditions: as each theorem states them. -/
import Derived.RangeFuncNested
import Derived.RangeFuncBound
import Derived.RangeFuncCalls
import Derived.RangeFuncLeaves
import Derived.RangeFuncBox
import Derived.Shelf.Abstract
import Derived.Shelf.RegionOpen
import Derived.WalkKit
import Derived.OwnWalkIn
import Derived.TacticsInMore
import Derived.LoopNIn
import Derived.LoopIn
import Derived.Test.YtfmicnjijcmjaaaWhole
import Derived.Test.YtfmicnjijcmjaaaCp
import Derived.Test.YtfmicnjijcmjaaaUp
namespace Go.Proofs.Ytfmicnjijcmjaaa
set_option linter.unusedSimpArgs false
set_option linter.unusedVariables false
open Go.RowKit Go.Shelf
attribute [local go_sem] Oper.semAt_some

theorem operIn_ld {F : Fence} {n : Nat} {P : Program} {w : World} {o : Oper} {a : Act} {K : Act → World → Prop} {Q : Exit → Act → World → Prop}
    {ty : TypeId} {x : Operand} {p v : Value} (ho : o.op = .load ty x) (hx : a.eval x = p) (hrun : (Instr.loadAt ty p).run P w = .ok v w) (h : K (a.put o.dst v) w) : o.wpIn F n P a w K Q := by
  unfold Oper.wpIn
  refine ⟨?_, ?_⟩
  · simp [Oper.about, ho]
  · rw [Oper.semAt_plain F _ _ (by rw [ho]; intro c hc'; cases hc')]
    simp [execOp, ho, hx, hrun, Result.andThen]
    exact h
theorem operIn_al {F : Fence} {n : Nat} {P : Program} {w : World} {o : Oper} {a : Act} {K : Act → World → Prop} {Q : Exit → Act → World → Prop}
    {ty : TypeId} {Z : Array Value} (ho : o.op = .alloc ty) (hz : ∀ w, (zeroValue ty).run P w = .ok (.agg Z) w) (h : K (a.put o.dst (.pointer (some ⟨w.heap.size, 0, none⟩))) (w.alloc (.cells Z ty))) : o.wpIn F n P a w K Q := by
  unfold Oper.wpIn
  refine ⟨?_, ?_⟩
  · simp [Oper.about, ho]
  · rw [Oper.semAt_plain F _ _ (by rw [ho]; intro c hc'; cases hc')]
    simp [execOp, ho, Instr.alloc, hz, newVar, newRow, Result.andThen, Value.cells]
    exact h
theorem wpListIn_al {F : Fence} {n : Nat} {P : Program} {w : World} {ops : Array Oper} {rest : List Oper} {o : Oper} {a : Act} {Q : Exit → Act → World → Prop} (hg : o.guard = none)
    {ty : TypeId} {Z : Array Value} (ho : o.op = .alloc ty) (hz : ∀ w, (zeroValue ty).run P w = .ok (.agg Z) w) (h : wpListIn F n P ops Q rest (a.put o.dst (.pointer (some ⟨w.heap.size, 0, none⟩))) (w.alloc (.cells Z ty))) : wpListIn F n P ops Q (o :: rest) a w :=
  wpListIn_plain hg fun _ hK => operIn_al ho hz (hK _ _ h)
theorem wpListIn_ld {F : Fence} {n : Nat} {P : Program} {w : World} {ops : Array Oper} {rest : List Oper} {o : Oper} {a : Act} {Q : Exit → Act → World → Prop} (hg : o.guard = none)
    {ty : TypeId} {x : Operand} {p v : Value} (ho : o.op = .load ty x) (hx : a.eval x = p) (hrun : (Instr.loadAt ty p).run P w = .ok v w) (h : wpListIn F n P ops Q rest (a.put o.dst v) w) : wpListIn F n P ops Q (o :: rest) a w :=
  wpListIn_plain hg fun _ hK => operIn_ld ho hx hrun (hK _ _ h)
theorem wpListIn_cp {F : Fence} {n : Nat} {P : Program} {w w' : World} {t : TypeId} {va vx v' : Value} {ty : TypeId} (hrun : (Builtin.copy_ #[t, t] ty #[va, vx]).run P w = .ok v' w')
    {ops : Array Oper} {rest : List Oper} {o : Oper} {a : Act} {Q : Exit → Act → World → Prop} (s x : Operand) (hg : o.guard = none)
    (ho : o.op = .call { callee := .builtin .copy, args := #[s, x], argTypes := #[t, t] }) (hty : o.type = ty) (hs : a.eval s = va) (hx : a.eval x = vx)
    (h : wpListIn F n P ops Q rest (a.put o.dst v') w') : wpListIn F n P ops Q (o :: rest) a w := by
  refine wpListIn_plain hg fun K hK' => ?_
  subst hty
  unfold Oper.wpIn
  refine ⟨?_, ?_⟩
  · simp [Oper.about, ho, resolve, Target.leads, Sem.run_pure]
  · rw [Oper.semAt_plain F _ _ (by rw [ho]; intro c hc'; cases hc')]
    simp [execOp, ho, resolve, invoke, builtin, hs, hx, hrun, Result.andThen]
    exact hK' _ _ h

theorem zero40 (w : World) : (zeroValue 28).run Try.prog w = .ok (.agg (payV (zer 48))) w := (zero_of_info info24).1 w

/-- A part. -/
def chunk (zs : List UInt8) (i : Nat) : List UInt8 := (zs.drop (48 * i)).take 48
theorem chunk_len {zs : List UInt8} {i : Nat} (h : i < zs.length / 48) : (chunk zs i).length = 48 := by simp [chunk]; omega
abbrev Ix48 (zs : List UInt8) := { i : Nat // i < zs.length / 48 }
/-- What a round is told. -/
abbrev encC (zs : List UInt8) (x : Ix48 zs) : Array Value := #[.agg (payV (chunk zs x.1)), .bool (((zs.length - 48 * x.1 : Nat) : Int) == 48)]

/-- What a round keeps: a block. -/
structure Kq (g : Nat) (W W' : World) : Prop where
  size : W.heap.size ≤ W'.heap.size
  block : W'.heap[g]? = W.heap[g]?
theorem Kq.trans {g : Nat} {A B C : World} (h : Kq g A B) (k : Kq g B C) : Kq g A C := ⟨Nat.le_trans h.size k.size, k.block.trans h.block⟩
theorem Kq.put {g : Nat} {w : World} (hg : g < w.heap.size) (W : World) (l : Nat) (o o' : Obj) (hl : w.heap.size ≤ l) (h : W.heap[l]? = some o) (_ : o.isCells = false) (_ : o.isWalk = false) : Kq g W (W.putObj l o') :=
  ⟨by simp, World.putObj_heap_other (by omega)⟩
theorem Kq.of {g n : Nat} {A B : World} (h : Below n A B) (hg : g < n) : Kq g A B := ⟨h.size, h.block g hg⟩

/-- Bytes that lie in block g. -/
def InG (g : Nat) (W : World) (a : Option Addr) (len : Nat) (zs : List UInt8) : Prop :=
  len = zs.length ∧ (zs = [] ∨ ∃ off, a = some ⟨g, off, none⟩ ∧ ∀ j x, zs[j]? = some x → W.cell? ⟨g, off + j, none⟩ = some (.int .u8 (x.toNat : Int)))
theorem InG.kq {g : Nat} {W W' : World} {a : Option Addr} {len : Nat} {zs : List UInt8} (h : InG g W a len zs) (k : Kq g W W') : InG g W' a len zs := by
  refine ⟨h.1, ?_⟩
  rcases h.2 with e | ⟨off, e, hc⟩
  · exact .inl e
  · refine .inr ⟨off, e, fun j x hx => ?_⟩
    have : W'.cell? ⟨g, off + j, none⟩ = W.cell? ⟨g, off + j, none⟩ := World.cell?_of_block k.block
    rw [this]; exact hc j x hx
theorem InG.isB {g n : Nat} {W : World} {a : Option Addr} {len : Nat} {zs : List UInt8} (h : InG g W a len zs) (hg : g < n) : IsB n W a len zs := by
  refine ⟨h.1, ?_⟩
  rcases h.2 with e | ⟨off, e, hc⟩
  · exact .inl e
  · exact .inr ⟨g, off, e, hg, hc⟩
theorem InG.next {g : Nat} {W : World} {off : Nat} {len c : Nat} {zs : List UInt8} (h : InG g W (some ⟨g, off, none⟩) len zs) (h48 : 48 ≤ len) (hc : len ≤ c) :
    InG g W (if c = 48 then some ⟨g, off, none⟩ else some ⟨g, off + 48, none⟩) (len - 48) (zs.drop 48) := by
  refine ⟨by rw [List.length_drop, h.1], ?_⟩
  by_cases e : c = 48
  · left
    have : zs.length = 48 := by have := h.1; omega
    rw [List.drop_eq_nil_iff]; omega
  · rw [if_neg e]
    rcases h.2 with e2 | ⟨off', e2, hc2⟩
    · left; rw [e2]; rfl
    · cases e2
      right
      refine ⟨off + 48, rfl, fun j x hx => ?_⟩
      rw [Nat.add_assoc]
      exact hc2 (48 + j) x (by rw [List.getElem?_drop] at hx; exact hx)

set_option maxRecDepth 100000 in
set_option maxHeartbeats 4000000 in
theorem cells1_in (n : Nat) (hn : 1 ≤ n) (l Bp g len cap : Nat) (a : Option Addr) (zs : List UInt8) (hlen : len ≤ 3000) (W : World) (J Jx : List (Ix48 zs) → World → Prop) (hJ : AbidesFrom W.heap.size J)
    (hY : ∀ pre x W, J pre W → pre.length < zs.length / 48 → YieldAt Fence.wide (n - 1) Try.prog l (encC zs x) W fun e W' =>
      (e = .returned (.bool true) ∧ J (pre ++ [x]) W' ∧ Kq g W W') ∨ (e = .returned (.bool false) ∧ Jx (pre ++ [x]) W'))
    (hBp : W.cell? ⟨Bp, 0, none⟩ = some (.slice a len cap)) (hI : InG g W a len zs) (hcap : len ≤ cap) (hg : g < W.heap.size) (h0 : J [] W) :
    CallsIn Fence.wide n Try.prog 30 #[.func (.yield l) #[] #[], .pointer (some ⟨Bp, 0, none⟩)] W fun e W' => (∃ v, e = .returned v) ∧
      ((∃ ys, ys.map (·.1) = List.range (zs.length / 48) ∧ J ys W') ∨ (∃ pre, (∃ j, j ≤ zs.length / 48 ∧ pre.map (·.1) = List.range j) ∧ Jx pre W')) := by
  have LZ : Hid (len = zs.length) := hI.1
  have HY : Hid (∀ pre x W, J pre W → pre.length < zs.length / 48 → YieldAt Fence.wide (n - 1) Try.prog l (encC zs x) W fun e W' =>
      (e = .returned (.bool true) ∧ J (pre ++ [x]) W' ∧ Kq g W W') ∨ (e = .returned (.bool false) ∧ Jx (pre ++ [x]) W')) := hY
  have HJ : Hid (AbidesFrom W.heap.size J) := hJ
  clear hY hJ
  refine callsIn_of_wp Try.func30 rfl trivial ?_ rfl
  simp only [Try.ntmps30, List.size_toArray, List.length_cons, List.length_nil, Nat.reduceAdd, Nat.reduceSub, Array.replicate_succ, Array.replicate_zero, List.push_toArray, List.append_toArray, List.nil_append, List.cons_append]
  gi_wp2
  gi_loopw [3] (fun lv wr => ∃ (k r : Nat) (ys : List (Ix48 zs)) (a' : Option Addr) (c' : Nat), 48 * k + r = len ∧ lv = .slice a' r c' ∧ InG g wr a' r (zs.drop (48 * k)) ∧ r ≤ c' ∧ ys.map (·.1) = List.range k ∧ J ys wr ∧ W.heap.size ≤ wr.heap.size)
    (fun lv _ => match lv with | .slice _ r _ => r | _ => 0)
  case atStart => exact ⟨0, len, [], a, cap, by omega, rfl, hI, hcap, rfl, h0, Nat.le_refl _⟩
  case round =>
    obtain ⟨k, r, ys, a', c', hr, rfl, hIr, hc', hys, hJs, hsz⟩ := hrel
    by_cases hlt : 48 ≤ r
    · have q1 : decide (48 ≤ (r : Int)) = true := by simp; omega
      have hkN : k < zs.length / 48 := by have := LZ.out; omega
      obtain ⟨off, rfl⟩ : ∃ off, a' = some ⟨g, off, none⟩ := by
        rcases hIr.2 with e | ⟨off, e, _⟩
        · have := hIr.1; rw [e] at this; simp at this; omega
        · exact ⟨off, e⟩
      have hnext := hIr.next hlt hc'
      rw [List.drop_drop, show 48 * k + 48 = 48 * (k + 1) from by omega] at hnext
      have hgr : g < wr.heap.size := by omega
      have A1 : Below wr.heap.size wr (wr.alloc (.cells (payV (zer 48)) 28)) := (Below.refl _ wr).alloc (Nat.le_refl _) _
      have K1 := bk_new wr (payV (zer 48)) 28
      have I1 := (hIr.isB hgr).below A1 (Nat.le_refl _)
      obtain ⟨w2, hcp, K2, b2, _, z2⟩ := run_cp (wr.alloc (.cells (payV (zer 48)) 28)) 3 wr.heap.size 0 48 48 _ _ K1 (some ⟨g, off, none⟩) r c' _ I1 (by omega) (by decide) (by rw [payV_size]; simp [zer]; exact Nat.min_le_right _ _)
      rw [show List.take 48 (zs.drop (48 * k)) = chunk zs k from rfl, laidIn_all _ _ (by rw [payV_size, chunk_len hkN]; simp [zer])] at K2
      have hld := run_ld24 w2 wr.heap.size (chunk zs k) _ K2 (chunk_len hkN)
      have B2 : Below wr.heap.size wr w2 := A1.trans (b2 _ (Nat.le_refl _))
      have hJ2 : J ys w2 := HJ.out ys wr w2 none hJs ⟨B2.os, B2.tape, B2.output, B2.size, fun k hk _ => B2.block k hk⟩ (fun r e => by cases e)
      have hN2 := hnext.kq (Kq.of B2 hgr)
      have hlen2 : ys.length < zs.length / 48 := by have := congrArg List.length hys; simp at this; omega
      have HYS : Hid ((ys ++ [(⟨k, hkN⟩ : Ix48 zs)]).map (·.1) = List.range (k + 1)) := by
        show _ = _
        rw [List.map_append, hys, List.range_succ]; rfl
      have hx : (((zs.length - 48 * k : Nat) : Int) == 48) = ((r : Int) == 48) := by rw [show zs.length - 48 * k = r from by have := LZ.out; omega]
      obtain ⟨fn, tmps, assign, body, hy, hR⟩ := HY.out ys ⟨k, hkN⟩ w2 hJ2 hlen2
      have hx' : encC zs ⟨k, hkN⟩ = #[.agg (payV (chunk zs k)), .bool ((r : Int) == 48)] := by
        show (#[.agg (payV (chunk zs k)), .bool (((zs.length - 48 * k : Nat) : Int) == 48)] : Array Value) = _
        rw [hx]
      rw [hx'] at hy
      obtain ⟨a9, ha9⟩ : ∃ a9, (if c' = 48 then some ⟨g, off, none⟩ else some ⟨g, off + 48, none⟩ : Option Addr) = a9 := ⟨_, rfl⟩
      rw [ha9] at hN2
      have hmin : Nat.min r 48 = 48 := Nat.min_eq_right hlt
      rw [hmin] at hcp
      have hwlt : W.heap.size ≤ w2.heap.size := Nat.le_trans hsz B2.size
      have h48c : 48 ≤ c' := by omega
      clear hIr hys hJs hJ2 hnext A1 K1 I1 b2 z2 B2 hx hx' hmin
      gi_wp2_with (first
        | (with_reducible show wpListIn _ _ _ _ _ (Oper.mk _ (Op.alloc 28) _ _ _ _ :: _) _ _; refine wpListIn_al rfl rfl zero40 ?_; (try simp only [Act.put, List.setIfInBounds_toArray, List.set_cons_zero, List.set_cons_succ, World.size_alloc]))
        | (with_reducible show wpListIn _ _ _ _ _ (Oper.mk _ (Op.load 28 _) _ _ _ _ :: _) _ _; revert hld)
        | (gi_at_builtin; refine wpListIn_cp hcp _ _ rfl rfl rfl rfl rfl ?_; (try simp only [Act.put, List.setIfInBounds_toArray, List.set_cons_zero, List.set_cons_succ, World.size_alloc])))
      intro hld
      refine wpListIn_ld rfl rfl rfl hld ?_
      (try simp only [Act.put, List.setIfInBounds_toArray, List.set_cons_zero, List.set_cons_succ, World.size_alloc])
      clear hld hcp K2
      gi_wp2
      refine hR.mono ?_
      rintro e3 W3 (⟨rfl, hJ3, hk3⟩ | ⟨rfl, hJx3⟩)
      · have hN3 := hN2.kq hk3
        have z3 := hk3.size
        clear hN2 hk3 hR hy
        gi_wp2
        go_roundw
        case rel => exact ⟨k + 1, r - 48, ys ++ [⟨k, hkN⟩], a9, c' - 48, by omega, rfl, hN3, by omega, HYS.out, hJ3, Nat.le_trans hwlt z3⟩
        case measure => simp; omega
      · gi_wp2
        refine bodyPost_ret (results_none rfl _ _ _) rfl ?_
        exact ⟨⟨_, rfl⟩, .inr ⟨_, ⟨k + 1, hkN, HYS.out⟩, hJx3⟩⟩
    · have q1 : decide (48 ≤ (r : Int)) = false := by simp; omega
      have hkN : k = zs.length / 48 := by have := LZ.out; omega
      gi_wp2
      go_end0
      exact ⟨⟨_, rfl⟩, .inl ⟨ys, by rw [hys, hkN], hJs⟩⟩
end Go.Proofs.Ytfmicnjijcmjaaa
