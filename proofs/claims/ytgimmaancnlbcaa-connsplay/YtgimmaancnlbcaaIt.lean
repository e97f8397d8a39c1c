/- Proved here: the iterator that tells all keys of a table with their numbers. Conditions: as each theorem states them. -/
import Derived.RangeFuncNested
import Derived.RangeFuncBound
import Derived.RangeFuncCalls
import Derived.RangeFuncLeaves
import Derived.RangeFuncBox
import Derived.Shelf.Abstract
import Derived.Shelf.RegionOpen
import Derived.WalkKit
import Derived.OwnWalkIn
import Derived.TacticsInMore
import Derived.LoopNIn
import Derived.LoopIn
import Derived.Test.YtgimmaancnlbcaaPt
import Derived.Test.YtgimmaancnlbcaaDp
namespace Go.Proofs.Ytgimmaancnlbcaa
set_option linter.unusedSimpArgs false
set_option linter.unusedVariables false
open Go.RowKit Go.Shelf
attribute [local go_sem] Oper.semAt_some

/-- What a round keeps: tables from block m on. -/
structure Kt (m : Nat) (W W' : World) : Prop where
  size : W.heap.size ≤ W'.heap.size
  tab : ∀ k V, m ≤ k → BK W k V 62 → BK W' k V 62
theorem Kt.trans {m : Nat} {A B C : World} (h : Kt m A B) (k : Kt m B C) : Kt m A C := ⟨Nat.le_trans h.size k.size, fun j V hj hb => k.tab j V hj (h.tab j V hj hb)⟩
theorem Kt.put {m n : Nat} (W : World) (l : Nat) (o o' : Obj) (_ : n ≤ l) (h : W.heap[l]? = some o) (ho : o.isCells = false) (_ : o.isWalk = false) : Kt m W (W.putObj l o') :=
  ⟨by simp, fun k V _ hb => by
    refine (World.putObj_heap_other (fun e => ?_)).trans hb
    subst e
    rw [show W.heap[_]? = _ from hb] at h
    cases h
    cases ho⟩
theorem Kt.of {m n : Nat} {A B : World} (h : Below n A B) (hn : A.heap.size ≤ n) : Kt m A B := ⟨h.size, fun k V _ hb => (h.block k (by have := hb.lt; omega)).trans hb⟩
theorem Kt.but {m n r : Nat} {A B : World} (h : But r n A B) (hn : A.heap.size ≤ n) (hr : r < m) : Kt m A B := ⟨h.size, fun k V hk hb => (h.block k (by have := hb.lt; omega) (by omega)).trans hb⟩
theorem Kt.other {m n r : Nat} {A B : World} {vs : Array Value} {t : TypeId} (h : But r n A B) (hn : A.heap.size ≤ n) (hr : BK A r vs t) (ht : t ≠ 62) : Kt m A B :=
  ⟨h.size, fun k V hk hb => (h.block k (by have := hb.lt; omega) (fun e => by subst e; have hr' : A.heap[_]? = _ := hr; rw [show A.heap[_]? = _ from hb] at hr'; cases hr'; exact ht rfl)).trans hb⟩
theorem Kt.drew {m : Nat} {A B : World} (h : Kt m A B) : Kt m A B.drew := ⟨h.size, h.tab⟩

theorem run_ldT (w : World) (b : Nat) (S : List En) (hS : S.length = 64) (m r : Int) (h : BK w b (tabV S m r) 62) :
    (Instr.loadAt 62 (.pointer (some ⟨b, 0, none⟩))).run Try.prog w = .ok (.agg (tabV S m r)) w := by
  simp only [Instr.loadAt, Instr.sureAddr, Sem.run_bind, Sem.run_pure, Result.andThen_ok]
  rw [run_loadVar_row w b _ 62 (tabV S m r) (0, 0) _ h Try.underlying62 rfl (by rw [size_tab, tabV_size, hS])]

theorem operIn_ld {F : Fence} {n : Nat} {P : Program} {w : World} {o : Oper} {a : Act} {K : Act → World → Prop} {Q : Exit → Act → World → Prop}
    {ty : TypeId} {x : Operand} {p v : Value} (ho : o.op = .load ty x) (hx : a.eval x = p) (hrun : (Instr.loadAt ty p).run P w = .ok v w) (h : K (a.put o.dst v) w) : o.wpIn F n P a w K Q := by
  unfold Oper.wpIn
  refine ⟨?_, ?_⟩
  · simp [Oper.about, ho]
  · rw [Oper.semAt_plain F _ _ (by rw [ho]; intro c hc'; cases hc')]
    simp [execOp, ho, hx, hrun, Result.andThen]
    exact h
theorem operIn_al {F : Fence} {n : Nat} {P : Program} {w : World} {o : Oper} {a : Act} {K : Act → World → Prop} {Q : Exit → Act → World → Prop}
    {ty : TypeId} {Z : Array Value} (ho : o.op = .alloc ty) (hz : ∀ w, (zeroValue ty).run P w = .ok (.agg Z) w) (h : K (a.put o.dst (.pointer (some ⟨w.heap.size, 0, none⟩))) (w.alloc (.cells Z ty))) : o.wpIn F n P a w K Q := by
  unfold Oper.wpIn
  refine ⟨?_, ?_⟩
  · simp [Oper.about, ho]
  · rw [Oper.semAt_plain F _ _ (by rw [ho]; intro c hc'; cases hc')]
    simp [execOp, ho, Instr.alloc, hz, newVar, newRow, Result.andThen, Value.cells]
    exact h
theorem operIn_st {F : Fence} {n : Nat} {P : Program} {w : World} {o : Oper} {a : Act} {K : Act → World → Prop} {Q : Exit → Act → World → Prop}
    {ty : TypeId} {x y : Operand} {Z C : Array Value} (ho : o.op = .store ty x y) (hx : a.eval x = .pointer (some ⟨w.heap.size, 0, none⟩)) (hy : a.eval y = .agg C)
    (hi : (P.info? ty).map (·.size) = some C.size) (hZ : Z.size = C.size) (h1 : C.all (·.oneCell') = true)
    (h : K (a.put o.dst undef) (w.alloc (.cells C ty))) : o.wpIn F n P a (w.alloc (.cells Z ty)) K Q := by
  unfold Oper.wpIn
  refine ⟨?_, ?_⟩
  · simp [Oper.about, ho]
  · rw [Oper.semAt_plain F _ _ (by rw [ho]; intro c hc'; cases hc')]
    have e := run_storeAt_new (P := P) w ty Z C hi hZ h1
    unfold execOp
    simp only [ho, hx, hy, Sem.run_bind, e, Result.andThen_ok, Sem.run_pure]
    exact h

/-- What a round is told. -/
abbrev encE (L : List En) (x : { x : En // x ∈ L }) : Array Value := #[keyV x.1.1, .int .i64 x.1.2]

set_option maxRecDepth 100000 in
set_option maxHeartbeats 2000000 in
theorem all_none_in (n : Nat) (hn : 1 ≤ n) (l Bp : Nat) (W : World) (hBp : W.cell? ⟨Bp, 0, none⟩ = some (.pointer none)) :
    CallsIn Fence.wide n Try.prog 31 #[.func (.yield l) #[] #[], .pointer (some ⟨Bp, 0, none⟩)] W fun e W' => (∃ v, e = .returned v) ∧ W' = W := by
  refine callsIn_of_wp Try.func31 rfl trivial ?_ rfl
  simp only [Try.ntmps31, List.size_toArray, List.length_cons, List.length_nil, Nat.reduceAdd, Nat.reduceSub, Array.replicate_succ, Array.replicate_zero, List.push_toArray, List.append_toArray, List.nil_append, List.cons_append]
  gi_wp2
  refine bodyPost_ret (results_none rfl _ _ _) rfl ?_
  exact ⟨⟨_, rfl⟩, rfl⟩

set_option maxRecDepth 100000 in
set_option maxHeartbeats 4000000 in
theorem all1_in (n : Nat) (hn : 1 ≤ n) (l Bp b m0 : Nat) (L : List En) (room : Nat) (W : World) (J Jx : List { x : En // x ∈ L } → World → Prop) (hJ : AbidesFrom W.heap.size J)
    (hY : ∀ pre x W, J pre W → pre.length < L.length → YieldAt Fence.wide (n - 1) Try.prog l (encE L x) W fun e W' =>
      (e = .returned (.bool true) ∧ J (pre ++ [x]) W' ∧ Kt m0 W W') ∨ (e = .returned (.bool false) ∧ Jx (pre ++ [x]) W'))
    (hBp : W.cell? ⟨Bp, 0, none⟩ = some (.pointer (some ⟨b, 0, none⟩))) (hT : TB W b L room) (hm : m0 ≤ W.heap.size) (h0 : J [] W) :
    CallsIn Fence.wide n Try.prog 31 #[.func (.yield l) #[] #[], .pointer (some ⟨Bp, 0, none⟩)] W fun e W' => (∃ v, e = .returned v) ∧
      ((∃ ys, ys.map (·.1) = L ∧ J ys W') ∨ (∃ pre, pre.map (·.1) <+: L ∧ Jx pre W')) := by
  have hlen := hT.len
  have hlt := hT.lt
  obtain ⟨S, hSz, hSL, hK⟩ := hT.ex
  have hld := run_ldT W b S hSz _ _ hK
  have hsz1 : (Try.prog.info? 62).map (·.size) = some (tabV S (L.length : Int) (room : Int)).size := by rw [size_tab, tabV_size, hSz]
  have hsz2 : (tabV (List.replicate 64 zeroE) 0 0).size = (tabV S (L.length : Int) (room : Int)).size := by rw [tabV_size, tabV_size, hSz]; rfl
  have hone := tabV_one S (L.length : Int) (room : Int)
  refine callsIn_of_wp Try.func31 rfl trivial ?_ rfl
  simp only [Try.ntmps31, List.size_toArray, List.length_cons, List.length_nil, Nat.reduceAdd, Nat.reduceSub, Array.replicate_succ, Array.replicate_zero, List.push_toArray, List.append_toArray, List.nil_append, List.cons_append]
  gi_wp2_with fail
  rename_i kk hkk
  refine operIn_ld rfl rfl hld ?_
  refine hkk _ _ ?_
  clear hkk
  (try simp only [Act.put, List.setIfInBounds_toArray, List.set_cons_zero, List.set_cons_succ, World.size_alloc])
  refine wpListIn_plain rfl fun K hK' => ?_
  refine operIn_al rfl zero_tab ?_
  refine hK' _ _ ?_
  clear hK'
  (try simp only [Act.put, List.setIfInBounds_toArray, List.set_cons_zero, List.set_cons_succ, World.size_alloc])
  refine wpListIn_plain rfl fun K hK' => ?_
  refine operIn_st rfl rfl rfl hsz1 hsz2 hone ?_
  refine hK' _ _ ?_
  clear hK'
  (try simp only [Act.put, List.setIfInBounds_toArray, List.set_cons_zero, List.set_cons_succ, World.size_alloc])
  have K1 := bk_new W (tabV S (L.length : Int) (room : Int)) 62
  have J1 : J [] (W.alloc (.cells (tabV S (L.length : Int) (room : Int)) 62)) := hJ _ _ _ none h0 (World.grownBy_alloc W _ none) (fun r e => by cases e)
  have hs1 : W.heap.size < (W.alloc (.cells (tabV S (L.length : Int) (room : Int)) 62)).heap.size := K1.lt
  generalize W.alloc (.cells (tabV S (L.length : Int) (room : Int)) 62) = W1 at *
  have HSL : ∀ j x, L[j]? = some x → S[j]? = some x := fun j x hx => by
    have hj : j < L.length := (List.getElem?_eq_some_iff.1 hx).1
    rw [← hSL, List.getElem?_take_of_lt hj] at hx; exact hx
  have m1 := K1.cell 256 _ (tabV_many hSz _ _).1
  have HY : Hid (∀ pre x W, J pre W → pre.length < L.length → YieldAt Fence.wide (n - 1) Try.prog l (encE L x) W fun e W' =>
      (e = .returned (.bool true) ∧ J (pre ++ [x]) W' ∧ Kt m0 W W') ∨ (e = .returned (.bool false) ∧ Jx (pre ++ [x]) W')) := hY
  have HJ : Hid (AbidesFrom W.heap.size J) := hJ
  clear hY hJ hsz1 hsz2 hone hld hK hBp h0 hT hSL hlt
  gi_wp2
  rw [run_slot_h W1 W.heap.size _ L.length rfl hlen]
  gi_wp2
  gi_loopw [16] (fun i wr => ∃ (k : Nat) (ys : List { x : En // x ∈ L }), k ≤ L.length ∧ i = .int .i64 k ∧ ys.map (·.1) = L.take k ∧ J ys wr ∧ BK wr W.heap.size (tabV S (L.length : Int) (room : Int)) 62 ∧ W1.heap.size ≤ wr.heap.size)
    (fun i _ => L.length - (intOf i).toNat)
  case atStart => exact ⟨0, [], Nat.zero_le _, rfl, by simp, J1, K1, Nat.le_refl _⟩
  case round =>
    obtain ⟨k, ys, hk, rfl, hys, hJs, hKr, hsz⟩ := hrel
    by_cases hlt : k < L.length
    · obtain ⟨x, hx⟩ : ∃ x, L[k]? = some x := ⟨L[k], by rw [List.getElem?_eq_getElem]⟩
      obtain ⟨c0, c1, c2, c3⟩ := tabV_slot (m := (L.length : Int)) (r := (room : Int)) (HSL k x hx)
      replace c0 := hKr.cell _ _ c0
      replace c1 := hKr.cell _ _ c1
      replace c2 := hKr.cell _ _ c2
      replace c3 := hKr.cell _ _ c3
      rw [show k * 4 + 2 = k * 4 + 1 + 1 from rfl] at c2
      rw [show k * 4 + 3 = k * 4 + 1 + 1 + 1 from rfl] at c3
      have hmem : x ∈ L := List.mem_of_getElem? hx
      have HYS : Hid ((ys ++ [(⟨x, hmem⟩ : { x : En // x ∈ L })]).map (·.1) = L.take (k + 1)) := by
        show _ = _
        rw [List.map_append, hys, List.take_add_one, hx]; rfl
      have hlen2 : ys.length < L.length := by have := congrArg List.length hys; simp at this; omega
      have hal : J ys (wr.alloc (.cells #[.int .i64 x.1.1, .int .i64 x.1.2.1, .int .i64 x.1.2.2, .int .i64 x.2] 59)) := HJ.out ys wr _ none hJs (World.grownBy_alloc wr _ none) (fun r e => by cases e)
      have hKa := hKr.alloc (.cells #[.int .i64 x.1.1, .int .i64 x.1.2.1, .int .i64 x.1.2.2, .int .i64 x.2] 59)
      have hsa : W1.heap.size ≤ (wr.alloc (.cells #[.int .i64 x.1.1, .int .i64 x.1.2.1, .int .i64 x.1.2.2, .int .i64 x.2] 59)).heap.size := by rw [World.size_alloc]; omega
      obtain ⟨fn, tmps, assign, body, hy, hR⟩ := HY.out ys ⟨x, hmem⟩ _ hal hlen2
      have hwlt : W.heap.size < wr.heap.size := by omega
      clear hx hJs hKr J1 K1 m1
      gi_wp2
      refine hR.mono ?_
      rintro e3 W3 (⟨rfl, hJ3, hk3⟩ | ⟨rfl, hJx3⟩)
      · have K3 := hk3.tab _ _ hm hKa
        have s3 := hk3.size
        clear hk3 hKa hal
        gi_wp2
        go_roundw
        case rel => exact ⟨k + 1, ys ++ [⟨x, hmem⟩], by omega, by go_num, HYS.out, hJ3, K3, Nat.le_trans hsa s3⟩
        case measure => simp [intOf]; omega
      · gi_wp2
        refine bodyPost_ret (results_none rfl _ _ _) rfl ?_
        exact ⟨⟨_, rfl⟩, .inr ⟨_, by rw [HYS.out]; exact List.take_prefix _ _, hJx3⟩⟩
    · obtain rfl : k = L.length := by omega
      gi_wp2
      go_end0
      exact ⟨⟨_, rfl⟩, .inl ⟨ys, by rw [hys, List.take_length], hJs⟩⟩

theorem all_stops (n : Nat) (hn : 1 ≤ n) (Bp b : Nat) (L : List En) (room : Nat) (w : World) (h1 : Bp < w.heap.size) (hBp : w.cell? ⟨Bp, 0, none⟩ = some (.pointer (some ⟨b, 0, none⟩))) (hT : TB w b L room) :
    SeqStopsK Fence.wide n Try.prog 31 #[.pointer (some ⟨Bp, 0, none⟩)] (encE L) (Kt w.heap.size) (fun ys => ys.map (·.1) = L) (fun ys => ys.map (·.1) <+: L) L.length w := fun l J Jx W hW hJ _ hY h0 =>
  all1_in n hn l Bp b w.heap.size L room W J Jx hJ hY ((hW.cell (p := ⟨Bp, 0, none⟩) h1).trans hBp) (hT.below hW hT.lt) hW.size h0
theorem all_stops_none (n : Nat) (hn : 1 ≤ n) (Bp : Nat) (w : World) (h1 : Bp < w.heap.size) (hBp : w.cell? ⟨Bp, 0, none⟩ = some (.pointer none)) :
    SeqStopsK Fence.wide n Try.prog 31 #[.pointer (some ⟨Bp, 0, none⟩)] (encE []) (Kt w.heap.size) (fun ys => ys.map (·.1) = []) (fun ys => ys.map (·.1) <+: []) 0 w := fun l J Jx W hW hJ _ hY h0 => by
  refine (all_none_in n hn l Bp W ((hW.cell (p := ⟨Bp, 0, none⟩) h1).trans hBp)).mono ?_
  rintro e W' ⟨he, rfl⟩
  exact ⟨he, .inl ⟨[], rfl, h0⟩⟩

set_option maxHeartbeats 1000000 in
theorem all_in (n : Nat) (v : Value) (w : World) (hv : v.oneCell' = true) (hc : v.cells = #[v]) :
    CallsIn Fence.wide n Try.prog 25 #[v] w fun e w' => e = .returned (.func (.func 31) #[] #[.pointer (some ⟨w.heap.size, 0, none⟩)]) ∧ w' = w.alloc (.cells #[v] 26) := by
  refine callsIn_of_wp Try.func25 rfl trivial ?_ rfl
  simp only [Try.ntmps25, List.size_toArray, List.length_cons, List.length_nil, Nat.reduceAdd, Nat.reduceSub, Array.replicate_succ, Array.replicate_zero, List.push_toArray, List.append_toArray, List.nil_append, List.cons_append]
  gi_wp2
  go_ret
  exact ⟨rfl, by first | rfl | rw [hc]⟩
end Go.Proofs.Ytgimmaancnlbcaa
