/- Proved here: the iterator that tells all bookings of a ledger. Conditions: as each theorem states them. -/
import Derived.RangeFuncNested
import Derived.RangeFuncBound
import Derived.RangeFuncCalls
import Derived.RangeFuncLeaves
import Derived.RangeFuncBox
import Derived.Shelf.Abstract
import Derived.Shelf.AbstractIn
import Derived.Shelf.RegionOpen
import Derived.WalkKit
import Derived.OwnWalkIn
import Derived.TacticsInMore
import Derived.LoopNIn
import Derived.LoopIn
import Derived.Test.YtpljpndegadckaaXv
namespace Go.Proofs.Ytpljpndegadckaa
set_option linter.unusedSimpArgs false
set_option linter.unusedVariables false
open Go.RowKit Go.Shelf
attribute [local go_sem] Oper.semAt_some

theorem sortsA (m : Nat) : AnyZI.SortsIn Try.prog Try.sortedA_ren Fence.wide m :=
  ⟨fun blk off cap ss W hH hblk hsz => callsIn_wide.2 (AnyM.slices_Sort_int Try.sortA blk off cap ss W hH hblk hsz),
   fun p cap W => callsIn_wide.2 (AnyM.slices_Sort_int_none Try.sortA p cap W)⟩

/-- What a round keeps: maps, and rows of numbers, from block m on. -/
structure Kt (m : Nat) (W W' : World) : Prop where
  size : W.heap.size ≤ W'.heap.size
  map : ∀ k es c, m ≤ k → W.heap[k]? = some (.map es c) → W'.heap[k]? = some (.map es c)
  row : ∀ k vs, m ≤ k → BK W k vs 3 → BK W' k vs 3
theorem Kt.refl (m : Nat) (W : World) : Kt m W W := ⟨Nat.le_refl _, fun _ _ _ _ h => h, fun _ _ _ h => h⟩
theorem Kt.trans {m : Nat} {A B C : World} (h : Kt m A B) (k : Kt m B C) : Kt m A C := ⟨Nat.le_trans h.size k.size, fun j es c hj hb => k.map j es c hj (h.map j es c hj hb), fun j V hj hb => k.row j V hj (h.row j V hj hb)⟩
theorem Kt.put {m n : Nat} (W : World) (l : Nat) (o o' : Obj) (_ : n ≤ l) (h : W.heap[l]? = some o) (ho : o.isCells = false) (hw : o.isWalk = false) : Kt m W (W.putObj l o') :=
  ⟨by simp, (fun k es c _ hb => by
    refine (World.putObj_heap_other (fun e => ?_)).trans hb
    subst e
    rw [hb] at h
    cases h
    cases hw), (fun k V _ hb => by
    refine (World.putObj_heap_other (fun e => ?_)).trans hb
    subst e
    rw [show W.heap[_]? = _ from hb] at h
    cases h
    cases ho)⟩
theorem Kt.of {m n : Nat} {A B : World} (h : Below n A B) (hn : A.heap.size ≤ n) : Kt m A B :=
  ⟨h.size, fun k es c _ hb => (h.block k (by have := (Array.getElem?_eq_some_iff.1 hb).1; omega)).trans hb, fun k V _ hb => (h.block k (by have := hb.lt; omega)).trans hb⟩
theorem Kt.but {m n r : Nat} {A B : World} (h : But r n A B) (hn : A.heap.size ≤ n) (hr : r < m) : Kt m A B :=
  ⟨h.size, fun k es c hk hb => (h.block k (by have := (Array.getElem?_eq_some_iff.1 hb).1; omega) (by omega)).trans hb, fun k V hk hb => (h.block k (by have := hb.lt; omega) (by omega)).trans hb⟩
theorem Kt.but2 {m n r q : Nat} {A B : World} (h : But2 r q n A B) (hn : A.heap.size ≤ n) (hr : r < m) (hq : q < m) : Kt m A B :=
  ⟨h.size, fun k es c hk hb => (h.block k (by have := (Array.getElem?_eq_some_iff.1 hb).1; omega) (by omega) (by omega)).trans hb, fun k V hk hb => (h.block k (by have := hb.lt; omega) (by omega) (by omega)).trans hb⟩

/-- Numbers in a row of one's own. -/
abbrev Row (base : Nat) (W : World) (a : Option Addr) (c : Nat) (xs : List Int) : Prop := W.ownsRow base 3 1 (.slice a xs.length c) xs.length (xs.map encZ)
theorem Row.at' {base : Nat} {W : World} {a : Option Addr} {c : Nat} {xs : List Int} (h : Row base W a c xs) {k : Nat} {x : Int} (hx : xs[k]? = some x) :
    ∃ g cur, a = some ⟨g, 0, none⟩ ∧ BK W g cur 3 ∧ cur[k]? = some (.int .i64 x) := by
  have hk : k < xs.length := (List.getElem?_eq_some_iff.1 hx).1
  rcases h.2 with ⟨_, e⟩ | ⟨g, cap, cur, e1, hg, hh, h1, h2, h3, h4⟩
  · omega
  · simp only [Value.slice.injEq] at e1
    refine ⟨g, cur, e1.1, hh, ?_⟩
    have h5 : (xs.map encZ)[k]? = some (.int .i64 x) := by rw [List.getElem?_map, hx]; rfl
    rw [← h4, List.getElem?_take_of_lt (by omega)] at h5
    simpa using h5
theorem Row.kt {base m : Nat} {A B : World} {a : Option Addr} {c : Nat} {xs : List Int} (h : Row base A a c xs) (hk : Kt m A B) (hm : m ≤ base) : Row base B a c xs := by
  refine ⟨h.1, ?_⟩
  rcases h.2 with h | ⟨g, cap, cur, e1, hg, hh, hc⟩
  · exact .inl h
  · exact .inr ⟨g, cap, cur, e1, hg, hk.row g _ (by omega) hh, hc⟩
theorem mb_kt {m b n : Nat} {A B : World} {D : DataW Unit} (h : MB A b n D) (hk : Kt m A B) (hm : m ≤ b) : MB B b n D := by
  obtain ⟨es, c, h1, h2⟩ := h
  exact ⟨es, c, hk.map b es c hm h1, h2⟩

/-- What a round is told. -/
abbrev encE (L : List En) (x : { x : En // x ∈ L }) : Array Value := #[.int .i64 x.1.1, .int .i64 x.1.2]

set_option maxRecDepth 100000 in
set_option maxHeartbeats 2000000 in
theorem all_none_in (n : Nat) (hn : 1 ≤ n) (l Bp : Nat) (W : World) (hBp : W.cell? ⟨Bp, 0, none⟩ = some (.pointer none)) :
    CallsIn Fence.wide n Try.prog 30 #[.func (.yield l) #[] #[], .pointer (some ⟨Bp, 0, none⟩)] W fun e W' => (∃ v, e = .returned v) ∧ W' = W := by
  refine callsIn_of_wp Try.func30 rfl trivial ?_ rfl
  simp only [Try.ntmps30, List.size_toArray, List.length_cons, List.length_nil, Nat.reduceAdd, Nat.reduceSub, Array.replicate_succ, Array.replicate_zero, List.push_toArray, List.append_toArray, List.nil_append, List.cons_append]
  gi_wp2
  refine bodyPost_ret (results_none rfl _ _ _) rfl ?_
  exact ⟨⟨_, rfl⟩, rfl⟩

theorem grown_below {n : Nat} {A B : World} (h : Below n A B) (hn : A.heap.size ≤ n) : A.grownBy B none := ⟨h.os, h.tape, h.output, h.size, fun k hk _ => h.block k (by omega)⟩

set_option maxRecDepth 100000 in
set_option maxHeartbeats 4000000 in
theorem all1_in (n : Nat) (hn : 6 ≤ n) (l Bp b mb nn m0 : Nat) (L : List En) (room : Int) (W : World) (J Jx : List { x : En // x ∈ L } → World → Prop) (hJ : AbidesFrom W.heap.size J)
    (hY : ∀ pre x W, J pre W → pre.length < L.length → YieldAt Fence.wide (n - 1) Try.prog l (encE L x) W fun e W' =>
      (e = .returned (.bool true) ∧ J (pre ++ [x]) W' ∧ Kt m0 W W') ∨ (e = .returned (.bool false) ∧ Jx (pre ++ [x]) W'))
    (hBp : W.cell? ⟨Bp, 0, none⟩ = some (.pointer (some ⟨b, 0, none⟩))) (hX : XV W b mb L room nn) (hnn : nn ≤ 1000) (hm : m0 ≤ W.heap.size) (h0 : J [] W) :
    CallsIn Fence.wide n Try.prog 30 #[.func (.yield l) #[] #[], .pointer (some ⟨Bp, 0, none⟩)] W fun e W' => (∃ v, e = .returned v) ∧
      ((∃ ys, ys.map (·.1) = L ∧ J ys W') ∨ (∃ pre, pre.map (·.1) <+: L ∧ Jx pre W')) := by
  obtain ⟨D, hmap, hmr⟩ := hX.map
  have hs := hX.ok.srt
  have HK : Hid (∀ x ∈ L, okI x.1 ∧ getN L x.1 = x.2) := fun x hx => ⟨keys_ok hmap hmr hs hx, by unfold getN; rw [mem_look hs hx]; rfl⟩
  obtain ⟨c0, c1, c2, f0, f1⟩ := hX.cells
  have hsz : Maps.size D ≤ nn := hmap.size_le
  have hkp := keys_perm hmap hmr hs
  obtain ⟨es, ck, hb, hfit⟩ := hmap
  have cC : CallsIn Fence.wide (n - 1) Try.prog 31 #[.map (some mb)] W fun e w' => e = .returned (.map (some W.heap.size)) ∧ w' = W.alloc (.map es ck) :=
    callsIn_wide.2 (AnyW.maps_Clone Try.cloneA mb es ck W hb)
  have M1 : MB (W.alloc (.map es ck)) W.heap.size nn D := ⟨es, ck, (MapKept.heap_alloc W _).1, hfit⟩
  have J1 : J [] (W.alloc (.map es ck)) := hJ _ _ _ none h0 (World.grownBy_alloc W _ none) (fun r e => by cases e)
  have hs1 : W.heap.size < (W.alloc (.map es ck)).heap.size := by simp
  have hw1 : Hid (W.heap.size ≤ (W.alloc (.map es ck)).heap.size) := by show _ ≤ _; simp
  clear hb hfit h0
  generalize W.alloc (.map es ck) = W1 at *
  have cK : ∀ W, CallsIn Fence.wide (n - 1) Try.prog 33 #[.map (some mb)] W fun e w' => True := fun W => (AnyZI.keys_in Try.keysA Fence.wide (n - 1) trivial rfl (some mb) W).mono fun _ _ _ => trivial
  clear cK
  have cK : CallsIn Fence.wide (n - 1) Try.prog 33 #[.map (some W.heap.size)] W1 fun e w' => e = .returned (.func (.func 38) #[] #[.pointer (some ⟨W1.heap.size, 0, none⟩)]) ∧ w' = W1.alloc (.cells #[.map (some W.heap.size)] 54) :=
    AnyZI.keys_in Try.keysA Fence.wide (n - 1) trivial rfl (some W.heap.size) W1
  have M2 : MB (W1.alloc (.cells #[.map (some W.heap.size)] 54)) W.heap.size nn D := map_same M1 (Below.heap_alloc _ _ _ hs1)
  have hseq : SeqGives Fence.wide (n - 1 - 1 - 1 - 1) Try.prog 38 #[.pointer (some ⟨W1.heap.size, 0, none⟩)] encZ (fun ss => ss.Perm (intKeys D)) (Maps.size D) (W1.alloc (.cells #[.map (some W.heap.size)] 54)) :=
    AnyZI.keys_gives (ρ := Try.keysA_ren) { Try.keysA with } Fence.wide _ trivial rfl (by omega) W1.heap.size W.heap.size nn D _ (by simp) (by simp) M2
  have cS := AnyZI.sorted_in Try.sortedA Fence.wide (n - 1) trivial trivial trivial trivial rfl (by omega) (sortsA _) (enters_of Try.func37 (by kernel_rfl) rfl) 38 #[.pointer (some ⟨W1.heap.size, 0, none⟩)] trivial (enters_of Try.func38 (by kernel_rfl) rfl) _ _ (by unfold maxLen; omega) (by omega) _ hseq
  change CallsIn _ _ Try.prog 32 _ _ _ at cS
  have J2 : J [] (W1.alloc (.cells #[.map (some W.heap.size)] 54)) := hJ _ _ _ none J1 (World.grownBy_alloc W1 _ none) (fun r e => by cases e)
  have hw2 : Hid (W.heap.size ≤ (W1.alloc (.cells #[.map (some W.heap.size)] 54)).heap.size) := by show _ ≤ _; have := hw1.out; simp; omega
  have cS2 : CallsIn Fence.wide (n - 1) Try.prog 32 #[.func (.func 38) #[] #[.pointer (some ⟨W1.heap.size, 0, none⟩)]] (W1.alloc (.cells #[.map (some W.heap.size)] 54)) fun e w' =>
      ∃ a c, e = .returned (.slice a L.length c) ∧ Row W.heap.size w' a c (L.map (·.1)) ∧ MB w' W.heap.size nn D ∧ J [] w' ∧ W.heap.size ≤ w'.heap.size := by
    refine cS.mono ?_
    rintro e w3 ⟨v, ss, rfl, hS, hrow, _, hb3⟩
    have hp : ss.Perm (L.map (·.1)) := hS.trans hkp.symm
    have hlen : ss.length = (L.map (·.1)).length := hp.length_eq
    rw [keys_sort hs hp, hlen] at hrow
    have hv : ∃ a c, v = .slice a (L.map (·.1)).length c := by
      rcases hrow.2 with ⟨rfl, e⟩ | ⟨g, cap, cur, rfl, _⟩
      · exact ⟨none, 0, by rw [e]⟩
      · exact ⟨_, _, rfl⟩
    obtain ⟨a, c, rfl⟩ := hv
    refine ⟨a, c, by rw [List.length_map], ownsRow_base_a hrow hw2.out, map_same M2 (hb3.block _ M2.lt), hJ _ _ _ none J2 (grown_below hb3 (Nat.le_refl _)) (fun r e => by cases e), Nat.le_trans hw2.out hb3.size⟩
  have HY : Hid (∀ pre x W, J pre W → pre.length < L.length → YieldAt Fence.wide (n - 1) Try.prog l (encE L x) W fun e W' =>
      (e = .returned (.bool true) ∧ J (pre ++ [x]) W' ∧ Kt m0 W W') ∨ (e = .returned (.bool false) ∧ Jx (pre ++ [x]) W')) := hY
  have hlenL : L.length ≤ 1000 := by have := hkp.length_eq; obtain ⟨es', c', _, _, _, hD⟩ := M1; rw [List.length_map] at this; rw [this, hD]; unfold intKeys; rw [List.length_map]; rw [hD] at hsz; exact Nat.le_trans hsz hnn
  have hn1 : 1 ≤ n := by omega
  have hfC : Fence.wide.fn 31 := trivial
  have hfK : Fence.wide.fn 33 := trivial
  have hfS : Fence.wide.fn 32 := trivial
  clear hY cS hseq M1 M2 J1 J2 hX hw1 hw2 hsz hkp hs1 hJ
  refine callsIn_of_wp Try.func30 rfl trivial ?_ rfl
  simp only [Try.ntmps30, List.size_toArray, List.length_cons, List.length_nil, Nat.reduceAdd, Nat.reduceSub, Array.replicate_succ, Array.replicate_zero, List.push_toArray, List.append_toArray, List.nil_append, List.cons_append]
  gi_wp2_with (first
    | (gi_at_call 31; refine cC.mono ?_; rintro e w1 ⟨rfl, rfl⟩; clear hBp c0 c1 c2 f0 f1)
    | (gi_at_call 33; refine cK.mono ?_; rintro e w1 ⟨rfl, rfl⟩)
    | (gi_at_call 32; refine cS2.mono ?_; rintro e W3 ⟨a, c, rfl, R3, M3, J3, s3⟩))
  gi_loopw [17] (fun i wr => ∃ (k : Nat) (ys : List { x : En // x ∈ L }), k ≤ L.length ∧ i = .int .i64 k ∧ ys.map (·.1) = L.take k ∧ J ys wr ∧ MB wr W.heap.size nn D ∧ Row W.heap.size wr a c (L.map (·.1)))
    (fun i _ => L.length - (Go.RowKit.intOf i).toNat)
  case atStart => exact ⟨0, [], Nat.zero_le _, rfl, by simp, J3, M3, R3⟩
  case round =>
    obtain ⟨k, ys, hk, rfl, hys, hJs, hMr, hRr⟩ := hrel
    by_cases hlt : k < L.length
    · obtain ⟨x, hx⟩ : ∃ x, L[k]? = some x := ⟨L[k], by rw [List.getElem?_eq_getElem]⟩
      have hmem : x ∈ L := List.mem_of_getElem? hx
      obtain ⟨hok, hgn⟩ := HK.out x hmem
      have hlk := at_run hMr hmr hok
      rw [hgn] at hlk
      obtain ⟨g, cur, rfl, hg, hcur⟩ := hRr.at' (k := k) (x := x.1) (by rw [List.getElem?_map, hx]; rfl)
      have hcell := hg.cell k _ hcur
      have HYS : Hid ((ys ++ [(⟨x, hmem⟩ : { x : En // x ∈ L })]).map (·.1) = L.take (k + 1)) := by
        show _ = _
        rw [List.map_append, hys, List.take_add_one, hx]; rfl
      have hlen2 : ys.length < L.length := by have := congrArg List.length hys; simp at this; omega
      obtain ⟨fn, tmps, assign, body, hy, hR⟩ := HY.out ys ⟨x, hmem⟩ _ hJs hlen2
      have HM : Hid (MB wr W.heap.size nn D ∧ Row W.heap.size wr (some ⟨g, 0, none⟩) c (L.map (·.1))) := ⟨hMr, hRr⟩
      simp only [encE] at hy hR
      obtain ⟨x1, x2⟩ := x
      simp only at hy hR hlk hcell
      clear hx hJs hMr hRr hgn hg hcur hys hlen2 R3 M3 J3
      gi_wp2
      refine hR.mono ?_
      rintro e3 W4 (⟨rfl, hJ3, hk3⟩ | ⟨rfl, hJx3⟩)
      · have M4 := mb_kt HM.out.1 hk3 hm
        have R4 := HM.out.2.kt hk3 hm
        clear hk3
        gi_wp2
        go_roundw
        case rel => exact ⟨k + 1, ys ++ [⟨(x1, x2), hmem⟩], by omega, by go_num, HYS.out, hJ3, M4, R4⟩
        case measure => simp [Go.RowKit.intOf]; omega
      · gi_wp2
        refine bodyPost_ret (results_none rfl _ _ _) rfl ?_
        exact ⟨⟨_, rfl⟩, .inr ⟨_, by rw [HYS.out]; exact List.take_prefix _ _, hJx3⟩⟩
    · obtain rfl : k = L.length := by omega
      gi_wp2
      go_end0
      exact ⟨⟨_, rfl⟩, .inl ⟨ys, by rw [hys, List.take_length], hJs⟩⟩

theorem all_stops (n : Nat) (hn : 6 ≤ n) (Bp b mb nn : Nat) (L : List En) (room : Int) (w : World) (h1 : Bp < w.heap.size) (hBp : w.cell? ⟨Bp, 0, none⟩ = some (.pointer (some ⟨b, 0, none⟩))) (hX : XV w b mb L room nn) (hnn : nn ≤ 1000) :
    SeqStopsK Fence.wide n Try.prog 30 #[.pointer (some ⟨Bp, 0, none⟩)] (encE L) (Kt w.heap.size) (fun ys => ys.map (·.1) = L) (fun ys => ys.map (·.1) <+: L) L.length w := fun l J Jx W hW hJ _ hY h0 =>
  all1_in n hn l Bp b mb nn w.heap.size L room W J Jx hJ hY ((hW.cell (p := ⟨Bp, 0, none⟩) h1).trans hBp) (hX.below hW (Nat.le_refl _)) hnn hW.size h0
theorem all_stops_none (n : Nat) (hn : 1 ≤ n) (Bp : Nat) (w : World) (h1 : Bp < w.heap.size) (hBp : w.cell? ⟨Bp, 0, none⟩ = some (.pointer none)) :
    SeqStopsK Fence.wide n Try.prog 30 #[.pointer (some ⟨Bp, 0, none⟩)] (encE []) (Kt w.heap.size) (fun ys => ys.map (·.1) = []) (fun ys => ys.map (·.1) <+: []) 0 w := fun l J Jx W hW hJ _ hY h0 => by
  refine (all_none_in n hn l Bp W ((hW.cell (p := ⟨Bp, 0, none⟩) h1).trans hBp)).mono ?_
  rintro e W' ⟨he, rfl⟩
  exact ⟨he, .inl ⟨[], rfl, h0⟩⟩

set_option maxHeartbeats 1000000 in
theorem all_in (n : Nat) (v : Value) (w : World) (hv : v.oneCell' = true) (hc : v.cells = #[v]) :
    CallsIn Fence.wide n Try.prog 23 #[v] w fun e w' => e = .returned (.func (.func 30) #[] #[.pointer (some ⟨w.heap.size, 0, none⟩)]) ∧ w' = w.alloc (.cells #[v] 24) := by
  refine callsIn_of_wp Try.func23 rfl trivial ?_ rfl
  simp only [Try.ntmps23, List.size_toArray, List.length_cons, List.length_nil, Nat.reduceAdd, Nat.reduceSub, Array.replicate_succ, Array.replicate_zero, List.push_toArray, List.append_toArray, List.nil_append, List.cons_append]
  gi_wp2
  go_ret
  exact ⟨rfl, by first | rfl | rw [hc]⟩
end Go.Proofs.Ytpljpndegadckaa
