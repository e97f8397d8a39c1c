/- Proved here: the walk of LedgerRoom. Conditions: as each theorem states them. -/
import Derived.Deep.LoopGhost
import Derived.Test.YtpljpndegadckaaAw
import Derived.Test.YtpljpndegadckaaAl
namespace Go.Proofs.Ytpljpndegadckaa
set_option linter.unusedSimpArgs false
set_option linter.unusedVariables false
open Go.RowKit Go.Shelf
attribute [local go_sem] Oper.semAt_some

theorem all_calls (v : Value) (w : World) (hv : v.oneCell' = true) (hc : v.cells = #[v]) : Calls Try.prog 23 #[v] w fun e w' => e = .returned (.func (.func 30) #[] #[.pointer (some ⟨w.heap.size, 0, none⟩)]) ∧ w' = w.alloc (.cells #[v] 24) :=
  callsIn_wide.1 (all_in 0 v w hv hc)
/-- An end that is no panic. -/
def calm (Q : Exit → Act → World → Prop) : Exit → Act → World → Prop
  | .ret, a, w => Q .ret a w
  | .normal, a, w => Q .normal a w
  | _, _, _ => False
theorem wp_calm {P : Program} {c : Code} {Q : Exit → Act → World → Prop} {a : Act} {w : World} (h : c.wp P (calm Q) a w) : c.wp P Q a w :=
  wp_mono h fun e a w h => by cases e <;> first | exact h | exact h.elim

/-- A function leaves with marks: they hold no calls. -/
abbrev marks (Ds : List Nat) : List Deferred := Ds.map fun D => { target := .collected D, args := #[] }
theorem leaves_marks {fn : Func} {tmps : Array Value} {R : Ending → World → Prop} {n : Nat} (w : World) (n0 rb : Nat) (v : Value) (t : TypeId) :
    ∀ (Ds : List Nat) (W : World), Ds.Nodup → (∀ D ∈ Ds, W.heap[D]? = some (.deferred (some []))) → (∀ D ∈ Ds, n0 ≤ D) → BK W rb #[v] t → Below n0 w W →
      (∀ W', BK W' rb #[v] t → Below n0 w W' → LeavesIn Fence.wide n Try.prog fn tmps R [] .returning W') → LeavesInM Fence.wide n Try.prog fn tmps R (marks Ds) .returning W
  | [], W, _, _, _, hb, hB, hR => hR W hb hB
  | D :: Ds, W, hnd, hD, hn, hb, hB, hR => by
    have h0 := hD D (List.mem_cons_self ..)
    have hDr : rb ≠ D := fun e => by rw [e] at hb; rw [show W.heap[D]? = _ from hb] at h0; cases h0
    refine ⟨by simp, .inl ⟨D, _, rfl, run_takeDeferred h0, ?_⟩⟩
    refine leaves_marks w n0 rb v t Ds _ (List.nodup_cons.1 hnd).2 (fun D' hD' => ?_) (fun D' hD' => hn D' (List.mem_cons_of_mem _ hD')) ((World.putObj_heap_other hDr).trans hb) (hB.trans ⟨rfl, rfl, rfl, by simp, fun k hk => World.putObj_heap_other (by have := hn D (List.mem_cons_self ..); omega)⟩) hR
    refine (World.putObj_heap_other (fun e => ?_)).trans (hD D' (List.mem_cons_of_mem _ hD'))
    subst e
    exact (List.nodup_cons.1 hnd).1 hD'
theorem fin_marks {fn : Func} (n : Nat) (TT : Array Value) (Ds : List Nat) (Z w : World) (n0 rb : Nat) (hres : ∀ W', BK W' rb #[.bool true] 4 → (results fn TT).run Try.prog W' = .ok (.bool true) W')
    (hnd : Ds.Nodup) (hD : ∀ D ∈ Ds, Z.heap[D]? = some (.deferred (some []))) (hn : ∀ D ∈ Ds, n0 ≤ D) (hb : BK Z rb #[.bool true] 4) (hB : Below n0 w Z) :
    calm (bodyPostM Fence.wide n Try.prog fn (fun e w' => e = .returned (.bool true) ∧ Below n0 w w')) .ret { tmps := TT, defers := marks Ds } Z := by
  refine leaves_marks w n0 rb (.bool true) 4 Ds Z hnd hD hn hb hB (fun W' h1 h2 => ?_)
  exact ⟨.bool true, hres W' h1, rfl, h2⟩

/-! ### What is told in a round, and how it is in order -/
theorem sumL_append (P R : List En) : sumL (P ++ R) = sumL P + sumL R := by
  induction P with
  | nil => simp [sumL]
  | cons x P ih => rw [List.cons_append, sumL, sumL, ih]; omega
theorem sum_pre {P L : List En} (hp : P <+: L) (ho : ∀ x ∈ L, 0 ≤ x.2) : 0 ≤ sumL P ∧ sumL P ≤ sumL L := by
  obtain ⟨R, rfl⟩ := hp
  rw [sumL_append]
  have h1 : 0 ≤ sumL P := sum_nonneg fun x hx => ho x (List.mem_append_left _ hx)
  have h2 : 0 ≤ sumL R := sum_nonneg fun x hx => ho x (List.mem_append_right _ hx)
  omega
theorem pre_lt {P L : List En} {z y : En} (hs : Srt L) (hz : P.getLast? = some z) (hp : P ++ [y] <+: L) : z.1 < y.1 := by
  obtain ⟨R, rfl⟩ := hp
  have h1 := (List.pairwise_append.1 hs).1
  exact (List.pairwise_append.1 h1).2.2 z (List.mem_of_getLast? hz) y (List.mem_singleton.2 rfl)
/-- What the variables hold when so much has been told. -/
structure Told (L P : List En) (N la : Int) (fi : Bool) : Prop where
  first : fi = true → P = []
  last : fi = false → ∃ z, P.getLast? = some z ∧ la = z.1
  sum : P <+: L → N = sumL P
theorem Told.nil (L : List En) : Told L [] 0 0 true := ⟨fun _ => rfl, fun h => (by cases h), fun _ => rfl⟩
theorem Told.snoc {L P : List En} {N la room : Int} {fi : Bool} (h : Told L P N la fi) (ho : Ok L room) (y : En) : Told L (P ++ [y]) (IntKind.i64.wrap (N + y.2)) y.1 false :=
  ⟨fun h => (by cases h), fun _ => ⟨y, by simp, rfl⟩, fun hp => by
    have h1 := h.sum ((List.prefix_append P [y]).trans hp)
    have h2 := sum_pre hp ho.pos
    have e : sumL [y] = y.2 := by simp [sumL]
    rw [sumL_append, e] at h2 ⊢
    have h3 := ho.sum
    have h4 := ho.room
    rw [h1, IntKind.wrap_i64]; omega⟩
theorem Told.not {L P : List En} {N la : Int} (h : Told L P N la false) (hs : Srt L) {y : En} (hy : y.1 ≤ la) : ¬ (P ++ [y] <+: L) := fun hp => by
  obtain ⟨z, hz, e⟩ := h.last rfl
  have := pre_lt hs hz hp
  omega

/-- The three variables of a round, in blocks of their own. -/
structure RI (Wd W : World) (bn : Nat) (N la : Int) (fi : Bool) : Prop where
  n : BK W bn #[.int .i64 N] 3
  l : BK W (bn + 1) #[.int .i64 la] 3
  f : BK W (bn + 1 + 1) #[.bool fi] 4
  b : Below bn Wd W
  s : bn + 4 ≤ W.heap.size
theorem RI.new (Wd : World) (v : Value) (t : TypeId) : ∃ W0, (((Wd.alloc (.cells #[.int .i64 0] 3)).alloc (.cells #[.int .i64 0] 3)).alloc (.cells #[.bool true] 4)).alloc (.cells #[v] t) = W0 ∧
    RI Wd W0 Wd.heap.size 0 0 true ∧ BK W0 (Wd.heap.size + 1 + 1 + 1) #[v] t ∧ W0.heap.size = Wd.heap.size + 4 := by
  refine ⟨_, rfl, ?_, ?_, by simp⟩
  · have n1 := bk_new Wd #[.int .i64 0] 3
    have n2 := bk_new (Wd.alloc (.cells #[.int .i64 0] 3)) #[.int .i64 0] 3
    have n3 := bk_new ((Wd.alloc (.cells #[.int .i64 0] 3)).alloc (.cells #[.int .i64 0] 3)) #[.bool true] 4
    simp only [World.size_alloc] at n2 n3
    exact ⟨((n1.alloc _).alloc _).alloc _, (n2.alloc _).alloc _, n3.alloc _, (((((Below.refl _ Wd).alloc (Nat.le_refl _) _).alloc (by simp) _).alloc (by simp; omega) _).alloc (by simp; omega) _), by simp⟩
  · have n4 := bk_new (((Wd.alloc (.cells #[.int .i64 0] 3)).alloc (.cells #[.int .i64 0] 3)).alloc (.cells #[.bool true] 4)) #[v] t
    simpa only [World.size_alloc] using n4
theorem RI.grown {Wd X Y : World} {bn m : Nat} {N la : Int} {fi : Bool} {row : Option Nat} (h : RI Wd X bn N la fi) (hg : X.grownBy Y row) (hr : ∀ r, row = some r → m ≤ r) (hm : bn + 4 ≤ m) : RI Wd Y bn N la fi :=
  have q : ∀ k, k < bn + 4 → Y.heap[k]? = X.heap[k]? := fun k hk => hg.block k (by have := h.s; omega) (fun e => by have := hr k e.symm; omega)
  ⟨(q _ (by omega)).trans h.n, (q _ (by omega)).trans h.l, (q _ (by omega)).trans h.f, h.b.trans ⟨hg.os, hg.tape, hg.output, hg.size, fun k hk => q k (by omega)⟩, Nat.le_trans h.s hg.size⟩
/-- A round's end: the need added, the number kept, no longer the first. -/
theorem RI.next {Wd W : World} {bn : Nat} {N la : Int} {fi : Bool} (h : RI Wd W bn N la fi) (N' la' : Int) :
    RI Wd (((W.setCell ⟨bn, 0, none⟩ (.int .i64 N')).setCell ⟨bn + 1, 0, none⟩ (.int .i64 la')).setCell ⟨bn + 1 + 1, 0, none⟩ (.bool false)) bn N' la' false := by
  have q1 : ∀ k, k ≠ bn → (W.setCell ⟨bn, 0, none⟩ (.int .i64 N')).heap[k]? = W.heap[k]? := fun k hk => Below.heap_setCell _ _ _ _ hk
  have q2 : ∀ k, k ≠ bn + 1 → ((W.setCell ⟨bn, 0, none⟩ (.int .i64 N')).setCell ⟨bn + 1, 0, none⟩ (.int .i64 la')).heap[k]? = (W.setCell ⟨bn, 0, none⟩ (.int .i64 N')).heap[k]? := fun k hk => Below.heap_setCell _ _ _ _ hk
  have q3 : ∀ k, k ≠ bn + 1 + 1 → (((W.setCell ⟨bn, 0, none⟩ (.int .i64 N')).setCell ⟨bn + 1, 0, none⟩ (.int .i64 la')).setCell ⟨bn + 1 + 1, 0, none⟩ (.bool false)).heap[k]? = ((W.setCell ⟨bn, 0, none⟩ (.int .i64 N')).setCell ⟨bn + 1, 0, none⟩ (.int .i64 la')).heap[k]? := fun k hk => Below.heap_setCell _ _ _ _ hk
  refine ⟨(q3 _ (by omega)).trans ((q2 _ (by omega)).trans (h.n.set 0 _)), (q3 _ (by omega)).trans (BK.set (show BK _ _ #[.int .i64 la] 3 from (q1 _ (by omega)).trans h.l) 0 _), BK.set (show BK _ _ #[.bool fi] 4 from (q2 _ (by omega)).trans ((q1 _ (by omega)).trans h.f)) 0 _, ?_, ?_⟩
  · exact ((h.b.setCell (p := ⟨bn, 0, none⟩) (Nat.le_refl _) _).setCell (p := ⟨bn + 1, 0, none⟩) (Nat.le_succ _) _).setCell (p := ⟨bn + 1 + 1, 0, none⟩) (by show bn ≤ bn + 1 + 1; omega) _
  · have := h.s; simpa [World.setCell] using this
theorem RI.kt {W : World} {bn : Nat} (x y z : Value) : Kt (bn + 4) W (((W.setCell ⟨bn, 0, none⟩ x).setCell ⟨bn + 1, 0, none⟩ y).setCell ⟨bn + 1 + 1, 0, none⟩ z) :=
  ((Kt.but (m := bn + 4) ((But.refl bn W.heap.size W).set (p := ⟨bn, 0, none⟩) rfl _) (Nat.le_refl _) (by omega)).trans
    (Kt.but (m := bn + 4) ((But.refl (bn + 1) (W.setCell ⟨bn, 0, none⟩ x).heap.size (W.setCell ⟨bn, 0, none⟩ x)).set (p := ⟨bn + 1, 0, none⟩) rfl _) (Nat.le_refl _) (by omega))).trans
    (Kt.but (m := bn + 4) ((But.refl (bn + 1 + 1) ((W.setCell ⟨bn, 0, none⟩ x).setCell ⟨bn + 1, 0, none⟩ y).heap.size ((W.setCell ⟨bn, 0, none⟩ x).setCell ⟨bn + 1, 0, none⟩ y)).set (p := ⟨bn + 1 + 1, 0, none⟩) rfl _) (Nat.le_refl _) (by omega))
/-- What holds when so much has been told. -/
def RT (Wd W : World) (bn : Nat) (T P : List En) : Prop := ∃ N la fi, RI Wd W bn N la fi ∧ Told T P N la fi
theorem keeps3 (m : Nat) (W : World) (a b c : Addr) (x y z : Value) : KeepsFrom m W (((W.setCell a x).setCell b y).setCell c z) :=
  (((KeepsOthers.setCell W a x).from m).trans ((KeepsOthers.setCell _ b y).from m)).trans ((KeepsOthers.setCell _ c z).from m)

set_option maxHeartbeats 8000000 in
set_option maxRecDepth 100000 in
theorem room_in (r0 : Int) (s : Option Addr) (len cap : Nat) (M : List Op3) (hl100 : len ≤ 100) (w : World) (hL : IsO w.heap.size w s len M) (hwf : ∀ x ∈ M, okI x.1 ∧ okI x.2.1 ∧ okI x.2.2) :
    CallsIn Fence.wide 9 Try.prog 4 #[.int .i64 r0, .slice s len cap] w fun e w' => e = .returned (.bool true) ∧ Below w.heap.size w w' := by
  have q1 : decide (100 < (len : Int)) = false := by simp; omega
  have hlim : max 0 (min r0 1152921504606846976) = roomN r0 := by unfold roomN; omega
  refine callsIn_of_wp_marks Try.func4 rfl trivial ?_ rfl
  refine wpIn_wide.2 (wp_calm ?_)
  simp only [Try.ntmps4, List.size_toArray, List.length_cons, List.length_nil, Nat.reduceAdd, Nat.reduceSub, Array.replicate_succ, Array.replicate_zero, List.push_toArray, List.append_toArray, List.nil_append, List.cons_append]
  have S0 := bk_new w #[.bool false] 4
  have B0 := below_box w (.cells #[.bool false] 4)
  go_wp2_with fail
  refine (awake_calls _).mono ?_
  rintro x w1 ⟨rfl, b1⟩
  have S1 := S0.below b1 S0.lt
  have B1 := B0.trans (b1.mono B0.size)
  have hn1 : w.heap.size + 1 ≤ w1.heap.size := by have := S1.lt; omega
  clear S0 B0 b1
  go_wp2_with fail
  refine (new_calls r0 _).mono ?_
  rintro x w2 ⟨rfl, X2, b2⟩
  have S2 := S1.below b2 S1.lt
  have B2 := B1.trans (b2.mono B1.size)
  have hmb : w.heap.size + 1 ≤ w1.heap.size := hn1
  have hb : w.heap.size + 1 ≤ w1.heap.size + 1 := by omega
  clear S1 B1 b2 hn1
  generalize w1.heap.size + 1 = b at *
  generalize w1.heap.size = mb at *
  clear w1
  go_wp2
  generalize roomN r0 = room at *
  have hb2 : b < w2.heap.size := X2.lt
  have hm2 : mb < w2.heap.size := X2.mlt
  refine wp_loop_ghost_k (fun cnt act wr => ∃ (u7 u8 u9 u10 u29 u30 u31 u32 u33 u34 u35 u36 u37 u38 u56 u57 u58 u59 u60 u61 u62 u63 u64 u65 u66 u67 u68 u69 u70 u71 u72 u73 : Value) (i : Nat) (Ds : List Nat) (L : List En), act = { tmps := #[.int .i64 r0, .slice s len cap, undef, undef, .pointer (some ⟨w.heap.size, 0, none⟩), .pointer (some ⟨b, 0, none⟩), .int .i64 room, u7, u8, u9, u10, undef, undef, .bool true, .bool false, .bool false, .slice s len cap, .int .i64 (len : Int), .bool false, .bool false, undef, .int .i64 r0, .pointer (some ⟨b, 0, none⟩), .int .i64 r0, .int .i64 (min r0 1152921504606846976), .int .i64 room, .slice s len cap, .int .i64 (len : Int), .int .i64 (i : Int), u29, u30, u31, u32, u33, u34, u35, u36, u37, u38, undef, undef, undef, undef, undef, undef, undef, undef, undef, undef, undef, undef, undef, undef, undef, undef, undef, u56, u57, u58, u59, u60, u61, u62, u63, u64, u65, u66, u67, u68, u69, u70, u71, u72, u73], defers := marks Ds } ∧ i ≤ len ∧ cnt = len - i ∧ XV wr b mb L room i ∧ BK wr w.heap.size #[.bool false] 4 ∧ Below w.heap.size w wr ∧ Ds.Nodup ∧ (∀ D ∈ Ds, wr.heap[D]? = some (.deferred (some []))) ∧ (∀ D ∈ Ds, w2.heap.size ≤ D) ∧ w2.heap.size ≤ wr.heap.size) len ⟨_, _, _, _, _, _, _, _, _, _, _, _, _, _, _, _, _, _, _, _, _, _, _, _, _, _, _, _, _, _, _, _, 0, [], [], rfl, Nat.zero_le _, rfl, X2, S2, B2, List.nodup_nil, (fun D hD => by cases hD), (fun D hD => by cases hD), Nat.le_refl _⟩ ?_
  clear X2 S2 B2 hlim q1
  rintro gk act wr ⟨u7, u8, u9, u10, u29, u30, u31, u32, u33, u34, u35, u36, u37, u38, u56, u57, u58, u59, u60, u61, u62, u63, u64, u65, u66, u67, u68, u69, u70, u71, u72, u73, i, Ds, L, rfl, hi, rfl, X4, S4, B4, hnd, hD4, hDlo, hsz⟩
  intro J K hJ hK
  by_cases hlt : i < len
  · obtain ⟨g, off, x, rfl, hg, hx, hc⟩ := hL.at hlt
    have hxw := hwf x (List.mem_of_getElem? hx)
    obtain ⟨c0, c1, c2⟩ := hc _ B4
    have q7 : decide ((i : Int) < (len : Int)) = true := by simp; omega
    have hdo := do_calls X4 (by omega) x hxw
    clear hx hc
    go_wp2_with fail
    refine hdo.mono ?_
    rintro e w5 ⟨rfl, X5, q5⟩
    have B5 := B4.trans (q5.below B4.size (by omega) (by omega))
    have S5 := S4.but2 q5 S4.lt (by omega) (by omega)
    have D5 : ∀ D ∈ Ds, w5.heap[D]? = some (.deferred (some [])) := fun D hD => (q5.block D (Array.getElem?_eq_some_iff.1 (hD4 D hD)).1 (by have := hDlo D hD; omega) (by have := hDlo D hD; omega)).trans (hD4 D hD)
    have hsz5 : w2.heap.size ≤ w5.heap.size := Nat.le_trans hsz q5.size
    clear hdo X4 B4 S4 hD4 q5 c0 c1 c2 hsz
    generalize doL L room x = T at *
    obtain ⟨W0, hW0, I0, P0, z0⟩ := RI.new w5 (.pointer (some ⟨b, 0, none⟩)) 24
    go_wp2_with fail
    refine (all_calls _ _ rfl rfl).mono ?_
    rintro e w8 ⟨rfl, e8⟩
    rw [e8, hW0]
    clear e8 hW0
    simp only [World.size_alloc]
    go_wp2
    rename_i KQ hKQ K2 hK2 KK hKK
    have hok := X5.ok
    obtain ⟨bn, hbn⟩ : ∃ bn, w5.heap.size = bn := ⟨_, rfl⟩
    rw [hbn] at I0 P0 z0 ⊢
    have HBN : Hid (w5.heap.size = bn) := hbn
    have XW := X5.below I0.b (Nat.le_of_eq hbn)
    clear hbn w8
    refine (wpIn_wide (n := 9)).1 ?_
    refine wpIn_rangeFunc_ownH (α := { z : En // z ∈ T }) rfl (by omega) (gf := 30) (lb := #[.pointer (some ⟨bn + 1 + 1 + 1, 0, none⟩)]) rfl trivial (enters_of Try.func30 (by kernel_rfl) rfl)
      (all_stops (9 - 1) (by omega) (bn + 1 + 1 + 1) b mb (i + 1) T room W0 (by omega) (P0.cell 0 _ rfl) XW (by omega)) Kt.trans Kt.put (Below.refl _ _) (fun _ => rfl)
      (fun (pre : List { z : En // z ∈ T }) W => RT w5 W bn T (pre.map fun (z : { z : En // z ∈ T }) => z.1))
      (fun _ (pre : List { z : En // z ∈ T }) W => ¬ (pre.map fun (z : { z : En // z ∈ T }) => z.1) <+: T)
      (fun (pre : List { z : En // z ∈ T }) X Y row hh hg hr => by
        obtain ⟨N, la, fi, h1, h2⟩ := hh
        exact ⟨N, la, fi, h1.grown (m := W0.heap.size) hg (fun r e => (hr r e).1) (by omega), h2⟩)
      (fun _ (pre : List { z : En // z ∈ T }) X Y row hh _ _ => hh)
      ⟨0, 0, true, I0, Told.nil T⟩
      (fun y a' W => a' = { tmps := #[.int .i64 r0, .slice (some ⟨g, off, none⟩) len cap, undef, undef, .pointer (some ⟨w.heap.size, 0, none⟩), .pointer (some ⟨b, 0, none⟩), .int .i64 room, .int .i64 (i : Int), .pointer (some ⟨bn, 0, none⟩), .pointer (some ⟨bn + 1, 0, none⟩), .pointer (some ⟨bn + 1 + 1, 0, none⟩), .int .i64 y.1.1, .int .i64 y.1.2, .bool true, .bool false, .bool false, .slice (some ⟨g, off, none⟩) len cap, .int .i64 (len : Int), .bool false, .bool false, undef, .int .i64 r0, .pointer (some ⟨b, 0, none⟩), .int .i64 r0, .int .i64 (min r0 1152921504606846976), .int .i64 room, .slice (some ⟨g, off, none⟩) len cap, .int .i64 (len : Int), .int .i64 (i : Int), .bool true, .int .i64 (i : Int), .pointer (some ⟨b, 0, none⟩), .slice (some ⟨g, off, none⟩) len cap, .int .i64 (i : Int), .pointer (some ⟨g, off + i * 3, none⟩), .agg #[.int .i64 x.1, .int .i64 x.2.1, .int .i64 x.2.2], .tuple #[.int .i64 (doE L room x), .int .i64 (doN L x)], .pointer (some ⟨b, 0, none⟩), .func (.func 30) #[] #[.pointer (some ⟨bn + 1 + 1 + 1, 0, none⟩)], .int .i64 y.1.1, .int .i64 y.1.2, undef, undef, undef, undef, undef, undef, undef, undef, undef, undef, undef, undef, undef, undef, undef, u56, u57, u58, u59, u60, u61, u62, u63, u64, u65, u66, u67, u68, u69, u70, u71, u72, u73], defers := [] })
      (fun y a' u X Y row hs hgr hr => hs) ?assign ?body ?done ?stop
    case assign =>
      rintro l pre y W K' ⟨N, la, fi, h1, h2⟩ hK'
      gi_wp2
      exact hK' _ _ (KeepsFrom.refl _ _) (Kt.refl _ _) ⟨N, la, fi, h1, h2⟩ rfl
    case body =>
      rintro l pre y a' W hl _ ⟨N, la, fi, h1, h2⟩ rfl hlt'
      have HM : Hid (((pre ++ [y]).map fun (z : { z : En // z ∈ T }) => z.1) = (pre.map fun (z : { z : En // z ∈ T }) => z.1) ++ [y.1]) := by show _ = _; rw [List.map_append]; rfl
      have HNX0 : Told T ((pre.map fun (z : { z : En // z ∈ T }) => z.1) ++ [y.1]) (IntKind.i64.wrap (N + y.1.2)) y.1.1 false := h2.snoc hok y.1
      obtain ⟨N', hN'⟩ : ∃ N', IntKind.i64.wrap (N + y.1.2) = N' := ⟨_, rfl⟩
      rw [hN'] at HNX0
      have HNX : Hid (Told T ((pre.map fun (z : { z : En // z ∈ T }) => z.1) ++ [y.1]) N' y.1.1 false) := HNX0
      clear HNX0
      have hneg : decide (y.1.2 < 0) = false := by have := hok.pos y.1 y.2; simp; omega
      have HRI : Hid (∀ N' la', RI w5 (((W.setCell ⟨bn, 0, none⟩ (.int .i64 N')).setCell ⟨bn + 1, 0, none⟩ (.int .i64 la')).setCell ⟨bn + 1 + 1, 0, none⟩ (.bool false)) bn N' la' false) := fun N' la' => h1.next N' la'
      have k8 := h1.n.cell 0 _ rfl
      have k9 := h1.l.cell 0 _ rfl
      have k10 := h1.f.cell 0 _ rfl
      have f8 := h1.n.frozen 0
      have f9 := h1.l.frozen 0
      have f10 := h1.f.frozen 0
      have krb := ((S5.below h1.b (by have := S5.lt; have := HBN.out; omega)).cell 0 _ rfl)
      have frb := ((S5.below h1.b (by have := S5.lt; have := HBN.out; omega)).frozen 0)
      clear h1
      cases fi with
      | true =>
        clear h2
        gi_wp2
        refine ⟨keeps3 _ _ _ _ _ _ _ _, by first | exact RI.kt _ _ _ | (rw [z0]; exact RI.kt _ _ _), ?_⟩
        show RT _ _ _ _ ((pre ++ [y]).map fun (z : { z : En // z ∈ T }) => z.1)
        rw [HM.out]; exact ⟨_, _, false, HRI.out _ _, HNX.out⟩
      | false =>
        by_cases hle : y.1.1 ≤ la
        · have HNO : Hid (¬ ((pre.map fun (z : { z : En // z ∈ T }) => z.1) ++ [y.1] <+: T)) := h2.not hok.srt hle
          have hled : decide (y.1.1 ≤ la) = true := decide_eq_true hle
          clear h2
          gi_wp2
          refine ⟨(KeepsOthers.setCell _ _ _).from _, ?_⟩
          show ¬ ((pre ++ [y]).map fun (z : { z : En // z ∈ T }) => z.1) <+: T
          rw [HM.out]; exact HNO.out
        · have hled : decide (y.1.1 ≤ la) = false := decide_eq_false hle
          clear h2
          gi_wp2
          refine ⟨keeps3 _ _ _ _ _ _ _ _, by first | exact RI.kt _ _ _ | (rw [z0]; exact RI.kt _ _ _), ?_⟩
          show RT _ _ _ _ ((pre ++ [y]).map fun (z : { z : En // z ∈ T }) => z.1)
          rw [HM.out]; exact ⟨_, _, false, HRI.out _ _, HNX.out⟩
    case done =>
      rintro D ys W hD hys ⟨N, la, fi, h1, h2⟩ hd
      rw [hys] at h2
      obtain rfl := h2.sum (List.prefix_refl T)
      have bW := h1.b
      have hle5 : w5.heap.size = bn := HBN.out
      have X6 := X5.below bW (Nat.le_of_eq hle5)
      have S6 := S5.below bW (by have := S5.lt; omega)
      have B6 := B5.trans (bW.mono (by have := B5.size; omega))
      have N6 := h1.n
      have hDS : ∀ D' ∈ D :: Ds, W.heap[D']? = some (.deferred (some [])) := fun D' h => by
        rcases List.mem_cons.1 h with rfl | h
        · exact hd
        · exact (bW.block D' (by have := (Array.getElem?_eq_some_iff.1 (D5 D' h)).1; omega)).trans (D5 D' h)
      have HND : Hid ((D :: Ds).Nodup ∧ ∀ D' ∈ D :: Ds, w2.heap.size ≤ D') := by
        refine ⟨List.nodup_cons.2 ⟨fun h => ?_, hnd⟩, fun D' h => ?_⟩
        · have := (Array.getElem?_eq_some_iff.1 (D5 D h)).1; omega
        · rcases List.mem_cons.1 h with rfl | h
          · omega
          · exact hDlo D' h
      have hszW : w2.heap.size ≤ W.heap.size := by have := bW.size; omega
      have X7 := X6.drew
      have N7 : BK W.drew bn #[.int .i64 (sumL T)] 3 := N6
      have n8 := N7.cell 0 _ rfl
      have hnn := hok.nn
      have hsum := hok.sum
      have hrm := hok.room
      have hn1 : (sumL T != sumL T) = false := by simp
      have hn2 : decide (room < sumL T) = false := by simp; omega
      have hws : IntKind.i64.wrap (room - sumL T) = room - sumL T := by rw [IntKind.wrap_i64]; omega
      have hn3 : (room - sumL T != room - sumL T) = false := by simp
      clear hnn hsum hrm h1 h2 XW X5 S5 B5 D5 I0 P0 z0 hd hD bW hle5 hDlo hnd hys
      refine hKK _ _ ?_
      clear hKK
      go_wp2_with fail
      refine wp_region_held_drew (S := (fun w' => w'.cell? ⟨bn, 0, none⟩ = some (.int .i64 (sumL T)))) (by kernel_rfl) n8 (fun hHeld => ?_)
      refine wpAnyH_take (i := 0) (oi := ({ dst := some 56, op := Op.move (Operand.tmp 5), type := 24, pos := _, after := #[], guard := none } : Oper)) (v := ?_) rfl (by kernel_rfl) (by kernel_rfl) (by kernel_rfl) (fun _ _ _ h => h) (Or.inl ⟨by rfl, ?_⟩) hHeld ?_
      rotate_left
      · (intro w hS; go_simp; try with_reducible rfl)
      try simp only [Act.put, List.setIfInBounds_toArray, List.set_cons_zero, List.set_cons_succ]
      refine wpAnyH_take (i := 2) (oi := ({ dst := some 58, op := Op.load 3 (Operand.tmp 8), type := 3, pos := _, after := #[], guard := none } : Oper)) (v := ?_) rfl (by kernel_rfl) (by kernel_rfl) (by kernel_rfl) (fun _ _ _ h => h) (Or.inl ⟨by rfl, ?_⟩) hHeld ?_
      rotate_left
      · (intro w hS; go_simp; try with_reducible rfl)
      try simp only [Act.put, List.setIfInBounds_toArray, List.set_cons_zero, List.set_cons_succ]
      refine wpAnyH_ready (rs := [1]) (by kernel_rfl) (by simp) ?_
      refine AllReadyH.cons (o := ({ dst := some 57, op := Op.call { callee := Callee.value (Operand.func 18), args := #[Operand.tmp 56], argTypes := #[24] }, type := 3, pos := _, after := #[{ on := 0, ground := Ground.data }], guard := none } : Oper)) rfl (fun K hK => ?_) AllReadyH.nil
      refine step_call (used_calls X7) (enters_of Try.func18 (by kernel_rfl) rfl) _ _ rfl rfl rfl ?_
      rintro e w20 ⟨rfl, e20⟩
      rw [e20]
      clear e20
      refine ⟨_, rfl, hK.out _ _ n8 (fun hHeld => ?_)⟩
      clear hK K
      try simp only [Act.put, List.setIfInBounds_toArray, List.set_cons_zero, List.set_cons_succ]
      refine wpAnyH_take (i := 3) (oi := ({ dst := some 59, op := Op.binOp BinOp.neq 3 (Operand.tmp 57) (Operand.tmp 58) 3, type := 4, pos := _, after := #[{ on := 1, ground := Ground.data }, { on := 2, ground := Ground.data }], guard := none } : Oper)) (v := ?_) rfl (by kernel_rfl) (by kernel_rfl) (by kernel_rfl) (fun _ _ _ h => h) (Or.inl ⟨by rfl, ?_⟩) hHeld ?_
      rotate_left
      · (intro w hS; go_simp; try with_reducible rfl)
      try simp only [Act.put, List.setIfInBounds_toArray, List.set_cons_zero, List.set_cons_succ]
      try rw [hn1]
      refine wpAnyH_take (i := 4) (oi := ({ dst := some 60, op := Op.move (Operand.tmp 59), type := 4, pos := _, after := #[{ on := 3, ground := Ground.data }, { on := 1, ground := Ground.chain }], guard := none } : Oper)) (v := ?_) rfl (by kernel_rfl) (by kernel_rfl) (by kernel_rfl) (fun _ _ _ h => h) (Or.inl ⟨by rfl, ?_⟩) hHeld ?_
      rotate_left
      · (intro w hS; go_simp; try with_reducible rfl)
      try simp only [Act.put, List.setIfInBounds_toArray, List.set_cons_zero, List.set_cons_succ]
      refine wpAnyH_take (i := 5) (oi := ({ dst := some 61, op := Op.load 3 (Operand.tmp 8), type := 3, pos := _, after := #[{ on := 4, ground := Ground.guard }], guard := some (4, false) } : Oper)) (v := ?_) rfl (by kernel_rfl) (by kernel_rfl) (by kernel_rfl) (fun _ _ _ h => h) (Or.inl ⟨by rfl, ?_⟩) hHeld ?_
      rotate_left
      · (intro w hS; go_simp; try with_reducible rfl)
      try simp only [Act.put, List.setIfInBounds_toArray, List.set_cons_zero, List.set_cons_succ]
      refine wpAnyH_take (i := 6) (oi := ({ dst := some 62, op := Op.move (Operand.tmp 6), type := 3, pos := _, after := #[{ on := 4, ground := Ground.guard }], guard := some (4, false) } : Oper)) (v := ?_) rfl (by kernel_rfl) (by kernel_rfl) (by kernel_rfl) (fun _ _ _ h => h) (Or.inl ⟨by rfl, ?_⟩) hHeld ?_
      rotate_left
      · (intro w hS; go_simp; try with_reducible rfl)
      try simp only [Act.put, List.setIfInBounds_toArray, List.set_cons_zero, List.set_cons_succ]
      refine wpAnyH_take (i := 7) (oi := ({ dst := some 63, op := Op.binOp BinOp.gtr 3 (Operand.tmp 61) (Operand.tmp 62) 3, type := 4, pos := _, after := #[{ on := 5, ground := Ground.data }, { on := 6, ground := Ground.data }, { on := 4, ground := Ground.guard }], guard := some (4, false) } : Oper)) (v := ?_) rfl (by kernel_rfl) (by kernel_rfl) (by kernel_rfl) (fun _ _ _ h => h) (Or.inl ⟨by rfl, ?_⟩) hHeld ?_
      rotate_left
      · (intro w hS; go_simp; try with_reducible rfl)
      try simp only [Act.put, List.setIfInBounds_toArray, List.set_cons_zero, List.set_cons_succ]
      try rw [hn2]
      refine wpAnyH_take (i := 8) (oi := ({ dst := some 64, op := Op.pick (Operand.tmp 60) (Operand.const (Value.bool true)) (Operand.tmp 63), type := 4, pos := _, after := #[{ on := 4, ground := Ground.data }, { on := 7, ground := Ground.data }], guard := none } : Oper)) (v := ?_) rfl (by kernel_rfl) (by kernel_rfl) (by kernel_rfl) (fun _ _ _ h => h) (Or.inl ⟨by rfl, ?_⟩) hHeld ?_
      rotate_left
      · (intro w hS; go_simp; try with_reducible rfl)
      try simp only [Act.put, List.setIfInBounds_toArray, List.set_cons_zero, List.set_cons_succ]
      refine wpAnyH_take (i := 9) (oi := ({ dst := some 65, op := Op.move (Operand.tmp 64), type := 4, pos := _, after := #[{ on := 8, ground := Ground.data }, { on := 4, ground := Ground.chain }], guard := none } : Oper)) (v := ?_) rfl (by kernel_rfl) (by kernel_rfl) (by kernel_rfl) (fun _ _ _ h => h) (Or.inl ⟨by rfl, ?_⟩) hHeld ?_
      rotate_left
      · (intro w hS; go_simp; try with_reducible rfl)
      try simp only [Act.put, List.setIfInBounds_toArray, List.set_cons_zero, List.set_cons_succ]
      refine wpAnyH_take (i := 10) (oi := ({ dst := some 66, op := Op.move (Operand.tmp 5), type := 24, pos := _, after := #[{ on := 9, ground := Ground.guard }], guard := some (9, false) } : Oper)) (v := ?_) rfl (by kernel_rfl) (by kernel_rfl) (by kernel_rfl) (fun _ _ _ h => h) (Or.inl ⟨by rfl, ?_⟩) hHeld ?_
      rotate_left
      · (intro w hS; go_simp; try with_reducible rfl)
      try simp only [Act.put, List.setIfInBounds_toArray, List.set_cons_zero, List.set_cons_succ]
      refine wpAnyH_take (i := 12) (oi := ({ dst := some 68, op := Op.move (Operand.tmp 6), type := 3, pos := _, after := #[{ on := 9, ground := Ground.guard }], guard := some (9, false) } : Oper)) (v := ?_) rfl (by kernel_rfl) (by kernel_rfl) (by kernel_rfl) (fun _ _ _ h => h) (Or.inl ⟨by rfl, ?_⟩) hHeld ?_
      rotate_left
      · (intro w hS; go_simp; try with_reducible rfl)
      try simp only [Act.put, List.setIfInBounds_toArray, List.set_cons_zero, List.set_cons_succ]
      refine wpAnyH_take (i := 13) (oi := ({ dst := some 69, op := Op.load 3 (Operand.tmp 8), type := 3, pos := _, after := #[{ on := 9, ground := Ground.guard }], guard := some (9, false) } : Oper)) (v := ?_) rfl (by kernel_rfl) (by kernel_rfl) (by kernel_rfl) (fun _ _ _ h => h) (Or.inl ⟨by rfl, ?_⟩) hHeld ?_
      rotate_left
      · (intro w hS; go_simp; try with_reducible rfl)
      try simp only [Act.put, List.setIfInBounds_toArray, List.set_cons_zero, List.set_cons_succ]
      refine wpAnyH_take (i := 14) (oi := ({ dst := some 70, op := Op.binOp BinOp.sub 3 (Operand.tmp 68) (Operand.tmp 69) 3, type := 3, pos := _, after := #[{ on := 12, ground := Ground.data }, { on := 13, ground := Ground.data }, { on := 9, ground := Ground.guard }], guard := some (9, false) } : Oper)) (v := ?_) rfl (by kernel_rfl) (by kernel_rfl) (by kernel_rfl) (fun _ _ _ h => h) (Or.inl ⟨by rfl, ?_⟩) hHeld ?_
      rotate_left
      · (intro w hS; go_simp; try with_reducible rfl)
      try simp only [Act.put, List.setIfInBounds_toArray, List.set_cons_zero, List.set_cons_succ]
      try rw [hws]
      refine wpAnyH_ready (rs := [11]) (by kernel_rfl) (by simp) ?_
      refine AllReadyH.cons (o := ({ dst := some 67, op := Op.call { callee := Callee.value (Operand.func 20), args := #[Operand.tmp 66], argTypes := #[24] }, type := 3, pos := _, after := #[{ on := 10, ground := Ground.data }, { on := 9, ground := Ground.chain }, { on := 9, ground := Ground.guard }], guard := some (9, false) } : Oper)) rfl (fun K hK => ?_) AllReadyH.nil
      refine step_call (left_calls X7) (enters_of Try.func20 (by kernel_rfl) rfl) _ _ rfl rfl rfl ?_
      rintro e w27 ⟨rfl, b27⟩
      have X27 := X7.below b27 (Nat.le_refl _)
      have N27 := N7.below b27 N7.lt
      refine ⟨_, rfl, hK.out _ _ (N27.cell 0 _ rfl) (fun hHeld => ?_)⟩
      clear hK K
      try simp only [Act.put, List.setIfInBounds_toArray, List.set_cons_zero, List.set_cons_succ]
      refine wpAnyH_take (i := 15) (oi := ({ dst := some 71, op := Op.binOp BinOp.neq 3 (Operand.tmp 67) (Operand.tmp 70) 3, type := 4, pos := _, after := #[{ on := 11, ground := Ground.data }, { on := 14, ground := Ground.data }, { on := 9, ground := Ground.guard }], guard := some (9, false) } : Oper)) (v := ?_) rfl (by kernel_rfl) (by kernel_rfl) (by kernel_rfl) (fun _ _ _ h => h) (Or.inl ⟨by rfl, ?_⟩) hHeld ?_
      rotate_left
      · (intro w hS; go_simp; try with_reducible rfl)
      try simp only [Act.put, List.setIfInBounds_toArray, List.set_cons_zero, List.set_cons_succ]
      try rw [hn3]
      refine wpAnyH_take (i := 16) (oi := ({ dst := some 72, op := Op.pick (Operand.tmp 65) (Operand.const (Value.bool true)) (Operand.tmp 71), type := 4, pos := _, after := #[{ on := 9, ground := Ground.data }, { on := 15, ground := Ground.data }], guard := none } : Oper)) (v := ?_) rfl (by kernel_rfl) (by kernel_rfl) (by kernel_rfl) (fun _ _ _ h => h) (Or.inl ⟨by rfl, ?_⟩) hHeld ?_
      rotate_left
      · (intro w hS; go_simp; try with_reducible rfl)
      try simp only [Act.put, List.setIfInBounds_toArray, List.set_cons_zero, List.set_cons_succ]
      refine wpAnyH_done (by kernel_rfl) ?_ _
      skip
      have b28 : Below W.heap.size W w27 := (show Below W.heap.size W W.drew from (Below.refl _ W).drew).trans b27
      have S27 := S6.below b28 S6.lt
      have B27 := B6.trans (b28.mono B6.size)
      have HDS : Hid (∀ D' ∈ D :: Ds, w27.heap[D']? = some (.deferred (some []))) := fun D' h => (b28.block D' (Array.getElem?_eq_some_iff.1 (hDS D' h)).1).trans (hDS D' h)
      have HSZ : Hid (w2.heap.size ≤ w27.heap.size) := Nat.le_trans hszW b28.size
      clear hDS
      go_wp2
      try refine hK _ _ ?_
      refine Handed.intro (len - (i + 1)) (by omega) (hJ _ _ _ ⟨_, _, _, _, _, _, _, _, _, _, _, _, _, _, _, _, _, _, _, _, _, _, _, _, _, _, _, _, _, _, _, _, i + 1, D :: Ds, T, rfl, by omega, rfl, X27, S27, B27, HND.out.1, HDS.out, HND.out.2, HSZ.out⟩)
    case stop =>
      rintro D c pre W _ hpre hx _
      exact absurd hpre hx
  · obtain rfl : i = len := by omega
    have rs := S4.cell 0 _ rfl
    have rf := S4.frozen 0
    have rb2 : BK (wr.setCell ⟨w.heap.size, 0, none⟩ (.bool true)) w.heap.size #[.bool true] 4 := S4.set 0 (.bool true)
    have HB : Hid (Below w.heap.size w (wr.setCell ⟨w.heap.size, 0, none⟩ (.bool true))) := B4.setCell (p := ⟨w.heap.size, 0, none⟩) (Nat.le_refl _) _
    have HD : Hid (∀ D ∈ Ds, (wr.setCell ⟨w.heap.size, 0, none⟩ (.bool true)).heap[D]? = some (.deferred (some []))) := fun D hD => (Below.heap_setCell _ _ _ _ (by show D ≠ w.heap.size; have := hDlo D hD; omega)).trans (hD4 D hD)
    have HN : Hid (Ds.Nodup ∧ ∀ D ∈ Ds, w.heap.size ≤ D) := ⟨hnd, fun D hD => by have := hDlo D hD; omega⟩
    clear hD4 hDlo hnd X4 B4 hJ hK hL hwf
    go_wp2
    refine fin_marks 9 _ Ds _ w w.heap.size w.heap.size ?_ HN.out.1 HD.out HN.out.2 rb2 HB.out
    intro W' hb'
    have c3 := hb'.cell 0 _ rfl
    simp [results, Try.results4, go_sem, c3]

set_option maxHeartbeats 2000000 in
set_option maxRecDepth 20000 in
theorem room_walk (r0 : Int) (s : Option Addr) (len cap : Nat) (M : List Op3) (w : World) (hL : IsO w.heap.size w s len M) (hwf : ∀ x ∈ M, okI x.1 ∧ okI x.2.1 ∧ okI x.2.2) :
    Calls Try.prog 4 #[.int .i64 r0, .slice s len cap] w fun e w' => e = .returned (.bool true) ∧ Below w.heap.size w w' := by
  by_cases hl1 : 100 < len
  · have q1 : decide (100 < (len : Int)) = true := by simp; omega
    have S0 := bk_new w #[.bool false] 4
    have B0 := below_box w (.cells #[.bool false] 4)
    clear hL
    go_enter Try.func4, Try.ntmps4
    go_wp2_with fail
    refine (awake_calls _).mono ?_
    rintro e w1 ⟨rfl, b1⟩
    have S1 := S0.below b1 S0.lt
    have B1 := B0.trans (b1.mono B0.size)
    clear S0 B0 b1
    go_wp2_with fail
    refine (awake_calls _).mono ?_
    rintro e w2 ⟨rfl, b2⟩
    have S2 := S1.below b2 S1.lt
    have B2 := B1.trans (b2.mono B1.size)
    have rs := S2.cell 0 _ rfl
    have rf := S2.frozen 0
    have rb2 : BK (w2.setCell ⟨w.heap.size, 0, none⟩ (.bool true)) w.heap.size #[.bool true] 4 := S2.set 0 (.bool true)
    have c3 := rb2.cell 0 _ rfl
    have HB : Hid (Below w.heap.size w (w2.setCell ⟨w.heap.size, 0, none⟩ (.bool true))) := B2.setCell (p := ⟨w.heap.size, 0, none⟩) (Nat.le_refl _) _
    clear S1 B1 b2
    go_wp2
    refine bodyPost_ret (v := .bool true) (by simp [results, Try.results4, go_sem, c3]) rfl ?_
    exact ⟨rfl, HB.out⟩
  · exact callsIn_wide.1 (room_in r0 s len cap M (by omega) w hL hwf)
end Go.Proofs.Ytpljpndegadckaa
