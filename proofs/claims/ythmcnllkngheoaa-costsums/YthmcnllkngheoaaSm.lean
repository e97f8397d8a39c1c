/- Proved here: what cost.Sum answers, of any slice of contracts that is not too long. Conditions: as each theorem states them. -/
import Derived.Test.YthmcnllkngheoaaIt
namespace Go.Proofs.Ythmcnllkngheoaa
set_option linter.unusedSimpArgs false
set_option linter.unusedVariables false
open Go.RowKit Go.Shelf
attribute [local go_sem] Oper.semAt_some

theorem bk_own {β : Type} (b : Nat) (t : TypeId) (f : β → Array Value) : Own (fun s W => BK W b (f s) t) := fun s X Y row hs hg hrow =>
  (hg.block b (BK.lt hs) (fun e' => by obtain ⟨o, ho, hc⟩ := hrow b e'.symm; rw [show X.heap[b]? = _ from hs] at ho; cases ho; cases hc)).trans hs
theorem ownFrom_below {β : Type} {n m : Nat} {w : World} (hn : n ≤ m) (hw : n ≤ w.heap.size) : OwnFrom m (fun (_ : β) W => Below n w W) :=
  fun _ X Y row hs hg hr => hs.trans ⟨hg.os, hg.tape, hg.output, hg.size, fun k hk => hg.block k (by have := hs.size; omega) (fun e => by have := (hr k e.symm).1; omega)⟩
theorem keepsFrom_but {r n m : Nat} {W W' : World} {vs : Array Value} {t : TypeId} (h : But r n W W') (hn : W.heap.size ≤ n) (hr : BK W r vs t) : KeepsFrom m W W' :=
  ⟨h.size, fun k o _ hk ho => (h.block k (by have := (Array.getElem?_eq_some_iff.1 hk).1; omega) (fun e => by subst e; rw [show W.heap[k]? = _ from hr] at hk; cases hk; cases ho)).trans hk⟩
/-- The sum of what was told. -/
def sumT (l : List Ct) : Int := sumI (l.map (·.1))
theorem sumT_snoc (l : List Ct) (x : Ct) : sumT (l ++ [x]) = sumT l + x.1 := by unfold sumT; rw [List.map_append]; exact sumI_snoc _ _
theorem sumT_bounds (l : List Ct) : 0 ≤ sumT l ∧ sumT l ≤ l.length * 1048576 := by
  have := sumI_bounds (l := l.map (·.1)) (by
    intro x hx
    obtain ⟨y, _, rfl⟩ := List.mem_map.1 hx
    exact y.2)
  rwa [List.length_map] at this
theorem sumT_map (L : List C6) : sumT (L.map ctC) = sumC L := by unfold sumT sumC; rw [List.map_map]; rfl

set_option maxRecDepth 100000 in
set_option maxHeartbeats 4000000 in
theorem sum_in (a : Option Addr) (len c : Nat) (L : List C6) (hlen : L.length ≤ 1000) (w : World) (hI : IsT w.heap.size w a len c L) :
    CallsIn Fence.wide 3 Try.prog 17 #[.slice a len c] w fun e w' => e = .returned (.int .i64 (sumC L)) ∧ Below w.heap.size w w' := by
  refine callsIn_of_wp_marks Try.func17 rfl trivial ?_ rfl
  simp only [Try.ntmps17, List.size_toArray, List.length_cons, List.length_nil, Nat.reduceAdd, Nat.reduceSub, Array.replicate_succ, Array.replicate_zero, List.push_toArray, List.append_toArray, List.nil_append, List.cons_append]
  gi_wp2_with (refine ⟨trivial, ?_⟩; gi_at_call 23; refine (needs_in _ _ _ _ _).mono ?_; rintro e w' ⟨rfl, rfl⟩)
  have kS := (bk_new w #[.int .i64 0] 3).alloc (.cells #[.slice a len c] 32)
  have kL := bk_new (w.alloc (.cells #[.int .i64 0] 3)) #[.slice a len c] 32
  rw [World.size_alloc] at kL
  have hB0 : Below w.heap.size w ((w.alloc (.cells #[.int .i64 0] 3)).alloc (.cells #[.slice a len c] 32)) :=
    ((Below.refl _ w).alloc (Nat.le_refl _) _).alloc (by simp) _
  have hsz : ((w.alloc (.cells #[.int .i64 0] 3)).alloc (.cells #[.slice a len c] 32)).heap.size = w.heap.size + 2 := by simp
  obtain ⟨W0, hW0⟩ : ∃ W0, (w.alloc (.cells #[.int .i64 0] 3)).alloc (.cells #[.slice a len c] 32) = W0 := ⟨_, rfl⟩
  rw [hW0] at kS kL hB0 hsz ⊢
  clear hW0
  have hI0 := hI.below hB0 (Nat.le_refl _)
  refine wpIn_rangeFunc_ownH (α := Ct) rfl (by omega) (gf := 25) (lb := #[.pointer (some ⟨w.heap.size + 1, 0, none⟩)]) rfl trivial (enters_of Try.func25 (by kernel_rfl) rfl)
    (needs_stops (3 - 1) (by omega) w.heap.size a len c L hlen W0 (by omega) (kL.cell 0 _ rfl) hI0) Kp.trans (Kp.put (by omega)) (Below.refl _ _) (fun _ => rfl)
    (fun pre W => BK W w.heap.size #[.int .i64 (sumT pre)] 3 ∧ Below w.heap.size w W ∧ w.heap.size + 2 ≤ W.heap.size)
    (fun _ _ _ => False)
    (OwnFrom.and (Own.from (bk_own _ _ _) _) (OwnFrom.and (ownFrom_below (by omega) (Nat.le_refl _)) (fun _ X Y row hs hg _ => Nat.le_trans hs hg.size)))
    (fun _ _ _ _ _ hs _ _ => hs)
    ⟨kS, hB0, by omega⟩
    (fun x a' W => a' = { tmps := #[.slice a len c, undef, .int .i64 0, .pointer (some ⟨w.heap.size, 0, none⟩), .int .i64 x.1, .slice a len c, .func (.func 25) #[] #[.pointer (some ⟨w.heap.size + 1, 0, none⟩)], .int .i64 x.1, undef, undef, undef, undef], defers := [] })
    (fun x a' u X Y row hs hgr hr => hs) ?assign ?body ?done ?stop
  case assign =>
    rintro l pre x W K ⟨i1, i2, i3⟩ hK
    gi_wp2
    exact hK _ _ (KeepsFrom.refl _ _) (Kp.refl _ _) ⟨i1, i2, i3⟩ rfl
  case body =>
    rintro l pre x a' W hl _ ⟨i1, i2, i3⟩ rfl hpre
    have hsn := sumT_snoc pre x
    obtain ⟨b0, b1⟩ := sumT_bounds pre
    obtain ⟨x, x0, x1⟩ := x
    have HS : Hid (sumT (pre ++ [⟨x, x0, x1⟩]) = sumT pre + x) := hsn
    clear hsn
    generalize sumT pre = V at *
    have k0 := i1.cell 0 _ rfl
    have fz := i1.frozen 0
    have hV : V ≤ 1048576000 := by omega
    clear b1
    gi_wp2
    have hB : But w.heap.size W.heap.size W (W.setCell ⟨w.heap.size, 0, none⟩ (.int .i64 (V + x))) := (But.refl w.heap.size W.heap.size W).set (p := ⟨w.heap.size, 0, none⟩) rfl _
    exact ⟨keepsFrom_but hB (Nat.le_refl _) i1, Kp.set _ _, by rw [HS.out]; exact i1.set 0 _, i2.trans (hB.below i2.size (Nat.le_refl _)), by simp; omega⟩
  case done =>
    rintro D ys W hD hys ⟨i1, i2, i3⟩ hK
    rw [hys, sumT_map] at i1
    have k0 := i1.cell 0 _ rfl
    gi_wp2
    refine ⟨by simp, .inl ⟨_, _, rfl, run_takeDeferred hK, ?_⟩⟩
    exact ⟨_, results_tmp rfl _ _ _, rfl, i2.trans ⟨rfl, rfl, rfl, by simp, fun k hk => World.putObj_heap_other (by omega)⟩⟩
  case stop =>
    rintro D c pre W _ _ h _
    exact h.elim
theorem sum_calls (a : Option Addr) (len c : Nat) (L : List C6) (hlen : L.length ≤ 1000) (w : World) (hI : IsT w.heap.size w a len c L) :
    Calls Try.prog 17 #[.slice a len c] w fun e w' => e = .returned (.int .i64 (sumC L)) ∧ Below w.heap.size w w' :=
  callsIn_wide.1 (sum_in a len c L hlen w hI)
end Go.Proofs.Ythmcnllkngheoaa
