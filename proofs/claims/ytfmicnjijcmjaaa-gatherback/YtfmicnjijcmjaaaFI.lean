/- Proved here: a gatherer in the rounds of a range over a frame's parts. Conditions: as each theorem states them. -/
import Derived.Test.YtfmicnjijcmjaaaAw
import Derived.RangeFuncNested
namespace Go.Proofs.Ytfmicnjijcmjaaa
set_option linter.unusedSimpArgs false
set_option linter.unusedVariables false
open Go.RowKit Go.Shelf

theorem GV.shrink {w : World} {F : Nat → Prop} {r : Nat} {S : Ga} (h : GV w F r S) : ∃ F1, GV w F1 r S ∧ (∀ k, F1 k → F k) ∧ ∀ k, F1 k → ∃ vs t, BK w k vs t := by
  obtain ⟨⟨⟨a, n, c, hb, hc, hy⟩, h1, h2, h3⟩, hf⟩ := h
  refine ⟨fun k => k = r ∨ ∃ y, a = some y ∧ k = y.block, ⟨⟨⟨a, n, c, hb, hc, fun y e => ⟨.inr ⟨y, e, rfl⟩, (hy y e).2⟩⟩, .inl rfl, ?_, h3⟩, hf⟩, ?_, ?_⟩
  · rintro k (rfl | ⟨y, e, rfl⟩)
    · exact h2 _ h1
    · exact h2 _ (hy y e).1
  · rintro k (rfl | ⟨y, e, rfl⟩)
    · exact h1
    · exact (hy y e).1
  · rintro k (rfl | ⟨y, e, rfl⟩)
    · exact ⟨_, _, hb⟩
    · rcases hc.2.2 with ⟨e2, _⟩ | ⟨g, cap, cur, e2, _, hh, _⟩
      · rw [e] at e2; cases e2
      · rw [e] at e2; cases e2; exact ⟨_, _, hh⟩
theorem Ft.sub {F F' F1 : Nat → Prop} {w w' : World} (h : Ft F F' w w') (hs : ∀ k, F1 k → F' k) : Ft F F1 w w' := ⟨h.os, h.tape, h.output, h.size, h.block, fun k hk => h.new k (hs k hk)⟩
theorem Ft.wider {F F' E : Nat → Prop} {w w' : World} (h : Ft F F' w w') : Ft (fun k => F k ∨ E k) (fun k => F' k ∨ E k) w w' := ⟨h.os, h.tape, h.output, h.size, fun k hk hF => h.block k hk (fun e => hF (.inl e)), fun k hk => by
  rcases hk with h1 | h1
  · rcases h.new k h1 with h2 | h2
    · exact .inl (.inl h2)
    · exact .inr h2
  · exact .inl (.inr h1)⟩
theorem Ft.keeps {F F' : Nat → Prop} {w w' : World} (h : Ft F F' w w') (hc : ∀ k, F k → ∃ vs t, BK w k vs t) (M : Nat) : KeepsFrom M w w' := by
  refine ⟨h.size, fun k o _ hk ho => ?_⟩
  refine (h.block k (Array.getElem?_eq_some_iff.1 hk).1 (fun hF => ?_)).trans hk
  obtain ⟨vs, t, hb⟩ := hc k hF
  rw [show w.heap[k]? = _ from hb] at hk; cases hk; cases ho

/-- In a round: the gatherer is there, and all but its blocks, and E's, is as it was at the loop's beginning. -/
structure FI (w : World) (F0 E : Nat → Prop) (r : Nat) (S : Ga) (W : World) : Prop where
  ex : ∃ F, GV W F r S ∧ (∀ k, E k → ¬ F k) ∧ Ft (fun k => F0 k ∨ E k) (fun k => F k ∨ E k) w W
theorem FI.init {w : World} {F0 E : Nat → Prop} {r : Nat} {S : Ga} (h : GV w F0 r S) (hE : ∀ k, E k → ¬ F0 k) : FI w F0 E r S w := ⟨F0, h, hE, Ft.refl _ w⟩
theorem FI.size {w W : World} {F0 E : Nat → Prop} {r : Nat} {S : Ga} (h : FI w F0 E r S W) : w.heap.size ≤ W.heap.size := by
  obtain ⟨F, _, _, k⟩ := h.ex; exact k.size
theorem FI.below {w W W' : World} {F0 E : Nat → Prop} {r m : Nat} {S : Ga} (h : FI w F0 E r S W) (hb : Below m W W') (hm : W.heap.size ≤ m) : FI w F0 E r S W' := by
  obtain ⟨F, hg, hE, k⟩ := h.ex
  exact ⟨F, hg.below hb hm, hE, k.trans (Ft.of hb hm)⟩
theorem FI.bk {w W : World} {F0 E : Nat → Prop} {r b : Nat} {S : Ga} {vs : Array Value} {t : TypeId} (h : FI w F0 E r S W) (hb : BK w b vs t) (h1 : ¬ F0 b) (h2 : ¬ E b) : BK W b vs t := by
  obtain ⟨F, _, _, k⟩ := h.ex
  exact hb.ft k (fun e => e.elim h1 h2)
theorem FI.kq {w W W' : World} {F0 E : Nat → Prop} {r g : Nat} {S S' : Ga} (h : FI w F0 E r S W) (h' : FI w F0 E r S' W') (hs : W.heap.size ≤ W'.heap.size) (hg : g < w.heap.size) (h1 : ¬ F0 g) (h2 : ¬ E g) : Kq g W W' := by
  obtain ⟨F, _, _, k⟩ := h.ex
  obtain ⟨F', _, _, k'⟩ := h'.ex
  exact ⟨hs, (k'.block g hg (fun e => e.elim h1 h2)).trans (k.block g hg (fun e => e.elim h1 h2)).symm⟩
theorem GV.grown {X Y : World} {F : Nat → Prop} {r : Nat} {S : Ga} {row : Option Nat} (h : GV X F r S) (hg : X.grownBy Y row) (hr : ∀ r, row = some r → ∃ o : Obj, X.heap[r]? = some o ∧ o.isCells = false) : ∃ F1, GV Y F1 r S ∧ (∀ k, F1 k → F k) := by
  obtain ⟨F1, h1, hs, hc⟩ := h.shrink
  obtain ⟨⟨⟨a, n, c, hb, hcc, hy⟩, hr1, h2, h3⟩, hf⟩ := h1
  have key : ∀ j, F1 j → Y.heap[j]? = X.heap[j]? := fun j hj => hg.block j (h2 j hj) (fun e => by
    obtain ⟨o, ho, hoc⟩ := hr j e.symm
    obtain ⟨vs, t, hb⟩ := hc j hj
    rw [show X.heap[j]? = _ from hb] at ho; cases ho; cases hoc)
  exact ⟨F1, ⟨⟨⟨a, n, c, (key r hr1).trans hb, ownB_keep hcc (fun y e => key _ (hy y e).1), hy⟩, hr1, fun j hj => Nat.lt_of_lt_of_le (h2 j hj) hg.size, h3⟩, hf⟩, hs⟩
theorem FI.grown {w X Y : World} {F0 E : Nat → Prop} {r : Nat} {S : Ga} {row : Option Nat} (h : FI w F0 E r S X) (hg : X.grownBy Y row) (hr : ∀ r, row = some r → w.heap.size ≤ r ∧ ∃ o : Obj, X.heap[r]? = some o ∧ o.isCells = false) : FI w F0 E r S Y := by
  obtain ⟨F, h1, hE, k⟩ := h.ex
  obtain ⟨F1, h2, hs⟩ := h1.grown hg (fun r e => (hr r e).2)
  refine ⟨F1, h2, fun j hj e => hE j hj (hs j e), ⟨hg.os.trans k.os, hg.tape.trans k.tape, hg.output.trans k.output, Nat.le_trans k.size hg.size, fun j hj hF => ?_, fun j hj => ?_⟩⟩
  · refine (hg.block j (Nat.lt_of_lt_of_le hj k.size) (fun e => ?_)).trans (k.block j hj hF)
    have := (hr j e.symm).1; omega
  · rcases hj with e | e
    · exact k.new j (.inl (hs j e))
    · exact k.new j (.inr e)
theorem FI.own {α : Type} {w : World} {F0 E : Nat → Prop} {r : Nat} (X : α → Ga → Prop) : OwnFrom w.heap.size (fun (pre : α) W => ∃ S, FI w F0 E r S W ∧ X pre S) := by
  rintro pre A B row ⟨S, h, hx⟩ hg hr
  exact ⟨S, h.grown hg hr, hx⟩
/-- Take, in a round. -/
theorem FI.take {w W : World} {F0 E : Nat → Prop} {r : Nat} {S : Ga} (h : FI w F0 E r S W) (hE : ∀ k, E k → k < w.heap.size) (M : Nat) (hl : S.l ≤ 900000) (t : Int) (t0 : -9223372036854775808 ≤ t) (t1 : t ≤ 9223372036854775807) (ps : List UInt8) (hp : ps.length = 48) (last : Bool) :
    Calls Try.prog 15 #[.pointer (some ⟨r, 0, none⟩), .int .i64 t, .agg (payV ps), .bool last] W fun e W' =>
      Ans (S.take t ps last).2 W.heap.size e W' ∧ FI w F0 E r (S.take t ps last).1 W' ∧ KeepsFrom M W W' ∧ W.heap.size ≤ W'.heap.size ∧ ∀ g vs ty, E g → BK W g vs ty → BK W' g vs ty := by
  obtain ⟨F, h1, hEF, k⟩ := h.ex
  obtain ⟨F1, h2, hs, hc⟩ := h1.shrink
  refine (gtake_calls h2 hl t t0 t1 ps hp last).mono ?_
  rintro e W' ⟨hA, F', h3, k3⟩
  refine ⟨hA, ⟨F', h3, fun j hj hF => ?_, (k.sub (F1 := fun k => F1 k ∨ E k) (fun j hj => hj.elim (fun e => .inl (hs j e)) .inr)).trans k3.wider⟩, k3.keeps hc M, k3.size, fun g vs ty hg hb => hb.ft k3 (fun e => hEF g hg (hs g e))⟩
  rcases k3.new j hF with e | e
  · exact hEF j hj (hs j e)
  · have := hE j hj; have := k.size; omega
theorem FI.set {w W : World} {F0 E : Nat → Prop} {r b : Nat} {S : Ga} (h : FI w F0 E r S W) (hb : E b) (v : Value) : FI w F0 E r S (W.setCell ⟨b, 0, none⟩ v) := by
  obtain ⟨F, hg, hE, k⟩ := h.ex
  refine ⟨F, hg.frame (F := fun k => k = b) (F' := fun k => k = b) (Ft.set (F := fun k => k = b) W (p := ⟨b, 0, none⟩) rfl v) (fun j e hF => ?_), hE, k.trans (Ft.set W (p := ⟨b, 0, none⟩) (.inr hb) v)⟩
  subst e
  exact hE _ hb hF
end Go.Proofs.Ytfmicnjijcmjaaa
