/- Proved here: a frame's parts fed one by one, boxes that stay, and how a function leaves with marks. Conditions: as each theorem states them. -/
import Derived.Test.YtfmicnjijcmjaaaFR
namespace Go.Proofs.Ytfmicnjijcmjaaa
set_option linter.unusedSimpArgs false
set_option linter.unusedVariables false
open Go.RowKit Go.Shelf

theorem wrap64_id {x : Int} (h0 : -9223372036854775808 ≤ x) (h1 : x ≤ 9223372036854775807) : wrap64 x = x := by unfold wrap64; omega
theorem wrapi_id {x : Int} (h0 : -9223372036854775808 ≤ x) (h1 : x ≤ 9223372036854775807) : IntKind.i64.wrap x = x := by rw [IntKind.wrap_i64]; omega
theorem chunk_take {fr : List UInt8} {n j : Nat} (h : j < n) : chunk (fr.take (48 * n)) j = chunk fr j := by
  unfold chunk
  rw [List.drop_take, List.take_take, Nat.min_eq_left (by omega)]
theorem same_own {w : World} {I : Nat → Ga → Prop} : ∀ n S, OwnFrom w.heap.size (fun (_ : Unit) (_ : World) => I n S) := fun _ _ _ _ _ _ h _ _ => h
/-- So many parts of a frame were fed. -/
def FeedX (fr : List UInt8) (M : Nat) (t : Int) (l le : Nat) (j : Nat) (S : Ga) : Prop := (j < M → At S fr j t l) ∧ (j = M → S.l = le ∧ S.xs = [] ∧ S.k = false)
theorem FeedX.next {S : Ga} {fr : List UInt8} {M : Nat} {t : Int} {l le j : Nat} {u : List UInt8 × UInt8 × Nat} (h : FeedX fr M t l le j S) (hl : fr.length = 48 * M) (hM : M ≤ 21) (hu : unpackN fr = u) (hle : le = l + (if u.2.2 = 0 then 0 else 1)) (hj : j < M) :
    FeedX fr M t l le (j + 1) (S.take t (chunk fr j) (((fr.length - 48 * j : Nat) : Int) == 48)).1 ∧ (S.take t (chunk fr j) (((fr.length - 48 * j : Nat) : Int) == 48)).2 = (if j + 1 = M then u else ([], 0, 2)) ∧ (((fr.length - 48 * j : Nat) : Int) == 48) = decide (j + 1 = M) := by
  have ha := h.1 hj
  by_cases e : j + 1 = M
  · have hb : (((fr.length - 48 * j : Nat) : Int) == 48) = true := by rw [beq_iff_eq]; omega
    rw [hb]
    obtain ⟨h1, h2, h3, h4⟩ := ha.last hl e
    refine ⟨⟨fun h => by omega, fun _ => ⟨by rw [h4, hu, hle], h2, h3⟩⟩, by rw [if_pos e, h1, hu], by simp [e]⟩
  · have hb : (((fr.length - 48 * j : Nat) : Int) == 48) = false := by rw [beq_eq_false_iff_ne]; omega
    rw [hb]
    obtain ⟨h1, h2⟩ := ha.step hl (by omega) hM
    exact ⟨⟨fun _ => h1, fun h => absurd h e⟩, by rw [if_neg e, h2], by simp [e]⟩

/-- Boxes. -/
def BX (l : List (Nat × Value × TypeId)) (W : World) : Prop := ∀ e ∈ l, BK W e.1 #[e.2.1] e.2.2
theorem BX.below {l : List (Nat × Value × TypeId)} {W W' : World} {m : Nat} (h : BX l W) (hb : Below m W W') (hm : W.heap.size ≤ m) : BX l W' := fun e he => (h e he).below hb (Nat.lt_of_lt_of_le (h e he).lt hm)
theorem BX.fi {l : List (Nat × Value × TypeId)} {w W : World} {F0 E : Nat → Prop} {r : Nat} {S : Ga} (h : BX l w) (hF : FI w F0 E r S W) (hn : ∀ e ∈ l, ¬ F0 e.1 ∧ ¬ E e.1) : BX l W := fun e he => hF.bk (h e he) (hn e he).1 (hn e he).2
theorem BX.ft {l : List (Nat × Value × TypeId)} {w W : World} {F F' : Nat → Prop} (h : BX l w) (hF : Ft F F' w W) (hn : ∀ e ∈ l, ¬ F e.1) : BX l W := fun e he => (h e he).ft hF (hn e he)
theorem BX.cons {l : List (Nat × Value × TypeId)} {W : World} {e : Nat × Value × TypeId} (h : BK W e.1 #[e.2.1] e.2.2) (hl : BX l W) : BX (e :: l) W := fun x hx => by
  rcases List.mem_cons.1 hx with rfl | hx
  · exact h
  · exact hl x hx
theorem BX.bk {l : List (Nat × Value × TypeId)} {W : World} (h : BX l W) {b : Nat} {v : Value} {t : TypeId} (hm : (b, v, t) ∈ l) : BK W b #[v] t := h _ hm
theorem BX.get {l : List (Nat × Value × TypeId)} {W : World} (h : BX l W) {b : Nat} {v : Value} {t : TypeId} (hm : (b, v, t) ∈ l) : W.cell? ⟨b, 0, none⟩ = some v := (h.bk hm).cell 0 _ rfl
theorem BX.fz {l : List (Nat × Value × TypeId)} {W : World} (h : BX l W) {b : Nat} {v : Value} {t : TypeId} (hm : (b, v, t) ∈ l) : W.frozen? ⟨b, 0, none⟩ = false := (h.bk hm).frozen 0
theorem BX.nil (W : World) : BX [] W := fun e he => by cases he
theorem BX.lt {l : List (Nat × Value × TypeId)} {W : World} (h : BX l W) : ∀ e ∈ l, e.1 < W.heap.size := fun e he => (h e he).lt

theorem gtick_no {w : World} {F : Nat → Prop} {r : Nat} {S : Ga} (h : GV w F r S) (hl : S.l ≤ 1000000) (t : Int) (t0 : -9223372036854775808 ≤ t) (t1 : t ≤ 9223372036854775807) (hn : S.late t = false) :
    Calls Try.prog 13 #[.pointer (some ⟨r, 0, none⟩), .int .i64 t] w fun e w' => e = .returned (.bool false) ∧ GV w' F r S ∧ Ft F F w w' := by
  have := gtick_calls h hl t t0 t1
  rwa [hn, Ga.tick_none hn] at this
theorem gtick_yes {w : World} {F : Nat → Prop} {r : Nat} {S : Ga} (h : GV w F r S) (hl : S.l ≤ 1000000) (t : Int) (t0 : -9223372036854775808 ≤ t) (t1 : t ≤ 9223372036854775807) (hn : S.late t = true) :
    Calls Try.prog 13 #[.pointer (some ⟨r, 0, none⟩), .int .i64 t] w fun e w' => e = .returned (.bool true) ∧ GV w' F r S.lose ∧ Ft F F w w' := by
  have := gtick_calls h hl t t0 t1
  rwa [hn, Ga.tick_yes hn] at this
theorem FI.bel {w W : World} {F0 E : Nat → Prop} {r n : Nat} {S : Ga} (h : FI w F0 E r S W) (hF : ∀ k, F0 k → n ≤ k) (hE : ∀ k, E k → n ≤ k) (hn : n ≤ w.heap.size) : Below n w W := by
  obtain ⟨F, _, _, k⟩ := h.ex
  exact k.below (fun j hj => hj.elim (hF j) (hE j)) hn
theorem FI.obj {w W : World} {F0 E : Nat → Prop} {r D : Nat} {S : Ga} {o : Obj} (h : FI w F0 E r S W) (hd : w.heap[D]? = some o) (h1 : ¬ F0 D) (h2 : ¬ E D) : W.heap[D]? = some o := by
  obtain ⟨F, _, _, k⟩ := h.ex
  exact (k.block D (Array.getElem?_eq_some_iff.1 hd).1 (fun e => e.elim h1 h2)).trans hd
theorem not_cells {w : World} {F : Nat → Prop} {D : Nat} {o : Obj} (hc : ∀ k, F k → ∃ vs t, BK w k vs t) (hd : w.heap[D]? = some o) (ho : o.isCells = false) : ¬ F D := fun hF => by
  obtain ⟨vs, t, hb⟩ := hc D hF
  rw [show w.heap[D]? = _ from hb] at hd; cases hd; cases ho

/-- Behind a range over a frame's parts. -/
theorem FI.after {w W : World} {F0 E : Nat → Prop} {r : Nat} {S : Ga} (h : FI w F0 E r S W) : ∃ F, GV W F r S ∧ (∀ k, E k → ¬ F k) ∧ Ft (fun k => F0 k ∨ E k) (fun k => F k ∨ E k) w W := h.ex

/-- A function leaves with marks: they hold no calls. -/
abbrev marks (Ds : List Nat) : List Deferred := Ds.map fun D => { target := .collected D, args := #[] }
theorem leaves_marks {fn : Func} {tmps : Array Value} {R : Ending → World → Prop} {n : Nat} (w : World) (n0 rb : Nat) (v : Value) (t : TypeId) :
    ∀ (Ds : List Nat) (W : World), Ds.Nodup → (∀ D ∈ Ds, W.heap[D]? = some (.deferred (some []))) → (∀ D ∈ Ds, n0 ≤ D) → BK W rb #[v] t → Below n0 w W →
      (∀ W', BK W' rb #[v] t → Below n0 w W' → LeavesIn Fence.wide n Try.prog fn tmps R [] .returning W') → LeavesInM Fence.wide n Try.prog fn tmps R (marks Ds) .returning W
  | [], W, _, _, _, hb, hB, hR => hR W hb hB
  | D :: Ds, W, hnd, hD, hn, hb, hB, hR => by
    have h0 := hD D (List.mem_cons_self ..)
    have hDr : rb ≠ D := fun e => by rw [e] at hb; rw [show W.heap[D]? = _ from hb] at h0; cases h0
    refine ⟨by simp, .inl ⟨D, _, rfl, run_takeDeferred h0, ?_⟩⟩
    refine leaves_marks w n0 rb v t Ds _ (List.nodup_cons.1 hnd).2 (fun D' hD' => ?_) (fun D' hD' => hn D' (List.mem_cons_of_mem _ hD')) ((World.putObj_heap_other hDr).trans hb) (hB.trans ⟨rfl, rfl, rfl, by simp, fun k hk => World.putObj_heap_other (by have := hn D (List.mem_cons_self ..); omega)⟩) hR
    refine (World.putObj_heap_other (fun e => ?_)).trans (hD D' (List.mem_cons_of_mem _ hD'))
    subst e
    exact (List.nodup_cons.1 hnd).1 hD'

/-- An end that is no panic. -/
def calm (Q : Exit → Act → World → Prop) : Exit → Act → World → Prop
  | .ret, a, w => Q .ret a w
  | .normal, a, w => Q .normal a w
  | _, _, _ => False
theorem wp_calm {P : Program} {c : Code} {Q : Exit → Act → World → Prop} {a : Act} {w : World} (h : c.wp P (calm Q) a w) : c.wp P Q a w :=
  wp_mono h fun e a w h => by cases e <;> first | exact h | exact h.elim
theorem fin_marks {fn : Func} (n : Nat) (TT : Array Value) (Ds : List Nat) (Z w : World) (n0 rb : Nat) (hres : ∀ W', BK W' rb #[.bool true] 4 → (results fn TT).run Try.prog W' = .ok (.bool true) W')
    (hnd : Ds.Nodup) (hD : ∀ D ∈ Ds, Z.heap[D]? = some (.deferred (some []))) (hn : ∀ D ∈ Ds, n0 ≤ D) (hb : BK Z rb #[.bool true] 4) (hB : Below n0 w Z) :
    calm (bodyPostM Fence.wide n Try.prog fn (fun e w' => e = .returned (.bool true) ∧ Below n0 w w')) .ret { tmps := TT, defers := marks Ds } Z := by
  refine leaves_marks w n0 rb (.bool true) 4 Ds Z hnd hD hn hb hB (fun W' h1 h2 => ?_)
  exact ⟨.bool true, hres W' h1, rfl, h2⟩
end Go.Proofs.Ytfmicnjijcmjaaa
