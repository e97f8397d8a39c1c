/- Proved here: what it is that but some blocks of memory are as they were, and how that goes with what a loop over an iterator keeps. Conditions: as each theorem states them. -/
import Derived.Test.YtlaomjhibaoglaaPol
import Derived.WalkMore
namespace Go.Proofs.Ytlaomjhibaoglaa
set_option linter.unusedSimpArgs false
set_option linter.unusedVariables false
open Go.RowKit Go.Shelf

/-- Below n all but the blocks B is as it was. -/
structure Buts (B : List Nat) (n : Nat) (w w' : World) : Prop where
  os : w'.os = w.os
  tape : w'.tape = w.tape
  output : w'.output = w.output
  size : w.heap.size ≤ w'.heap.size
  block : ∀ k, k < n → k ∉ B → w'.heap[k]? = w.heap[k]?

theorem Buts.of {B : List Nat} {n : Nat} {w w' : World} (h : Below n w w') : Buts B n w w' := ⟨h.os, h.tape, h.output, h.size, fun k hk _ => h.block k hk⟩
theorem Buts.ofBut {B : List Nat} {r n : Nat} {w w' : World} (h : But r n w w') (hr : r ∈ B) : Buts B n w w' := ⟨h.os, h.tape, h.output, h.size, fun k hk hB => h.block k hk (fun e => hB (e ▸ hr))⟩
theorem Buts.refl (B : List Nat) (n : Nat) (w : World) : Buts B n w w := Buts.of (Below.refl n w)
theorem Buts.trans {B : List Nat} {n : Nat} {a b c : World} (h : Buts B n a b) (k : Buts B n b c) : Buts B n a c :=
  ⟨k.os.trans h.os, k.tape.trans h.tape, k.output.trans h.output, Nat.le_trans h.size k.size, fun i hi hr => (k.block i hi hr).trans (h.block i hi hr)⟩
theorem Buts.mono {B : List Nat} {n m : Nat} {w w' : World} (h : Buts B n w w') (hm : m ≤ n) : Buts B m w w' := ⟨h.os, h.tape, h.output, h.size, fun k hk => h.block k (Nat.lt_of_lt_of_le hk hm)⟩
theorem Buts.wider {B C : List Nat} {n : Nat} {w w' : World} (h : Buts B n w w') (hs : ∀ k ∈ B, k ∈ C) : Buts C n w w' := ⟨h.os, h.tape, h.output, h.size, fun k hk hc => h.block k hk (fun e => hc (hs k e))⟩
theorem Buts.below {B : List Nat} {n m : Nat} {w w' : World} (h : Buts B n w w') (hm : m ≤ n) (hr : ∀ k ∈ B, m ≤ k) : Below m w w' := ⟨h.os, h.tape, h.output, h.size, fun k hk => h.block k (by omega) (fun e => by have := hr k e; omega)⟩
theorem Buts.drew {B : List Nat} {n : Nat} {a w : World} (h : Buts B n a w) : Buts B n a w.drew := ⟨h.os, h.tape, h.output, h.size, h.block⟩
theorem Buts.set {B : List Nat} {n : Nat} {a w : World} (h : Buts B n a w) {p : Addr} (hp : p.block ∈ B) (u : Value) : Buts B n a (w.setCell p u) :=
  h.trans ⟨rfl, rfl, rfl, by simp [World.setCell], fun k _ hk => Below.heap_setCell _ _ _ _ (fun e => hk (e ▸ hp))⟩
theorem BK.buts {B : List Nat} {n b : Nat} {w w' : World} {vs : Array Value} {t : TypeId} (h : BK w b vs t) (hb : Buts B n w w') (hn : b < n) (hr : b ∉ B) : BK w' b vs t := (hb.block b hn hr).trans h
theorem BC.buts {B : List Nat} {n r : Nat} {s e T : Int} {w w' : World} (h : BC w r s e T) (hb : Buts B n w w') (hn : r < n) (hr : r ∉ B) : BC w' r s e T := BK.buts h hb hn hr

theorem bk_own {β : Type} (b : Nat) (t : TypeId) (f : β → Array Value) : Own (fun s W => BK W b (f s) t) := fun s X Y row hs hg hrow =>
  (hg.block b (BK.lt hs) (fun e' => by obtain ⟨o, ho, hc⟩ := hrow b e'.symm; rw [show X.heap[b]? = _ from hs] at ho; cases ho; cases hc)).trans hs
theorem own_all {β γ : Type} (L : List γ) (I : γ → β → World → Prop) (h : ∀ x, Own (I x)) : Own (fun s W => ∀ x ∈ L, I x s W) := fun s X Y row hs hg hrow x hx => h x s X Y row (hs x hx) hg hrow
theorem ownFrom_buts {β : Type} {B : List Nat} {n m : Nat} {w : World} (hn : n ≤ m) (hw : n ≤ w.heap.size) : OwnFrom m (fun (_ : β) W => Buts B n w W) :=
  fun _ X Y row hs hg hr => hs.trans ⟨hg.os, hg.tape, hg.output, hg.size, fun k hk _ => hg.block k (by have := hs.size; omega) (fun e => by have := (hr k e.symm).1; omega)⟩
theorem keepsFrom_but {r n m : Nat} {W W' : World} {vs : Array Value} {t : TypeId} (h : But r n W W') (hn : W.heap.size ≤ n) (hr : BK W r vs t) : KeepsFrom m W W' :=
  ⟨h.size, fun k o _ hk ho => (h.block k (by have := (Array.getElem?_eq_some_iff.1 hk).1; omega) (fun e => by subst e; rw [show W.heap[k]? = _ from hr] at hk; cases hk; cases ho)).trans hk⟩
theorem keepsFrom_below {n m : Nat} {W W' : World} (h : Below n W W') (hn : W.heap.size ≤ n) : KeepsFrom m W W' :=
  ⟨h.size, fun k o _ hk _ => (h.block k (by have := (Array.getElem?_eq_some_iff.1 hk).1; omega)).trans hk⟩
theorem Buts.put {B : List Nat} {n l : Nat} {w W : World} (h : Buts B n w W) {o o' : Obj} (hl : n ≤ l) (_ : W.heap[l]? = some o) : Buts B n w (W.putObj l o') :=
  h.trans ⟨rfl, rfl, rfl, by simp, fun k hk _ => World.putObj_heap_other (by omega)⟩
theorem Boxed.below' {n B : Nat} {W W' : World} {t : TypeId} {v : Value} (h : Boxed W B t v) (hb : Below n W W') (hn : B < n) : Boxed W' B t v := (hb.block B hn).trans h
theorem Boxed.but' {r n B : Nat} {W W' : World} {t : TypeId} {v : Value} (h : Boxed W B t v) (hb : But r n W W') (hn : B < n) (hr : B ≠ r) : Boxed W' B t v := (hb.block B hn hr).trans h

theorem Kp.set {g c : Nat} {p : Addr} (hg : p.block ≠ g) (hc : p.block ≠ c) (W : World) (v : Value) : Kp g c W (W.setCell p v) :=
  ⟨by simp [World.setCell], Below.heap_setCell _ _ _ _ (fun e => hg e.symm), Below.heap_setCell _ _ _ _ (fun e => hc e.symm)⟩
theorem scope_wide {P : Program} {n : Nat} {c : Code} {Q : Exit → Act → World → Prop} {a : Act} {w : World} (h : c.wpIn Fence.wide n P (Exit.noGoto Q) a w) : (Code.scope c).wpIn Fence.wide n P Q a w :=
  wpIn_wide.2 (wp_scope_straight (wpIn_wide.1 h))

/-- What a policer's rules are in memory. -/
structure PR (w : World) (r g cap : Nat) (L : List Lim) : Prop where
  sl : w.cell? ⟨r, 0, none⟩ = some (.slice (some ⟨g, 0, none⟩) L.length cap)
  rlt : r < w.heap.size
  glt : g < w.heap.size
  lim : LC w g L
  len : L.length ≤ 2
  gr : g ≠ r
  ne : ∀ x ∈ L, x.b ≠ g ∧ x.b ≠ r
  nd : (L.map (·.b)).Nodup
  bk : ∀ x ∈ L, BC w x.b x.s x.e x.T ∧ 0 ≤ x.T ∧ x.T ≤ 3458764513820540928
theorem PR.below {n r g cap : Nat} {L : List Lim} {w w' : World} (h : PR w r g cap L) (hb : Below n w w') (hn : w.heap.size ≤ n) : PR w' r g cap L :=
  ⟨(hb.cell (p := ⟨r, 0, none⟩) (by have := h.rlt; show r < n; omega)).trans h.sl, Nat.lt_of_lt_of_le h.rlt hb.size, Nat.lt_of_lt_of_le h.glt hb.size,
    fun j x hx => by
      obtain ⟨a1, a2, a3⟩ := h.lim j x hx
      have hg := h.glt
      have hc : ∀ k : Nat, w'.cell? ⟨g, k, none⟩ = w.cell? ⟨g, k, none⟩ := fun k => hb.cell (p := ⟨g, k, none⟩) (by show g < n; omega)
      exact ⟨(hc _).trans a1, (hc _).trans a2, (hc _).trans a3⟩,
    h.len, h.gr, h.ne, h.nd, fun x hx => ⟨(h.bk x hx).1.below hb (by have := (h.bk x hx).1.lt; omega), (h.bk x hx).2⟩⟩
end Go.Proofs.Ytlaomjhibaoglaa
