/- Proved here: what it is that all but some blocks of memory are as they were. Conditions: as each theorem states them. -/
import Derived.Test.YtfmicnjijcmjaaaBut
namespace Go.Proofs.Ytfmicnjijcmjaaa
set_option linter.unusedSimpArgs false
set_option linter.unusedVariables false
open Go.RowKit

/-- All but the blocks F is as it was; the blocks F' are of these, or new. -/
structure Ft (F F' : Nat → Prop) (w w' : World) : Prop where
  os : w'.os = w.os
  tape : w'.tape = w.tape
  output : w'.output = w.output
  size : w.heap.size ≤ w'.heap.size
  block : ∀ k, k < w.heap.size → ¬ F k → w'.heap[k]? = w.heap[k]?
  new : ∀ k, F' k → F k ∨ w.heap.size ≤ k
theorem Ft.of {F : Nat → Prop} {w w' : World} {m : Nat} (h : Below m w w') (hm : w.heap.size ≤ m) : Ft F F w w' := ⟨h.os, h.tape, h.output, h.size, fun k hk _ => h.block k (by omega), fun _ hk => .inl hk⟩
theorem Ft.refl (F : Nat → Prop) (w : World) : Ft F F w w := Ft.of (Below.refl w.heap.size w) (Nat.le_refl _)
theorem Ft.but {F : Nat → Prop} {w w' : World} {r : Nat} (h : But r w.heap.size w w') (hr : F r) : Ft F F w w' := ⟨h.os, h.tape, h.output, h.size, fun k hk hF => h.block k hk (fun e => hF (e ▸ hr)), fun _ hk => .inl hk⟩
theorem Ft.set {F : Nat → Prop} (w : World) {p : Addr} (hp : F p.block) (u : Value) : Ft F F w (w.setCell p u) := Ft.but ((But.refl p.block w.heap.size w).set rfl u) hp
theorem Ft.trans {F G H : Nat → Prop} {a b c : World} (h : Ft F G a b) (k : Ft G H b c) : Ft F H a c :=
  ⟨k.os.trans h.os, k.tape.trans h.tape, k.output.trans h.output, Nat.le_trans h.size k.size, fun i hi hF => (k.block i (Nat.lt_of_lt_of_le hi h.size) (fun hG => by rcases h.new i hG with h1 | h1; exact hF h1; omega)).trans (h.block i hi hF),
    fun i hi => by
      rcases k.new i hi with h1 | h1
      · exact h.new i h1
      · exact .inr (Nat.le_trans h.size h1)⟩
theorem Ft.wide {F : Nat → Prop} {w w' : World} (h : Ft F F w w') {p : Nat} (hp : w.heap.size ≤ p ∨ F p) : Ft F (fun k => F k ∨ k = p) w w' := ⟨h.os, h.tape, h.output, h.size, h.block, fun k hk => by
  rcases hk with h1 | rfl
  · exact .inl h1
  · exact hp.symm⟩
theorem Ft.drew {F F' : Nat → Prop} {w w' : World} (h : Ft F F' w w') : Ft F F' w w'.drew := ⟨h.os, h.tape, h.output, h.size, h.block, h.new⟩
theorem Ft.below {F F' : Nat → Prop} {w w' : World} (h : Ft F F' w w') {n : Nat} (hF : ∀ k, F k → n ≤ k) (hn : n ≤ w.heap.size) : Below n w w' := ⟨h.os, h.tape, h.output, h.size, fun k hk => h.block k (by omega) (fun e => by have := hF k e; omega)⟩
theorem Ft.from {F F' : Nat → Prop} {w w' : World} (h : Ft F F' w w') {n : Nat} (hF : ∀ k, F k → n ≤ k) (hn : n ≤ w.heap.size) : ∀ k, F' k → n ≤ k := fun k hk => by
  rcases h.new k hk with h1 | h1
  · exact hF k h1
  · omega
theorem Ft.sep {F F' G : Nat → Prop} {w w' : World} (h : Ft F F' w w') (hs : ∀ k, F k → ¬ G k) (hl : ∀ k, G k → k < w.heap.size) : ∀ k, F' k → ¬ G k := fun k hk hG => by
  rcases h.new k hk with h1 | h1
  · exact hs k h1 hG
  · have := hl k hG; omega
theorem BK.ft {F F' : Nat → Prop} {w w' : World} {b : Nat} {vs : Array Value} {t : TypeId} (h : BK w b vs t) (k : Ft F F' w w') (hF : ¬ F b) : BK w' b vs t := (k.block b h.lt hF).trans h
theorem IsB.ft {F F' : Nat → Prop} {w w' : World} {n len : Nat} {a : Option Addr} {xs : List UInt8} (h : IsB n w a len xs) (k : Ft F F' w w') (hF : ∀ j, F j → n ≤ j) (hn : n ≤ w.heap.size) : IsB n w' a len xs := h.below (k.below hF hn) (Nat.le_refl _)
end Go.Proofs.Ytfmicnjijcmjaaa
