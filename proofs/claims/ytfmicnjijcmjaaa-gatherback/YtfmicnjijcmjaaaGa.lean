/- Proved here: a gatherer by its numbers, and what it does with parts, as plain functions. Conditions: as each theorem states them. -/
import Derived.Test.YtfmicnjijcmjaaaPl
namespace Go.Proofs.Ytfmicnjijcmjaaa
set_option linter.unusedSimpArgs false
set_option linter.unusedVariables false
open Go.RowKit

/-- A gatherer: how long it waits, what waits, since when, how many frames were lost, whether it skips. -/
structure Ga where
  w : Int
  xs : List UInt8
  f : Int
  l : Nat
  k : Bool
def waitN (w : Int) : Int := min (max w 1) 1152921504606846976
theorem waitN_ge (w : Int) : 1 ≤ waitN w := by unfold waitN; omega
theorem waitN_le (w : Int) : waitN w ≤ 1152921504606846976 := by unfold waitN; omega
theorem waitN_id {w : Int} (h1 : 1 ≤ w) (h2 : w ≤ 1152921504606846976) : waitN w = w := by unfold waitN; omega
structure Ga.Ok (S : Ga) : Prop where
  len : S.xs.length ≤ 1008
  div : S.xs.length % 48 = 0
  f0 : -9223372036854775808 ≤ S.f
  f1 : S.f ≤ 9223372036854775807
def lateB (f t w : Int) : Bool := decide (f < t) && decide (waitN w ≤ t - f)
theorem lateB_eq {f t w : Int} : lateB f t w = decide (waitN w ≤ t - f) := by
  have := waitN_ge w
  by_cases h : waitN w ≤ t - f
  · simp [lateB, h]; omega
  · simp [lateB, h]
def Ga.late (S : Ga) (t : Int) : Bool := !decide (S.xs.length = 0) && lateB S.f t S.w
def Ga.tick (S : Ga) (t : Int) : Ga := if S.late t = true then { S with xs := [], l := S.l + 1 } else S
/-- What is done with a part that waits. -/
def Ga.add (S : Ga) (t : Int) (ps : List UInt8) : Ga := { S with xs := S.xs ++ ps, f := if S.xs.length = 0 then t else S.f }
def Ga.fin (S : Ga) : Ga := { S with xs := [], l := S.l + (if (unpackN S.xs).2.2 = 0 then 0 else 1) }
def Ga.lose (S : Ga) : Ga := { S with xs := [], l := S.l + 1 }
/-- A part: what it leaves, the text, the mark, the error. -/
def Ga.take0 (S : Ga) (t : Int) (ps : List UInt8) (last : Bool) : Ga × (List UInt8 × UInt8 × Nat) :=
  if S.k = true then ({ S with k := !last }, ([], 0, 2))
  else if last = true then ((S.add t ps).fin, unpackN (S.xs ++ ps))
  else if S.xs.length + ps.length = 1008 then ({ (S.add t ps).lose with k := true }, ([], 0, 6))
  else (S.add t ps, ([], 0, 2))
def Ga.take (S : Ga) (t : Int) (ps : List UInt8) (last : Bool) : Ga × (List UInt8 × UInt8 × Nat) := (S.tick t).take0 t ps last
def Ga.mk0 (w : Int) : Ga := ⟨w, [], 0, 0, false⟩
theorem Ga.mk0_ok (w : Int) : (Ga.mk0 w).Ok := ⟨by simp [Ga.mk0], by simp [Ga.mk0], by simp [Ga.mk0], by simp [Ga.mk0]⟩
theorem Ga.Ok.tick {S : Ga} (h : S.Ok) (t : Int) : (S.tick t).Ok := by
  unfold Ga.tick
  split
  · exact ⟨by simp, by simp, h.f0, h.f1⟩
  · exact h
theorem Ga.Ok.lose {S : Ga} (h : -9223372036854775808 ≤ S.f) (h' : S.f ≤ 9223372036854775807) : S.lose.Ok := ⟨by simp [Ga.lose], by simp [Ga.lose], h, h'⟩
theorem Ga.Ok.add_f {S : Ga} (h : S.Ok) (t : Int) (ps : List UInt8) (h0 : -9223372036854775808 ≤ t) (h1 : t ≤ 9223372036854775807) : -9223372036854775808 ≤ (S.add t ps).f ∧ (S.add t ps).f ≤ 9223372036854775807 := by
  unfold Ga.add
  have := h.f0; have := h.f1
  by_cases e : S.xs.length = 0
  · simp only [e, if_true]; omega
  · simp only [e, if_false]; omega
theorem Ga.Ok.add {S : Ga} (h : S.Ok) (hf : S.xs.length ≤ 960) (t : Int) (ps : List UInt8) (hp : ps.length = 48) (h0 : -9223372036854775808 ≤ t) (h1 : t ≤ 9223372036854775807) : (S.add t ps).Ok := by
  have ⟨f0, f1⟩ := h.add_f t ps h0 h1
  have := h.div
  exact ⟨by simp [Ga.add]; omega, by simp [Ga.add]; omega, f0, f1⟩
theorem Ga.Ok.take0 {S : Ga} (h : S.Ok) (hf : S.xs.length ≤ 960) (t : Int) (ps : List UInt8) (last : Bool) (hp : ps.length = 48) (h0 : -9223372036854775808 ≤ t) (h1 : t ≤ 9223372036854775807) : (S.take0 t ps last).1.Ok := by
  have ⟨f0, f1⟩ := h.add_f t ps h0 h1
  have := h.len; have := h.div
  unfold Ga.take0
  split
  · exact ⟨h.len, h.div, h.f0, h.f1⟩
  · split
    · exact ⟨by simp [Ga.fin], by simp [Ga.fin], f0, f1⟩
    · split
      · exact ⟨by simp [Ga.lose], by simp [Ga.lose], f0, f1⟩
      · exact ⟨by simp [Ga.add]; omega, by simp [Ga.add]; omega, f0, f1⟩
theorem Ga.tick_fit {S : Ga} (hf : S.xs.length ≤ 960) (t : Int) : (S.tick t).xs.length ≤ 960 := by
  unfold Ga.tick
  split
  · simp
  · exact hf
theorem Ga.take0_fit {S : Ga} (h : S.Ok) (hf : S.xs.length ≤ 960) (t : Int) (ps : List UInt8) (last : Bool) (hp : ps.length = 48) : (S.take0 t ps last).1.xs.length ≤ 960 := by
  have := h.div
  unfold Ga.take0
  split
  · exact hf
  · split
    · simp [Ga.fin]
    · split
      · simp [Ga.lose]
      · simp [Ga.add]; omega
theorem Ga.Ok.take {S : Ga} (h : S.Ok) (hf : S.xs.length ≤ 960) (t : Int) (ps : List UInt8) (last : Bool) (hp : ps.length = 48) (h0 : -9223372036854775808 ≤ t) (h1 : t ≤ 9223372036854775807) : (S.take t ps last).1.Ok := (h.tick t).take0 (Ga.tick_fit hf t) t ps last hp h0 h1
theorem Ga.take_fit {S : Ga} (h : S.Ok) (hf : S.xs.length ≤ 960) (t : Int) (ps : List UInt8) (last : Bool) (hp : ps.length = 48) : (S.take t ps last).1.xs.length ≤ 960 := Ga.take0_fit (h.tick t) (Ga.tick_fit hf t) t ps last hp
theorem Ga.tick_l (S : Ga) (t : Int) : (S.tick t).l ≤ S.l + 1 := by unfold Ga.tick; split <;> simp
theorem one_le (u : Nat) : (if u = 0 then 0 else 1 : Nat) ≤ 1 := by split <;> omega
theorem Ga.take_l (S : Ga) (t : Int) (ps : List UInt8) (last : Bool) : (S.take t ps last).1.l ≤ S.l + 2 := by
  have h := S.tick_l t
  unfold Ga.take Ga.take0
  split
  · simp; omega
  · split
    · exact Nat.le_trans (Nat.add_le_add h (one_le (unpackN ((S.tick t).xs ++ ps)).2.2)) (Nat.le_refl _)
    · split
      · simp [Ga.lose, Ga.add]; omega
      · simp [Ga.add]; omega
theorem Ga.tick_w (S : Ga) (t : Int) : (S.tick t).w = S.w := by unfold Ga.tick; split <;> rfl
theorem Ga.take_w (S : Ga) (t : Int) (ps : List UInt8) (last : Bool) : (S.take t ps last).1.w = S.w := by
  have h := S.tick_w t
  unfold Ga.take Ga.take0
  split
  · exact h
  · split
    · exact h
    · split <;> exact h
theorem Ga.take0_two (S : Ga) (t : Int) (ps : List UInt8) (h : S.k = true) (last : Bool) : S.take0 t ps last = ({ S with k := !last }, ([], 0, 2)) := by unfold Ga.take0; rw [if_pos h]
theorem Ga.take0_last (S : Ga) (t : Int) (ps : List UInt8) (h : S.k = false) : S.take0 t ps true = ((S.add t ps).fin, unpackN (S.xs ++ ps)) := by unfold Ga.take0; rw [if_neg (by rw [h]; decide), if_pos rfl]
theorem Ga.take0_long (S : Ga) (t : Int) (ps : List UInt8) (h : S.k = false) (hl : S.xs.length + ps.length = 1008) : S.take0 t ps false = ({ (S.add t ps).lose with k := true }, ([], 0, 6)) := by unfold Ga.take0; rw [if_neg (by rw [h]; decide), if_neg (by decide), if_pos hl]
theorem Ga.take0_more (S : Ga) (t : Int) (ps : List UInt8) (h : S.k = false) (hl : S.xs.length + ps.length ≠ 1008) : S.take0 t ps false = (S.add t ps, ([], 0, 2)) := by unfold Ga.take0; rw [if_neg (by rw [h]; decide), if_neg (by decide), if_neg hl]
end Go.Proofs.Ytfmicnjijcmjaaa
