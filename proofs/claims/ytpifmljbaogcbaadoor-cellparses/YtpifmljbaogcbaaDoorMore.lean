/- Proved here: small facts on arrays in memory and on what becomes of a header. Conditions: as each theorem states them. -/
import Derived.Test.YtpifmljbaogcbaaDoorArrs
import Derived.Test.YtpifmljbaogcbaaDoorLists
import Derived.Test.YtpifmljbaogcbaaDoorTake
import Derived.Test.YtpifmljbaogcbaaDoorRet
namespace Go.Proofs.YtpifmljbaogcbaaDoor
open Go.RowKit

theorem IsA.five {n : Nat} {W : World} {a : Option Addr} {len : Nat} {L : List (List UInt8)} (h : IsA 5 n W a len L) {i : Nat} (hi : i < len) :
    ∃ b off x0 x1 x2 x3 x4, a = some ⟨b, off, none⟩ ∧ b < n ∧ L[i]? = some [x0, x1, x2, x3, x4] ∧ W.cell? ⟨b, off + i * 5, none⟩ = some (.int .u8 (x0.toNat : Int)) ∧ W.cell? ⟨b, off + i * 5 + 1, none⟩ = some (.int .u8 (x1.toNat : Int)) ∧
      W.cell? ⟨b, off + i * 5 + 2, none⟩ = some (.int .u8 (x2.toNat : Int)) ∧ W.cell? ⟨b, off + i * 5 + 3, none⟩ = some (.int .u8 (x3.toNat : Int)) ∧ W.cell? ⟨b, off + i * 5 + 4, none⟩ = some (.int .u8 (x4.toNat : Int)) := by
  have e := h.1
  obtain ⟨x, hx⟩ : ∃ x, L[i]? = some x := ⟨L[i]'(by omega), by rw [List.getElem?_eq_getElem]⟩
  obtain ⟨b, off, ha, hb, hl, hc⟩ := h.cell hx
  obtain ⟨x0, x1, x2, x3, x4, rfl⟩ := list5 hl
  exact ⟨b, off, x0, x1, x2, x3, x4, ha, hb, hx, hc 0 x0 rfl, hc 1 x1 rfl, hc 2 x2 rfl, hc 3 x3 rfl, hc 4 x4 rfl⟩

theorem res_sum (c : Bool) (xs : List UInt8) : (res c xs).rep + (res c xs).drop ≤ 1 := by
  unfold res
  split
  · exact Nat.zero_le 1
  · split
    · exact Nat.le_refl 1
    · split <;> exact Nat.le_refl 1


theorem res_cases (c : Bool) (xs : List UInt8) : (synN xs = 0 ∧ res c xs = .right) ∨ (synN xs ≠ 0 ∧ c = false ∧ ∃ k, bitN (synN xs) = some k ∧ res c xs = .fixed k) ∨ (synN xs ≠ 0 ∧ (c = true ∨ bitN (synN xs) = none) ∧ res c xs = .gone) := by
  unfold res
  by_cases hs : synN xs = 0
  · left; exact ⟨hs, if_pos hs⟩
  · right
    rw [if_neg hs]
    cases c with
    | true => right; exact ⟨hs, .inl rfl, rfl⟩
    | false =>
      cases hb : bitN (synN xs) with
      | none => right; exact ⟨hs, .inr rfl, rfl⟩
      | some k => left; exact ⟨hs, rfl, k, rfl, rfl⟩

theorem IsA.isB {n : Nat} {W : World} {a : Option Addr} {len : Nat} {L : List (List UInt8)} (h : IsA 5 n W a len L) {i : Nat} {x0 x1 x2 x3 x4 : UInt8} {b off : Nat} (ha : a = some ⟨b, off, none⟩) (hx : L[i]? = some [x0, x1, x2, x3, x4]) :
    IsB n W (some ⟨b, off + i * 5, none⟩) 5 [x0, x1, x2, x3, x4] := by
  obtain ⟨b', off', e, hb, _, hc⟩ := h.cell hx
  rw [ha] at e
  cases e
  exact ⟨rfl, .inr ⟨b, off + i * 5, rfl, hb, fun j y hy => hc j y hy⟩⟩

theorem OwnB.five {base : Nat} {w : World} {a : Option Addr} {c : Nat} {o0 o1 o2 o3 o4 : UInt8} (h : OwnB base w a 5 c [o0, o1, o2, o3, o4]) :
    ∃ g, a = some ⟨g, 0, none⟩ ∧ w.cell? ⟨g, 0, none⟩ = some (.int .u8 (o0.toNat : Int)) ∧ w.cell? ⟨g, 1, none⟩ = some (.int .u8 (o1.toNat : Int)) ∧ w.cell? ⟨g, 2, none⟩ = some (.int .u8 (o2.toNat : Int)) ∧ w.cell? ⟨g, 3, none⟩ = some (.int .u8 (o3.toNat : Int)) ∧ w.cell? ⟨g, 4, none⟩ = some (.int .u8 (o4.toNat : Int)) := by
  obtain ⟨g, cur, rfl, _, _, _⟩ := h.block (by decide)
  obtain ⟨b, off, e, _, hc⟩ := h.isB.1.cell (k := 0) (x := o0) rfl
  cases e
  refine ⟨g, rfl, ?_, ?_, ?_, ?_, ?_⟩
  · have := hc 0 o0 rfl; rwa [Nat.zero_add] at this
  · have := hc 1 o1 rfl; rwa [Nat.zero_add] at this
  · have := hc 2 o2 rfl; rwa [Nat.zero_add] at this
  · have := hc 3 o3 rfl; rwa [Nat.zero_add] at this
  · have := hc 4 o4 rfl; rwa [Nat.zero_add] at this

theorem flip_back (x0 x1 x2 x3 x4 : UInt8) (n : Nat) (hn : n < 40) : flipN (flipN [x0, x1, x2, x3, x4] n) n = [x0, x1, x2, x3, x4] := by
  have hq : n / 8 = 0 ∨ n / 8 = 1 ∨ n / 8 = 2 ∨ n / 8 = 3 ∨ n / 8 = 4 := by omega
  have ex : ∀ u v : UInt8, u ^^^ v ^^^ v = u := fun u v => by rw [UInt8.xor_assoc, UInt8.xor_self, UInt8.xor_zero]
  rcases hq with hq | hq | hq | hq | hq <;> simp [flipN, hq, ex]
end Go.Proofs.YtpifmljbaogcbaaDoor
