/- Proved here: what the document's Same answers of a message and itself, and few of a message. Conditions: as each theorem states them. -/
import Derived.Test.YtbjeljmnknibnaaDoorSm
import Derived.Test.YtbjeljmnknibnaaDoorMr
namespace Go.Proofs.YtbjeljmnknibnaaDoor
set_option linter.unusedSimpArgs false
set_option linter.unusedVariables false
set_option maxRecDepth 20000
open Go.RowKit Go.Shelf

set_option maxHeartbeats 1000000 in
theorem refmsame_self (r : Int) (b : Bool) (k : Int) (a1 a2 : Option Addr) (n1 c1 n2 c2 : Nat) (L : List El) (w : World) {m1 m2 : Nat} (h1 : IsI m1 w a1 n1 L) (h2 : IsI m2 w a2 n2 L) (hm1 : m1 ≤ w.heap.size) (hm2 : m2 ≤ w.heap.size) (hl1 : n1 ≤ 1000) (hl2 : n2 ≤ 1000) (hx : ∀ x ∈ L, x.body.length ≤ 100000) :
    Calls Tryd.prog 16 #[meV r b k a1 n1 c1, meV r b k a2 n2 c2] w fun e w' => e = .returned (.bool true) ∧ Below w.heap.size w w' := by
  have B0 : Below w.heap.size w ((w.alloc (.cells (meC r b k a1 n1 c1) 24)).alloc (.cells (meC r b k a2 n2 c2) 24)) := ((Below.refl _ w).alloc (Nat.le_refl _) _).alloc (by simp) _
  have HS := same15_calls a1 a2 n1 c1 n2 c2 L L ((w.alloc (.cells (meC r b k a1 n1 c1) 24)).alloc (.cells (meC r b k a2 n2 c2) 24)) (h1.below B0 hm1) (h2.below B0 hm2) (Nat.le_trans hm1 B0.size) (Nat.le_trans hm2 B0.size) hl1 hl2 hx
  rw [sameL_self] at HS
  clear h1 h2 hx
  have q1 : (b == b) = true := by cases b <;> rfl
  have q2 : (r == r) = true := by simp
  have q3 : (k == k) = true := by simp
  go_enter Tryd.func16, Tryd.ntmps16
  go_wp2_with fail
  refine HS.mono ?_
  rintro e w5 ⟨rfl, b5⟩
  go_wp2
  go_ret
  exact ⟨rfl, B0.trans (b5.mono B0.size)⟩

/-- Are they of a size that is looked at? -/
def fewB (L : List El) : Bool := !L.any (fun x => decide (300 < x.body.length)) && decide (L.length ≤ 20)
theorem fewB_iff {L : List El} : fewB L = true ↔ (∀ x ∈ L, x.body.length ≤ 300) ∧ L.length ≤ 20 := by simp [fewB]
set_option maxHeartbeats 1000000 in
theorem mfew_calls (r : Int) (bb : Bool) (kk : Int) (a : Option Addr) (n c : Nat) (L : List El) (w : World) {m0 : Nat} (hv : IsI m0 w a n L) (hm0 : m0 ≤ w.heap.size) (hn : n ≤ maxLen) :
    Calls Tryd.prog 10 #[meV r bb kk a n c] w fun e w' => e = .returned (.bool (fewB L)) ∧ Below w.heap.size w w' := by
  have HnL : Hid (n = L.length) := hv.1
  have hn63 : (n : Int) ≤ 9223372036854775807 := by unfold maxLen at hn; omega
  have A0 := me_below (w := w) (r := r) (b := bb) (k := kk) (a := a) (n := n) (c := c)
  have K0 := me_box (w := w) (r := r) (b := bb) (k := kk) (a := a) (n := n) (c := c)
  go_enter Tryd.func10, Tryd.ntmps10
  go_wp2
  go_loopw [7] (fun iv wr => ∃ (k : Nat), k ≤ n ∧ iv = .int .i64 k ∧ BK wr w.heap.size (meC r bb kk a n c) 24 ∧ Below w.heap.size w wr ∧ Hid (∀ (j : Nat) (y : El), j < k → L[j]? = some y → y.body.length ≤ 300)) (fun iv _ => n - (intOf iv).toNat)
  case atStart => exact ⟨0, Nat.zero_le _, rfl, K0, A0, fun j y hj => absurd hj (Nat.not_lt_zero _)⟩
  case round =>
    obtain ⟨k, hk, rfl, K1, b1, HH⟩ := hrel
    have p3 := K1.cell 3 _ rfl
    clear K0 A0
    by_cases hlt : k < n
    · obtain ⟨b, off, x, ai, li, ci, rfl, hbm, hx, hI, hn0, hlc, c1, c2⟩ := (hv.below b1 hm0).at hlt
      have HX : Hid (L[k]? = some x) := hx
      have hli : Hid (li = x.body.length) := hI.1
      clear hx hI
      by_cases h3 : 300 < li
      · have q1 : decide (300 < (li : Int)) = true := by simp; omega
        have HE : Hid (fewB L = false) := by
          show _ = false
          cases hf : fewB L
          · rfl
          · have := (fewB_iff.1 hf).1 x (List.mem_of_getElem? HX.out)
            have := hli.out
            omega
        clear h3
        go_wp2
        go_ret
        exact ⟨ret_bool HE.out.symm, b1⟩
      · have q1 : decide (300 < (li : Int)) = false := by simp; omega
        have H3 : Hid (li ≤ 300) := Nat.not_lt.1 h3
        clear h3
        go_wp2
        go_roundw
        case rel => exact ⟨k + 1, by omega, by go_num, K1, b1, fun j y hj hy => by
              rcases Nat.lt_or_ge j k with h | h
              · exact HH.out j y h hy
              · obtain rfl : j = k := (by omega)
                have := HX.out.symm.trans hy
                cases this
                have := H3.out
                have := hli.out
                omega⟩
        case measure => simp [intOf]; omega
    · obtain rfl : k = n := by omega
      have hall : ∀ x ∈ L, x.body.length ≤ 300 := fun x hx => by
        obtain ⟨j, hj⟩ := List.getElem?_of_mem hx
        exact HH.out j x (by have := (List.getElem?_eq_some_iff.1 hj).1; have := HnL.out; omega) hj
      have HE : Hid (decide ((k : Int) ≤ 20) = fewB L) := by
        show _ = _
        rw [Bool.eq_iff_iff, fewB_iff, decide_eq_true_iff, ← HnL.out]
        exact ⟨fun h => ⟨hall, by omega⟩, fun h => by omega⟩
      clear hall HH
      go_wp2
      go_ret
      exact ⟨ret_bool HE.out, b1⟩
end Go.Proofs.YtbjeljmnknibnaaDoor
