/- Proved here: the given Same tells whether two rows of bytes are alike. Conditions: as each theorem states them. -/
import Derived.WalkKit
import Derived.ProofKit
import Derived.Handy
import Derived.Below
import Derived.Test.YtbjeljmnknibnaaDoorApp
import Derived.Test.YtbjeljmnknibnaaDoorProg
namespace Go.Proofs.YtbjeljmnknibnaaDoor
set_option linter.unusedSimpArgs false
set_option linter.unusedVariables false
open Go.RowKit

theorem ret_bool {a b : Bool} (h : a = b) : Ending.returned (.bool a) = .returned (.bool b) := by rw [h]
theorem ret_int {k : IntKind} {a b : Int} (h : a = b) : Ending.returned (.int k a) = .returned (.int k b) := by rw [h]
theorem take_snoc_of {xs : List UInt8} {k : Nat} {x : UInt8} (h : xs[k]? = some x) : xs.take (k + 1) = xs.take k ++ [x] := by
  rw [List.take_add_one, h]; rfl

set_option maxHeartbeats 1000000 in
theorem same_calls (a1 a2 : Option Addr) (len1 cap1 len2 cap2 : Nat) (xs ys : List UInt8) (w : World) {n1 n2 : Nat} (h1 : IsB n1 w a1 len1 xs) (h2 : IsB n2 w a2 len2 ys) (hn1 : n1 ≤ w.heap.size) (hn2 : n2 ≤ w.heap.size) (m1 : len1 ≤ 100000) :
    Calls Tryd.prog 15 #[.slice a1 len1 cap1, .slice a2 len2 cap2] w fun e w' => e = .returned (.bool (xs == ys)) ∧ Below w.heap.size w w' := by
  have l1 : Hid (len1 = xs.length) := h1.1
  have l2 : Hid (len2 = ys.length) := h2.1
  by_cases hl : len1 = len2
  · subst hl
    go_enter Tryd.func15, Tryd.ntmps15
    go_wp2
    go_loopw [13] (fun i wr => ∃ k : Nat, k ≤ len1 ∧ i = .int .i64 k ∧ xs.take k = ys.take k ∧ Below w.heap.size w wr) (fun i _ => len1 - (intOf i).toNat)
    case atStart => exact ⟨0, by omega, rfl, rfl, Below.refl _ _⟩
    case round =>
      obtain ⟨k, hk, rfl, hE, bel⟩ := hrel
      by_cases hlt : k < len1
      · obtain ⟨x, hx⟩ : ∃ x, xs[k]? = some x := ⟨xs[k]'(by have := l1.out; omega), by rw [List.getElem?_eq_getElem]⟩
        obtain ⟨y, hy⟩ : ∃ y, ys[k]? = some y := ⟨ys[k]'(by have := l2.out; omega), by rw [List.getElem?_eq_getElem]⟩
        obtain ⟨b1, o1, rfl, _, c1⟩ := (h1.below bel hn1).cell hx
        obtain ⟨b2, o2, rfl, _, c2⟩ := (h2.below bel hn2).cell hy
        have d1 := c1 k x hx
        have d2 := c2 k y hy
        have t1 := take_snoc_of hx
        have t2 := take_snoc_of hy
        by_cases hxy : x = y
        · subst hxy
          have HE : Hid (xs.take (k + 1) = ys.take (k + 1)) := by show xs.take (k + 1) = ys.take (k + 1); rw [t1, t2, hE]
          obtain ⟨p, hp⟩ : ∃ p, x.toNat = p := ⟨_, rfl⟩
          rw [hp] at d1 d2
          clear hE t1 t2 hx hy c1 c2 hp h1 h2 l1 l2
          go_wp2
          go_region
          all_goals
            go_wp2
            go_roundw
            case rel => exact ⟨k + 1, by omega, by go_num, HE.out, bel.drew⟩
            case measure => simp [intOf]; omega
        · have HF : Hid ((xs == ys) = false) := by
            show (xs == ys) = false
            rw [beq_eq_false_iff_ne]
            intro e
            subst e
            rw [hx] at hy
            exact hxy (Option.some.inj hy)
          have hpq : x.toNat ≠ y.toNat := fun e => hxy (UInt8.toNat_inj.1 e)
          obtain ⟨p, hp⟩ : ∃ p, x.toNat = p := ⟨_, rfl⟩
          obtain ⟨q, hq⟩ : ∃ q, y.toNat = q := ⟨_, rfl⟩
          rw [hp] at d1
          rw [hq] at d2
          rw [hp, hq] at hpq
          have ne : ((p : Int) != (q : Int)) = true := by simp; omega
          clear hE t1 t2 hx hy c1 c2 hp hq h1 h2 l1 l2 hxy hpq
          go_wp2
          go_region
          all_goals
            go_wp2
            go_ret
            exact ⟨ret_bool HF.out.symm, bel.drew⟩
      · obtain rfl : k = len1 := by omega
        have HF : Hid ((xs == ys) = true) := by
          show (xs == ys) = true
          rw [List.take_of_length_le (by have := l1.out; omega), List.take_of_length_le (by have := l2.out; omega)] at hE
          simp [hE]
        clear hE h1 h2 l1 l2
        go_wp2
        go_ret
        exact ⟨ret_bool HF.out.symm, bel⟩
  · have HF : Hid ((xs == ys) = false) := by
      show (xs == ys) = false
      rw [beq_eq_false_iff_ne]
      intro e
      subst e
      exact hl (l1.out.trans l2.out.symm)
    have ne : ((len1 : Int) != (len2 : Int)) = true := by simp; omega
    clear h1 h2 l1 l2 hl
    go_enter Tryd.func15, Tryd.ntmps15
    go_wp2
    go_ret
    exact ⟨ret_bool HF.out.symm, Below.refl _ _⟩
end Go.Proofs.YtbjeljmnknibnaaDoor
