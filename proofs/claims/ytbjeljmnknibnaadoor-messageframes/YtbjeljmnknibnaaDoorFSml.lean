/- Proved here: what frame's small functions answer: how many parts, what bytes come to, whether all are 0, a copy. Conditions: as each theorem states them. -/
import Derived.Test.YtbjeljmnknibnaaDoorFSame
import Derived.Test.YtbjeljmnknibnaaDoorFPl
namespace Go.Proofs.YtbjeljmnknibnaaDoor.F
set_option linter.unusedSimpArgs false
set_option linter.unusedVariables false
open Go.RowKit

set_option maxHeartbeats 400000 in
theorem many_calls (n : Nat) (hn : n ≤ 1000000) (w : World) : Calls Tryd.prog 47 #[.int .i64 n] w fun e w' => e = .returned (.int .i64 (manyN n : Nat)) ∧ w' = w := by
  by_cases h : n < 1
  · have e : manyN n = 0 := by unfold manyN; rw [if_pos h]
    rw [e]
    have q : decide ((n : Int) < 1) = true := by simp; omega
    clear e h
    go_enter Tryd.func47, Tryd.ntmps47
    go_wp2
    go_ret
    exact ⟨rfl, rfl⟩
  · have e : ((n : Int) / 48 + ((n : Int) % 48 + 55) / 48) = ((manyN n : Nat) : Int) := by unfold manyN; rw [if_neg h]; omega
    have HE : Hid (((n : Int) / 48 + ((n : Int) % 48 + 55) / 48) = ((manyN n : Nat) : Int)) := e
    have q : decide ((n : Int) < 1) = false := by simp; omega
    clear e h
    go_enter Tryd.func47, Tryd.ntmps47
    go_wp2
    go_ret
    refine ⟨ret_int ?_, rfl⟩
    have := HE.out
    omega
theorem many_neg (i : Int) (h : i < 1) (hm : -1000000 ≤ i) (w : World) : Calls Tryd.prog 47 #[.int .i64 i] w fun e w' => e = .returned (.int .i64 0) ∧ w' = w := by
  have q : decide (i < 1) = true := by simp; omega
  go_enter Tryd.func47, Tryd.ntmps47
  go_wp2
  go_ret
  exact ⟨rfl, rfl⟩

theorem or_byte (x : Nat) (y : UInt8) (hx : x < 16777216) : bits .or .u32 ((x : Int) * 256) (y.toNat : Int) = ((x * 256 + y.toNat : Nat) : Int) := by
  have hy := y.toNat_lt
  have e : (x : Int) * 256 = ((x * 256 : Nat) : Int) := by simp
  rw [e, u32_or_nat _ _ (by omega) (by omega)]
  have := Nat.shiftLeft_add_eq_or_of_lt (a := x) (i := 8) (b := y.toNat) hy
  rw [Nat.shiftLeft_eq] at this
  have h2 : x * 256 + y.toNat = x * 256 ||| y.toNat := this
  rw [h2]

set_option maxHeartbeats 1000000 in
theorem number_calls (a : Option Addr) (len cap : Nat) (xs : List UInt8) (w : World) {n : Nat} (h : IsB n w a len xs) (hn : n ≤ w.heap.size) (h4 : len ≤ 4) :
    Calls Tryd.prog 49 #[.slice a len cap] w fun e w' => e = .returned (.int .u32 (numN xs : Nat)) ∧ Below w.heap.size w w' := by
  have l1 : Hid (len = xs.length) := h.1
  go_enter Tryd.func49, Tryd.ntmps49
  go_wp2
  go_loopw [3, 8] (fun v i wr => ∃ k : Nat, k ≤ len ∧ i = .int .i64 k ∧ v = .int .u32 ((numN (xs.take k) : Nat) : Int) ∧ Below w.heap.size w wr) (fun _ i _ => len - (intOf i).toNat)
  case atStart => exact ⟨0, by omega, rfl, rfl, Below.refl _ _⟩
  case round =>
    obtain ⟨k, hk, rfl, rfl, bel⟩ := hrel
    by_cases hlt : k < len
    · obtain ⟨x, hx⟩ : ∃ x, xs[k]? = some x := ⟨xs[k]'(by have := l1.out; omega), by rw [List.getElem?_eq_getElem]⟩
      obtain ⟨b1, o1, rfl, _, c1⟩ := (h.below bel hn).cell hx
      have d1 := c1 k x hx
      have HE : Hid (numN (xs.take (k + 1)) = numN (xs.take k) * 256 + x.toNat) := by show _ = _; rw [take_snoc_of hx, numN_snoc]
      have hb : numN (xs.take k) < 16777216 := by
        have := numN_lt (xs.take k)
        have hl : (xs.take k).length = k := by rw [List.length_take, ← l1.out]; omega
        rw [hl] at this
        have h3 : k ≤ 3 := by omega
        exact Nat.lt_of_lt_of_le this (Nat.pow_le_pow_right (by decide) h3)
      generalize numN (xs.take k) = p at *
      have ho := or_byte p x hb
      have hx8 := x.toNat_lt
      obtain ⟨q, hq⟩ : ∃ q, x.toNat = q := ⟨_, rfl⟩
      rw [hq] at d1 HE ho hx8
      have hw1 : ((p : Int) * 256) % 4294967296 = (p : Int) * 256 := by omega
      clear c1 hx h hq
      go_wp2
      go_roundw
      case rel => exact ⟨k + 1, by omega, by go_num, by rw [HE.out]; simp, bel⟩
      case measure => simp [intOf]; omega
    · obtain rfl : k = len := by omega
      have HF : Hid (xs.take k = xs) := List.take_of_length_le (by have := l1.out; omega)
      clear h l1
      go_wp2
      go_ret
      exact ⟨ret_int (by rw [HF.out]), bel⟩

set_option maxHeartbeats 1000000 in
theorem zeros_calls (a : Option Addr) (len cap : Nat) (xs : List UInt8) (w : World) {n : Nat} (h : IsB n w a len xs) (hn : n ≤ w.heap.size) (hm : len ≤ 100000) :
    Calls Tryd.prog 50 #[.slice a len cap] w fun e w' => e = .returned (.bool (xs.all (· == 0))) ∧ Below w.heap.size w w' := by
  have l1 : Hid (len = xs.length) := h.1
  go_enter Tryd.func50, Tryd.ntmps50
  go_wp2
  go_loopw [7] (fun i wr => ∃ k : Nat, k ≤ len ∧ i = .int .i64 k ∧ (xs.take k).all (· == 0) = true ∧ Below w.heap.size w wr) (fun i _ => len - (intOf i).toNat)
  case atStart => exact ⟨0, by omega, rfl, rfl, Below.refl _ _⟩
  case round =>
    obtain ⟨k, hk, rfl, hE, bel⟩ := hrel
    by_cases hlt : k < len
    · obtain ⟨x, hx⟩ : ∃ x, xs[k]? = some x := ⟨xs[k]'(by have := l1.out; omega), by rw [List.getElem?_eq_getElem]⟩
      obtain ⟨b1, o1, rfl, _, c1⟩ := (h.below bel hn).cell hx
      have d1 := c1 k x hx
      by_cases hz : x = 0
      · have HE : Hid ((xs.take (k + 1)).all (· == 0) = true) := by show _ = true; rw [take_snoc_of hx, List.all_append, hE, hz]; rfl
        subst hz
        rw [show ((0 : UInt8).toNat : Int) = 0 from rfl] at d1
        clear c1 hx h hE
        go_wp2
        go_roundw
        case rel => exact ⟨k + 1, by omega, by go_num, HE.out, bel⟩
        case measure => simp [intOf]; omega
      · have HF : Hid (xs.all (· == 0) = false) := by
          show _ = false
          rw [List.all_eq_false]
          exact ⟨x, List.mem_of_getElem? hx, by simpa using hz⟩
        obtain ⟨q, hq⟩ : ∃ q, x.toNat = q := ⟨_, rfl⟩
        have ne : ((q : Int) != 0) = true := by
          rw [bne_iff_ne]
          intro e
          apply hz
          rw [← UInt8.toNat_inj, hq]
          show q = 0
          omega
        rw [hq] at d1
        clear c1 hx h hE hq hz
        go_wp2
        go_ret
        exact ⟨ret_bool HF.out.symm, bel⟩
    · obtain rfl : k = len := by omega
      have HF : Hid (xs.all (· == 0) = true) := by show _ = true; rw [List.take_of_length_le (by have := l1.out; omega)] at hE; exact hE
      clear h l1 hE
      go_wp2
      go_ret
      exact ⟨ret_bool HF.out.symm, bel⟩

theorem run_eql_slice_nil (t e : TypeId) (a : Option Addr) (l c : Nat) (h : Tryd.prog.underlying t = some (.slice e)) (w : World) : (binOp .eql t (.slice a l c) (.slice none 0 0)).run Tryd.prog w = .ok (.bool a.isNone) w := by
  simp only [binOp]
  simp [run_equal_slice_nil w t e a l c h]
set_option maxHeartbeats 1000000 in
theorem clone_calls (a : Option Addr) (len cap : Nat) (xs : List UInt8) (w : World) {n : Nat} (h : IsB n w a len xs) (hn : n ≤ w.heap.size) (nn : a = none → cap = 0) (hm : len ≤ 90000) :
    Calls Tryd.prog 51 #[.slice a len cap] w fun e w' => ∃ a' c', e = .returned (.slice a' len c') ∧ OwnB w.heap.size w' a' len c' xs ∧ Below w.heap.size w w' := by
  have hnil : ∀ w, (binOp .eql 25 (.slice a len cap) (.slice none 0 0)).run Tryd.prog w = .ok (.bool a.isNone) w := run_eql_slice_nil _ _ _ _ _ Tryd.underlying25
  cases a with
  | none =>
    have hx : xs = [] := by
      rcases h.2 with e | ⟨b, off, e, _⟩
      · exact e
      · cases e
    have hl : len = 0 := by rw [h.1, hx]; rfl
    obtain rfl := nn rfl
    subst hx hl
    have hnil' : ∀ w, (binOp .eql 25 (.slice none 0 0) (.slice none 0 0)).run Tryd.prog w = .ok (.bool true) w := hnil
    go_enter Tryd.func51, Tryd.ntmps51
    go_wp2
    go_ret
    exact ⟨none, 0, rfl, ⟨rfl, World.ownsRow_nil _ _ _ _⟩, Below.refl _ _⟩
  | some ad =>
    have hnil' : ∀ w, (binOp .eql 25 (.slice (some ad) len cap) (.slice none 0 0)).run Tryd.prog w = .ok (.bool false) w := hnil
    clear hnil
    have b2 : Below w.heap.size w (w.alloc (.cells #[] 5)) := (Below.refl _ w).alloc (Nat.le_refl _) _
    obtain ⟨a4, c4, w4, hap4, o4, b4⟩ := run_app (w.alloc (.cells #[] 5)) w.heap.size 25 _ 0 0 _ (ownB_new w.heap.size w (Nat.le_refl _)) (some ad) len cap xs (h.below b2 hn) (by intro h; cases h) (by omega) (by simp)
    simp only [Nat.zero_add, List.nil_append] at hap4 o4
    clear h nn
    go_enter Tryd.func51, Tryd.ntmps51
    go_wp2_with (at_builtin; refine wpList_app hap4 _ _ rfl rfl rfl rfl rfl ?_)
    go_ret
    exact ⟨_, _, rfl, o4, b2.trans b4⟩
end Go.Proofs.YtbjeljmnknibnaaDoor.F
