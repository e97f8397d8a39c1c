/- Proved here: what the document's bytes and number answer. Conditions: as each theorem states them. -/
import Derived.Test.YtbjkioekmekeaaaLa
namespace Go.Proofs.Ytbjkioekmekeaaa
set_option linter.unusedSimpArgs false
set_option linter.unusedVariables false
open Go.RowKit Go.Shelf

set_option maxHeartbeats 1000000 in
theorem bytes_calls (x : Nat) (hx : (x : Int) ≤ 1099511627776) (m : Nat) (hm : m ≤ 6) (w : World) :
    Calls Try.prog 39 #[.int .i64 x, .int .i64 m] w fun e w' => ∃ (a : Option Addr) (c : Nat), e = .returned (.slice a m c) ∧ OwnB w.heap.size w' a m c (beN m x) ∧ Below w.heap.size w w' := by
  go_enter Try.func39, Try.ntmps39
  go_wp2
  go_loopw [0, 5, 6] (fun n s i wr => ∃ (k q : Nat) (a : Option Addr) (c : Nat), k ≤ m ∧ i = .int .i64 k ∧ n = .int .i64 q ∧ Hid (q = x / 256 ^ k) ∧ (q : Int) ≤ 1099511627776 ∧ s = .slice a k c ∧ OwnB w.heap.size wr a k c (beN k x) ∧ Below w.heap.size w wr) (fun _ _ i _ => m - (intOf i).toNat)
  case atStart => exact ⟨0, x, none, 0, by omega, rfl, rfl, (by show x = x / 256 ^ 0; simp), hx, rfl, ownB_nil _ _, Below.refl _ _⟩
  case round =>
    obtain ⟨k, q, a, c, hk, rfl, rfl, HQ, hq, rfl, o1, bel⟩ := hrel
    by_cases hlt : k < m
    · have HG : Hid ([UInt8.ofNat q] ++ beN k x = beN (k + 1) x) := by
        show _ = _
        rw [HQ.out]
        rfl
      have HQ2 : Hid (q / 256 = x / 256 ^ (k + 1)) := by
        show _ = _
        rw [HQ.out, Nat.div_div_eq_div_mul, Nat.pow_succ]
      have HS : Hid ((q : Int) % 256 = ((UInt8.ofNat q).toNat : Int)) := by
        show _ = _
        rw [byteN]; omega
      generalize beN k x = T at *
      generalize UInt8.ofNat q = y at *
      clear HQ
      go_wp2_with (with_reducible show wpList _ _ _ (Oper.mk _ (Op.buildSlice _ _ _) _ _ _ _ :: _) _ _; refine stop_here ?_)
      refine ⟨?_⟩
      rw [HS.out]
      have hbw := bel.size
      refine wpList_slB (zs := [y]) (vs := [(0, .int .u8 (y.toNat : Int))]) (by rfl) w.heap.size (by rfl) (by rfl) (run_sl1 _) rfl (by decide) hbw ?_
      intro b5 w5 hb5 o5 d5
      have o1 := o1.below d5 (Nat.le_refl _)
      have bel5 := bel.trans (d5.mono hbw)
      have hbw5 := Nat.le_trans hbw d5.size
      go_wp2_with (at_builtin; refine wpList_appB (N := k + 1) (by rfl) (by rfl) (by rfl) (by rfl) o5 o1.isB.1 o1.isB.2.1 (by omega) hbw5 (by omega) ?_; intro a6 c6 w6 o6 d6)
      go_roundw
      case rel => exact ⟨k + 1, q / 256, a6, c6, by omega, by go_num, by go_num, HQ2.out, by omega, rfl, by rw [← HG.out]; exact o6, bel5.trans d6⟩
      case measure => simp [intOf]; omega
    · obtain rfl : k = m := by omega
      go_wp2
      go_ret
      exact ⟨a, c, rfl, o1, bel⟩

set_option maxHeartbeats 1000000 in
theorem refnumber_calls (a : Option Addr) (len cap : Nat) (xs : List UInt8) (w : World) {n : Nat} (h : IsB n w a len xs) (hn : n ≤ w.heap.size) (h6 : len ≤ 6) :
    Calls Try.prog 42 #[.slice a len cap] w fun e w' => e = .returned (.int .i64 (numN xs : Nat)) ∧ Below w.heap.size w w' := by
  have l1 : Hid (len = xs.length) := h.1
  go_enter Try.func42, Try.ntmps42
  go_wp2
  go_loopw [3, 7] (fun v i wr => ∃ k : Nat, k ≤ len ∧ i = .int .i64 k ∧ v = .int .i64 ((numN (xs.take k) : Nat) : Int) ∧ Below w.heap.size w wr) (fun _ i _ => len - (intOf i).toNat)
  case atStart => exact ⟨0, by omega, rfl, rfl, Below.refl _ _⟩
  case round =>
    obtain ⟨k, hk, rfl, rfl, bel⟩ := hrel
    by_cases hlt : k < len
    · obtain ⟨x, hx⟩ : ∃ x, xs[k]? = some x := ⟨xs[k]'(by have := l1.out; omega), by rw [List.getElem?_eq_getElem]⟩
      obtain ⟨b1, o1, rfl, _, c1⟩ := (h.below bel hn).cell hx
      have d1 := c1 k x hx
      have HE : Hid (numN (xs.take (k + 1)) = numN (xs.take k) * 256 + x.toNat) := by show _ = _; rw [take_snoc_of hx, numN_snoc]
      have hb : numN (xs.take k) < 1099511627776 := by
        have := numN_lt (xs.take k)
        have hl : (xs.take k).length = k := by rw [List.length_take, ← l1.out]; omega
        rw [hl] at this
        have h3 : k ≤ 5 := by omega
        exact Nat.lt_of_lt_of_le this (Nat.pow_le_pow_right (by decide) h3)
      generalize numN (xs.take k) = p at *
      have hx8 := x.toNat_lt
      obtain ⟨q, hq⟩ : ∃ q, x.toNat = q := ⟨_, rfl⟩
      rw [hq] at d1 HE hx8
      have hp : (p : Int) ≤ 1099511627775 := by omega
      clear c1 hx h hq hb
      go_wp2
      go_roundw
      case rel => exact ⟨k + 1, by omega, by go_num, by rw [HE.out]; simp, bel⟩
      case measure => simp [intOf]; omega
    · obtain rfl : k = len := by omega
      have HF : Hid (xs.take k = xs) := List.take_of_length_le (by have := l1.out; omega)
      clear h l1
      go_wp2
      go_ret
      exact ⟨ret_int (by rw [HF.out]), bel⟩
end Go.Proofs.Ytbjkioekmekeaaa
