/- Proved here: what message.lay, message.number and message.refOf answer. Conditions: as each theorem states them. -/
import Derived.Test.YtbjeljmnknibnaaDoorLa
import Derived.Test.YtbjeljmnknibnaaDoorMp
namespace Go.Proofs.YtbjeljmnknibnaaDoor
set_option linter.unusedSimpArgs false
set_option linter.unusedVariables false
open Go.RowKit Go.Shelf

set_option maxHeartbeats 1000000 in
theorem mnumber_calls (a : Option Addr) (len cap : Nat) (xs : List UInt8) (w : World) {n : Nat} (h : IsB n w a len xs) (hn : n ≤ w.heap.size) (h6 : len ≤ 6) :
    Calls Tryd.prog 55 #[.slice a len cap] w fun e w' => e = .returned (.int .i64 (numN xs : Nat)) ∧ Below w.heap.size w w' := by
  have l1 : Hid (len = xs.length) := h.1
  go_enter Tryd.func55, Tryd.ntmps55
  go_wp2
  go_loopw [3, 8] (fun v i wr => ∃ k : Nat, k ≤ len ∧ i = .int .i64 k ∧ v = .int .i64 ((numN (xs.take k) : Nat) : Int) ∧ Below w.heap.size w wr) (fun _ i _ => len - (intOf i).toNat)
  case atStart => exact ⟨0, by omega, rfl, rfl, Below.refl _ _⟩
  case round =>
    obtain ⟨k, hk, rfl, rfl, bel⟩ := hrel
    by_cases hlt : k < len
    · obtain ⟨x, hx⟩ : ∃ x, xs[k]? = some x := ⟨xs[k]'(by have := l1.out; omega), by rw [List.getElem?_eq_getElem]⟩
      obtain ⟨b1, o1, rfl, _, c1⟩ := (h.below bel hn).cell hx
      have d1 := c1 k x hx
      have HE : Hid (numN (xs.take (k + 1)) = numN (xs.take k) * 256 + x.toNat) := by show _ = _; rw [take_snoc_of hx, numN_snoc]
      have hb : numN (xs.take k) < 1099511627776 := by
        have := numN_lt (xs.take k)
        have hl : (xs.take k).length = k := by rw [List.length_take, ← l1.out]; omega
        rw [hl] at this
        have h3 : k ≤ 5 := by omega
        exact Nat.lt_of_lt_of_le this (Nat.pow_le_pow_right (by decide) h3)
      generalize numN (xs.take k) = p at *
      have ho := or_byte64 p x hb
      have hx8 := x.toNat_lt
      obtain ⟨q, hq⟩ : ∃ q, x.toNat = q := ⟨_, rfl⟩
      rw [hq] at d1 HE ho hx8
      have hp : (p : Int) ≤ 1099511627775 := by omega
      clear c1 hx h hq hb
      go_wp2
      go_roundw
      case rel => exact ⟨k + 1, by omega, by go_num, by rw [HE.out]; simp, bel⟩
      case measure => simp [intOf]; omega
    · obtain rfl : k = len := by omega
      have HF : Hid (xs.take k = xs) := List.take_of_length_le (by have := l1.out; omega)
      clear h l1
      go_wp2
      go_ret
      exact ⟨ret_int (by rw [HF.out]), bel⟩

set_option maxHeartbeats 1000000 in
theorem mlay_calls (base : Nat) (w : World) (hb : base ≤ w.heap.size) (a : Option Addr) (n c : Nat) (xs : List UInt8) (ho : OwnB base w a n c xs) (hn : n ≤ 10000) (x : Nat) (hx : (x : Int) ≤ 1099511627776) (m : Nat) (hm : m ≤ 6) :
    Calls Tryd.prog 29 #[.slice a n c, .int .i64 x, .int .i64 m] w fun e w' => ∃ a' c', e = .returned (.slice a' (n + m) c') ∧ OwnB base w' a' (n + m) c' (xs ++ beN m x) ∧ GB a w a' w' := by
  go_enter Tryd.func29, Tryd.ntmps29
  go_wp2
  go_loopw [0, 9] (fun s i wr => ∃ (k : Nat) (a' : Option Addr) (c' : Nat), k ≤ m ∧ i = .int .i64 k ∧ s = .slice a' (n + k) c' ∧ OwnB base wr a' (n + k) c' (xs ++ (beN m x).take k) ∧ GB a w a' wr) (fun _ i _ => m - (intOf i).toNat)
  case atStart => exact ⟨0, a, c, by omega, rfl, rfl, by simpa using ho, GB.refl _ _⟩
  case round =>
    obtain ⟨k, a1, c1, hk, rfl, rfl, o1, bel⟩ := hrel
    by_cases hlt : k < m
    · have hs := shr_byte x (m - 1 - k)
      have hbw : base ≤ wr.heap.size := Nat.le_trans hb bel.size
      have HG : Hid (xs ++ (beN m x).take (k + 1) = (xs ++ (beN m x).take k) ++ [UInt8.ofNat (x / 256 ^ (m - 1 - k))]) := by
        show _ = _
        rw [take_snoc_of (beN_get m x k hlt), List.append_assoc]
      generalize (beN m x).take k = T1 at HG o1
      generalize UInt8.ofNat (x / 256 ^ (m - 1 - k)) = y at hs HG
      have HS : Hid ((x : Int) / 2 ^ (8 * (m - 1 - k)) % 256 = (y.toNat : Int)) := hs
      clear hs ho
      go_wp2_with (with_reducible show wpList _ _ _ (Oper.mk _ (Op.buildSlice _ _ _) _ _ _ _ :: _) _ _; refine stop_here ?_)
      refine ⟨?_⟩
      rw [HS.out]
      refine wpList_slB (zs := [y]) (vs := [(0, .int .u8 (y.toNat : Int))]) (by rfl) base (by rfl) (by rfl) (run_sl1 _) rfl (by decide) hbw ?_
      intro b5 w5 hb5 o5 d5
      have o1 := o1.below d5 (Nat.le_refl _)
      have bel5 := bel.trans (GB.of d5)
      have hbw5 := Nat.le_trans hbw d5.size
      go_wp2_with (at_builtin; refine wpList_appG (N := n + (k + 1)) (by rfl) (by rfl) (by rfl) (by rfl) o1 o5.isB.1 (by intro h; cases h) (by omega) hbw5 (by omega) ?_; intro a6 c6 w6 o6 d6)
      go_roundw
      case rel => exact ⟨k + 1, a6, c6, by omega, by go_num, rfl, by rw [HG.out]; exact o6, bel5.trans d6⟩
      case measure => simp [intOf]; omega
    · obtain rfl : k = m := by omega
      have HF : Hid ((beN k x).take k = beN k x) := List.take_of_length_le (by rw [beN_length]; omega)
      clear ho
      go_wp2
      go_ret
      exact ⟨a1, c1, rfl, by rw [← HF.out]; exact o1, bel⟩

theorem IsB.mid3 {n : Nat} {w : World} {ad : Option Addr} {len : Nat} {a b c d e f g h i : UInt8} {t : List UInt8} (H : IsB n w ad len (a :: b :: c :: d :: e :: f :: g :: h :: i :: t)) :
    ∃ bl off, ad = some ⟨bl, off, none⟩ ∧ bl < n ∧ IsB n w (some ⟨bl, off + 2, none⟩) 3 [c, d, e] ∧ IsB n w (some ⟨bl, off + 7, none⟩) 2 [h, i] ∧ IsB n w (some ⟨bl, off + 9, none⟩) t.length t := by
  obtain ⟨hll, hc⟩ := H
  rcases hc with hc | ⟨bl, off, rfl, hb, hc⟩
  · cases hc
  · have G : ∀ (k : Nat) (ys : List UInt8), (∀ (j : Nat) (x : UInt8), ys[j]? = some x → (a :: b :: c :: d :: e :: f :: g :: h :: i :: t)[k + j]? = some x) → IsB n w (some ⟨bl, off + k, none⟩) ys.length ys := fun k ys hy =>
      ⟨rfl, .inr ⟨bl, off + k, rfl, hb, fun j x hx => by rw [Nat.add_assoc]; exact hc (k + j) x (hy j x hx)⟩⟩
    refine ⟨bl, off, rfl, hb, G 2 [c, d, e] ?_, G 7 [h, i] ?_, G 9 t ?_⟩
    · intro j x hx
      match j, hx with
      | 0, hx => exact hx
      | 1, hx => exact hx
      | 2, hx => exact hx
      | j + 3, hx => cases hx
    · intro j x hx
      match j, hx with
      | 0, hx => exact hx
      | 1, hx => exact hx
      | j + 2, hx => cases hx
    · intro j x hx
      rw [Nat.add_comm]
      exact hx

set_option maxHeartbeats 1000000 in
theorem refof_calls (ad : Option Addr) (len cap : Nat) {a b c d e f g h i : UInt8} {t : List UInt8} (w : World) {n : Nat} (H : IsB n w ad len (a :: b :: c :: d :: e :: f :: g :: h :: i :: t)) (hn : n ≤ w.heap.size) (h9 : 9 ≤ len) (hlc : len ≤ cap) :
    Calls Tryd.prog 33 #[.slice ad len cap] w fun e' w' => e' = .returned (.int .i64 (numN [c, d, e] : Nat)) ∧ Below w.heap.size w w' := by
  obtain ⟨bl, off, rfl, hb, I3, _, _⟩ := H.mid3
  clear H
  have hc5 : 5 ≤ cap := by omega
  go_enter Tryd.func33, Tryd.ntmps33
  go_wp2_with fail
  refine (mnumber_calls _ 3 _ _ _ I3 hn (by decide)).mono ?_
  rintro e1 w1 ⟨rfl, b1⟩
  go_wp2
  go_ret
  exact ⟨rfl, b1⟩
end Go.Proofs.YtbjeljmnknibnaaDoor
