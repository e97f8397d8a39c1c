/- Proved here: the given Bits answers the bits of bytes. Conditions: as each theorem states them. -/
import Derived.Test.YtpjlcmdidhdbcaaLib
import Derived.Test.YtpjlcmdidhdbcaaMathD
namespace Go.Proofs.Ytpjlcmdidhdbcaa
open Go.RowKit

theorem info3 : (Try.prog.info? 3).map (fun i => (i.zero, i.size, i.bytes)) = some (some (.int .i64 0), 1, 8) := by kernel_rfl
/-- Bits as numbers. -/
def bvs (l : List Bool) : List Int := l.map bv
theorem bvs_length (l : List Bool) : (bvs l).length = l.length := by simp [bvs]
theorem bvs_append (a b : List Bool) : bvs (a ++ b) = bvs a ++ bvs b := by simp [bvs]

theorem refbit (x j : Nat) (hj : j < 8) : (x : Int) / ((128 / 2 ^ j : Nat) : Int) % 2 = bv (x.testBit (7 - j)) := by
  have e : (128 / 2 ^ j : Nat) = 2 ^ (7 - j) := by
    have : j = 0 ∨ j = 1 ∨ j = 2 ∨ j = 3 ∨ j = 4 ∨ j = 5 ∨ j = 6 ∨ j = 7 := by omega
    rcases this with rfl | rfl | rfl | rfl | rfl | rfl | rfl | rfl <;> decide
  rw [e, Nat.testBit_eq_decide_div_mod_eq, bv]
  have e2 : (x : Int) / ((2 ^ (7 - j) : Nat) : Int) % 2 = ((x / 2 ^ (7 - j) % 2 : Nat) : Int) := by simp
  rw [e2]
  rcases Nat.mod_two_eq_zero_or_one (x / 2 ^ (7 - j)) with h | h <;> simp [h]

set_option maxHeartbeats 2000000 in
theorem refbits_calls (a1 : Option Addr) (len cap1 : Nat) (xs : List UInt8) (w : World) {n : Nat} (h1 : IsB n w a1 len xs) (hn : n ≤ w.heap.size) (hl : len ≤ 300) :
    Calls Try.prog 32 #[.slice a1 len cap1] w fun e w' => ∃ a' c', e = .returned (.slice a' (8 * len) c') ∧ OwnR 3 .i64 w.heap.size w' a' (8 * len) c' (bvs (bitsOf xs)) ∧ Below w.heap.size w w' := by
  have LX : Hid (len = xs.length) := h1.1
  go_enter Try.func32, Try.ntmps32
  go_wp2
  go_loopw [3, 9] (fun ov kv wr => ∃ k : Nat, ∃ a' c', k ≤ len ∧ kv = .int .i64 k ∧ ov = .slice a' (8 * k) c' ∧ OwnR 3 .i64 w.heap.size wr a' (8 * k) c' (bvs (bitsOf (xs.take k))) ∧ Below w.heap.size w wr) (fun _ kv _ => len - (intOf kv).toNat)
  case atStart => exact ⟨0, none, 0, Nat.zero_le _, rfl, rfl, ownR_nil _ _ _ _, Below.refl _ _⟩
  case round =>
    obtain ⟨k, a', c', hk, rfl, rfl, ok, bk⟩ := hrel
    by_cases hlt : k < len
    · obtain ⟨x, hx⟩ : ∃ x, xs[k]? = some x := ⟨xs[k]'(by rw [← LX.out]; exact hlt), by rw [List.getElem?_eq_getElem]⟩
      obtain ⟨b, off, rfl, hb, hc⟩ := (h1.below bk hn).cell hx
      have hcx := hc k x hx
      have hsucc := bitsOf_take_succ xs k x hx
      obtain ⟨m, hm⟩ : ∃ m, x.toNat = m := ⟨_, rfl⟩
      have hm256 : m < 256 := by rw [← hm]; exact x.toNat_lt
      rw [hm] at hcx hsucc
      have HS : Hid (bitsOf (xs.take (k + 1)) = bitsOf (xs.take k) ++ bitsUpto m 8) := hsucc
      clear hsucc hm hx hc
      go_wp2
      go_loopw [3, 6] (fun ov jv wr => ∃ j : Nat, ∃ a' c', j ≤ 8 ∧ jv = .int .i64 ((128 / 2 ^ j : Nat) : Int) ∧ ov = .slice a' (8 * k + j) c' ∧ OwnR 3 .i64 w.heap.size wr a' (8 * k + j) c' (bvs (bitsOf (xs.take k) ++ bitsUpto m j)) ∧ Below w.heap.size w wr) (fun _ jv _ => (intOf jv).toNat)
      case atStart => exact ⟨0, a', c', by omega, rfl, rfl, by simpa [bitsUpto] using ok, bk⟩
      case round =>
        obtain ⟨j, a2, c2, hj, rfl, rfl, oj, bj⟩ := hrel
        by_cases hj8 : j < 8
        · have hbit := refbit m j hj8
          have hd : 128 / 2 ^ (j + 1) = 128 / 2 ^ j / 2 := by rw [Nat.pow_succ, Nat.div_div_eq_div_mul]
          have hdp : 0 < 128 / 2 ^ j := by
            have : j = 0 ∨ j = 1 ∨ j = 2 ∨ j = 3 ∨ j = 4 ∨ j = 5 ∨ j = 6 ∨ j = 7 := by omega
            rcases this with rfl | rfl | rfl | rfl | rfl | rfl | rfl | rfl <;> decide
          have hdl : 128 / 2 ^ j ≤ 128 := Nat.div_le_self _ _
          have hus := bitsUpto_succ m j
          have HD : Hid (128 / 2 ^ (j + 1) = 128 / 2 ^ j / 2) := hd
          have HU : Hid (bitsUpto m (j + 1) = bitsUpto m j ++ [m.testBit (7 - j)]) := hus
          generalize hdv : 128 / 2 ^ j = d at *
          generalize hq : m.testBit (7 - j) = q at *
          obtain ⟨v, hv⟩ : ∃ v, bv q = v := ⟨_, rfl⟩
          rw [hv] at hbit
          obtain ⟨e, he⟩ : ∃ e, m / d = e := ⟨_, rfl⟩
          have hme : (m : Int) / (d : Int) = (e : Int) := by rw [← he]; simp
          have hel : e ≤ 255 := by rw [← he]; exact Nat.le_trans (Nat.div_le_self _ _) (by omega)
          rw [hme] at hbit
          clear he
          obtain ⟨a3, c3, w3, hap, o3, b3⟩ := run_appR (P := Try.prog) 65 3 .i64 0 8 Try.underlying65 info3 (by decide) (wr.alloc (.cells #[.int .i64 v] 3)) w.heap.size 65 a2 (8 * k + j) c2 _ (oj.below ((Below.refl _ wr).alloc (Nat.le_refl _) _) (Nat.le_refl _)) (some ⟨wr.heap.size, 0, none⟩) 1 1 [v] (isR_new .i64 wr [v] 3 (0, 0)) (by intro h; cases h) (by omega) (by have := bj.size; simp; omega)
          have HV : Hid (bv q = v) := hv
          clear hv hd hus hdv hq
          go_wp2_with (at_builtin; refine wpList_app hap _ _ rfl rfl rfl rfl rfl ?_)
          go_roundw
          case rel => exact ⟨j + 1, a3, c3, by omega, by rw [HD.out]; go_num, rfl, by rw [HU.out, ← List.append_assoc, bvs_append]; have := HV.out; subst this; exact o3, (bj.alloc bj.size _).trans b3⟩
          case measure => simp [intOf]; omega
        · obtain rfl : j = 8 := by omega
          go_wp2
          go_roundw
          case rel => exact ⟨k + 1, a2, c2, by omega, by go_num, by rw [Nat.mul_add], by rw [HS.out, Nat.mul_add]; exact oj, bj⟩
          case measure => simp [intOf]; omega
    · obtain rfl : k = len := by omega
      go_wp2
      go_ret
      exact ⟨a', c', rfl, by have e := LX.out; rw [e, List.take_length] at ok; rw [e]; exact ok, bk⟩
end Go.Proofs.Ytpjlcmdidhdbcaa
