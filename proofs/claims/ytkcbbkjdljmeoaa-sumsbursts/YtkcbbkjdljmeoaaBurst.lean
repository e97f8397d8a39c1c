/- Proved here: the given burst answers bytes with bits turned over, and whether any is. Conditions: as each theorem states them. -/
import Derived.Test.YtkcbbkjdljmeoaaMathD
namespace Go.Proofs.Ytkcbbkjdljmeoaa
open Go.RowKit

theorem shift_bit (y i : Nat) (hy : y < 4294967296) : bits .and .u64 ((y : Int) / 2 ^ i) 1 = bv (y.testBit i) := by
  have e : (y : Int) / 2 ^ i = ((y / 2 ^ i : Nat) : Int) := by simp
  have hlt : y / 2 ^ i < 18446744073709551616 := Nat.lt_of_le_of_lt (Nat.div_le_self _ _) (by omega)
  have h := u64_and_nat (y / 2 ^ i) 1 hlt (by decide)
  rw [e]
  refine (show bits .and .u64 ((y / 2 ^ i : Nat) : Int) 1 = _ from h).trans ?_
  rw [Nat.and_one_is_mod, Nat.testBit_eq_decide_div_mod_eq, bv]
  rcases Nat.mod_two_eq_zero_or_one (y / 2 ^ i) with h | h <;> simp [h]

set_option maxHeartbeats 2000000 in
theorem burst_calls (a1 : Option Addr) (len cap1 : Nat) (xs : List UInt8) (w : World) {n : Nat} (h1 : IsB n w a1 len xs) (hn : n ≤ w.heap.size) (n1 : a1 = none → cap1 = 0) (hpos : 0 < len) (hl : len ≤ 300) (t y many : Nat) (ht : t < 18446744073709551616) (hy : y < 4294967296) (hm : many ≤ 32) :
    Calls Try.prog 20 #[.slice a1 len cap1, .int .u64 t, .int .u64 y, .int .i64 many] w fun e w' => ∃ a' c', e = .returned (.tuple #[.slice a' len c', .bool (changedTo xs.length (t % (8 * len)) y many)]) ∧
      OwnB w.heap.size w' a' len c' (burstTo xs (t % (8 * len)) y many) ∧ Below w.heap.size w w' := by
  have lx : len = xs.length := h1.1
  have LX : Hid (len = xs.length) := lx
  clear lx
  have b2 : Below w.heap.size w (w.alloc (.cells #[] 5)) := (Below.refl _ w).alloc (Nat.le_refl _) _
  obtain ⟨a4, c4, w4, hap4, o4, b4⟩ := run_app (w.alloc (.cells #[] 5)) w.heap.size 22 _ 0 0 _ (ownB_new w.heap.size w (Nat.le_refl _)) a1 len cap1 xs (h1.below b2 hn) n1 (by omega) (by simp)
  simp only [Nat.zero_add, List.nil_append] at hap4 o4
  have b14 := b2.trans b4
  obtain ⟨p, hp⟩ : ∃ p, t % (8 * len) = p := ⟨_, rfl⟩
  rw [hp]
  have hp8 : p < 8 * len := by rw [← hp]; exact Nat.mod_lt _ (by omega)
  have tp : (t : Int) % (8 * (len : Int)) = (p : Int) := by rw [← hp]; simp
  clear hp
  go_enter Try.func20, Try.ntmps20
  go_wp2_with (at_builtin; refine wpList_app hap4 _ _ rfl rfl rfl rfl rfl ?_)
  clear hap4
  go_loopw [10, 11, 18] (fun ov cv iv wr => ∃ i : Nat, ∃ a' c', i ≤ many ∧ iv = .int .i64 i ∧ cv = .bool (changedTo xs.length p y i) ∧ ov = .slice a' len c' ∧ OwnB w.heap.size wr a' len c' (burstTo xs p y i) ∧ Below w.heap.size w wr) (fun _ _ iv _ => many - (intOf iv).toNat)
  case atStart => exact ⟨0, a4, c4, Nat.zero_le _, rfl, rfl, rfl, o4, b14⟩
  case round =>
    obtain ⟨i, a', c', hi, rfl, rfl, rfl, oi, bi⟩ := hrel
    by_cases hlt : i < many
    · have hbit := shift_bit y i hy
      have lB := burst_length xs p y i
      by_cases hb : y.testBit i = true
      · rw [hb] at hbit
        have hbit1 : bits .and .u64 ((y : Int) / 2 ^ i) 1 = 1 := hbit
        clear hbit
        by_cases hk : p + i < 8 * len
        · have hh : hit xs.length p y i = true := by simp [hit, hb, ← LX.out, hk]
          have ec : changedTo xs.length p y (i + 1) = true := by simp [changedTo, hh]
          have eb : burstTo xs p y (i + 1) = flipN (burstTo xs p y i) (p + i) := by simp [burstTo, hh]
          have EC : Hid (changedTo xs.length p y (i + 1) = true) := ec
          have EB : Hid (burstTo xs p y (i + 1) = flipN (burstTo xs p y i) (p + i)) := eb
          have hk' : (p : Int) + (i : Int) < 8 * (len : Int) := by omega
          clear hh ec eb hb hk lB
          go_wp2_with fail
          have e1 : (p : Int) + (i : Int) = ((p + i : Nat) : Int) := by simp
          rw [e1]
          refine (flip_calls _ _ _ _ _ oi.isB.1 (Nat.le_refl _) oi.isB.2.1 (by omega) (p + i) (by omega)).mono ?_
          rintro e w5 ⟨a5, c5, rfl, o5, b5⟩
          rw [← e1]
          clear e1
          go_wp2
          go_roundw
          case rel => exact ⟨i + 1, a5, c5, by omega, by go_num, by rw [EC.out], rfl, by rw [EB.out]; exact o5.mono bi.size, bi.trans (b5.mono bi.size)⟩
          case measure => simp [intOf]; omega
        · have hh : hit xs.length p y i = false := by simp [hit, hb, ← LX.out]; omega
          have ec : changedTo xs.length p y (i + 1) = changedTo xs.length p y i := by simp [changedTo, hh]
          have eb : burstTo xs p y (i + 1) = burstTo xs p y i := by simp [burstTo, hh]
          have EC : Hid (changedTo xs.length p y (i + 1) = changedTo xs.length p y i) := ec
          have EB : Hid (burstTo xs p y (i + 1) = burstTo xs p y i) := eb
          have hk' : 8 * (len : Int) ≤ (p : Int) + (i : Int) := by omega
          clear hh ec eb hb hk lB
          go_wp2
          go_roundw
          case rel => exact ⟨i + 1, a', c', by omega, by go_num, by rw [EC.out], rfl, by rw [EB.out]; exact oi, bi⟩
          case measure => simp [intOf]; omega
      · have hb' : y.testBit i = false := by simpa using hb
        rw [hb'] at hbit
        have hbit1 : bits .and .u64 ((y : Int) / 2 ^ i) 1 = 0 := hbit
        clear hbit
        have hh : hit xs.length p y i = false := by simp [hit, hb']
        have ec : changedTo xs.length p y (i + 1) = changedTo xs.length p y i := by simp [changedTo, hh]
        have eb : burstTo xs p y (i + 1) = burstTo xs p y i := by simp [burstTo, hh]
        have EC : Hid (changedTo xs.length p y (i + 1) = changedTo xs.length p y i) := ec
        have EB : Hid (burstTo xs p y (i + 1) = burstTo xs p y i) := eb
        clear hh ec eb hb hb' lB
        go_wp2
        go_roundw
        case rel => exact ⟨i + 1, a', c', by omega, by go_num, by rw [EC.out], rfl, by rw [EB.out]; exact oi, bi⟩
        case measure => simp [intOf]; omega
    · obtain rfl : i = many := by omega
      go_wp2
      go_ret2
      exact ⟨a', c', rfl, oi, bi⟩
end Go.Proofs.Ytkcbbkjdljmeoaa
