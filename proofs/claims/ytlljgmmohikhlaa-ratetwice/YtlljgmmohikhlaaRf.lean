/- Proved here: what the document's functions of rates answer. Conditions: as each theorem states them. -/
import Derived.Test.YtlljgmmohikhlaaCd
namespace Go.Proofs.Ytlljgmmohikhlaa
set_option linter.unusedSimpArgs false
set_option linter.unusedVariables false
open Go.RowKit Go.Shelf

set_option maxHeartbeats 1000000 in
theorem refscaled_calls (c : Nat) (h : c < 65536) (w : World) : Calls Try.prog 13 #[.int .i64 c] w fun e w' => e = .returned (.int .i64 (scN c)) ∧ w' = w := by
  by_cases hz : c / 16384 % 2 = 0
  · have hs := scN_zero hz
    go_enter Try.func13, Try.ntmps13
    go_wp2
    go_ret
    exact ⟨ret_i (by rw [hs]; rfl), rfl⟩
  · have HS : Hid (scN c = (512 + c % 512) * 2 ^ (c / 512 % 32)) := scN_eq (by omega)
    go_enter Try.func13, Try.ntmps13
    go_wp2
    go_loopw [3, 4] (fun nv ev wr => ∃ (e x : Nat), e ≤ 31 ∧ x ≤ 1023 * 2147483648 ∧ nv = .int .i64 x ∧ ev = .int .i64 e ∧ Hid (x * 2 ^ e = scN c) ∧ wr = w) (fun _ ev _ => (intOf ev).toNat)
    case atStart => exact ⟨c / 512 % 32, 512 + c % 512, by omega, by omega, by go_num, by go_num, HS.out.symm, rfl⟩
    case round =>
      obtain ⟨e, x, he, hx, rfl, rfl, hp, rfl⟩ := hrel
      by_cases h0 : e = 0
      · subst h0
        go_wp2
        go_ret
        exact ⟨ret_i (by rw [← hp.out, Nat.pow_zero, Nat.mul_one]), rfl⟩
      · have h1 : 0 < e := by omega
        go_wp2
        go_roundw
        case rel =>
          have hle := scN_le c
          obtain ⟨d, rfl⟩ : ∃ d, e = d + 1 := ⟨e - 1, by omega⟩
          have h2 : x * 2 * 2 ^ d = scN c := by have := hp.out; rw [Nat.pow_succ] at this; rw [← this, Nat.mul_assoc, Nat.mul_comm 2]
          have h3 : x * 2 * 1 ≤ x * 2 * 2 ^ d := Nat.mul_le_mul_left _ (pow_pos2 d)
          exact ⟨d, x * 2, by omega, by omega, by go_num, by go_num, h2, trivial⟩
        case measure => simp [intOf]; omega

set_option maxHeartbeats 1000000 in
theorem refstep_calls (c : Nat) (h : c < 65536) (w : World) : Calls Try.prog 16 #[.int .i64 c] w fun e w' => e = .returned (.int .i64 (stN c)) ∧ w' = w := by
  have hle := scN_le c
  have hc := refscaled_calls c h w
  have HT : Hid (stN c = if scN c = 0 then 1152921504606846976 else (536870912 + scN c - 1) / scN c) := rfl
  obtain ⟨s, hs⟩ : ∃ s, scN c = s := ⟨_, rfl⟩
  rw [hs] at hle hc HT
  clear hs
  by_cases h0 : s = 0
  · subst h0
    rw [if_pos rfl] at HT
    go_enter Try.func16, Try.ntmps16
    go_wp2_with fail
    refine hc.mono ?_
    rintro e w1 ⟨rfl, rfl⟩
    go_wp2
    go_ret
    exact ⟨ret_i (by rw [HT.out]; rfl), rfl⟩
  · have h1 : 0 < s := by omega
    have hz : ((s : Int) == 0) = false := by simp; omega
    rw [if_neg h0] at HT
    clear h0
    go_enter Try.func16, Try.ntmps16
    go_wp2_with fail
    refine hc.mono ?_
    rintro e w1 ⟨rfl, rfl⟩
    go_wp2
    have hle2 : (s : Int) ≤ 2196875771904 := by omega
    have HL : Hid (s ≤ 1023 * 2147483648) := hle
    have h1' : 0 < (s : Int) := by omega
    have H1 : Hid (0 < s) := h1
    clear hle h1
    go_loopw [4] (fun kv wr => ∃ (k P : Nat), kv = .int .i64 k ∧ Hid (P = k * s) ∧ Hid (k ≤ 536870913) ∧ Hid (P < 536870912 + s) ∧ wr = w1) (fun kv _ => 536870914 - (intOf kv).toNat)
    case atStart => exact ⟨0, 0, rfl, by show 0 = 0 * s; omega, by show 0 ≤ 536870913; omega, by show 0 < 536870912 + s; omega, rfl⟩
    case round =>
      obtain ⟨k, P, rfl, hkP, hk, hP, rfl⟩ := hrel
      have hm : (k : Int) * (s : Int) = (P : Int) := by rw [hkP.out]; simp
      have hP1 : (P : Int) ≤ 536870911 + (s : Int) := by have := hP.out; omega
      have hk1 : (k : Int) ≤ 536870913 := by have := hk.out; omega
      by_cases hend : (P : Int) < 536870912
      · obtain ⟨d, hd, hd1, hd2, hd3⟩ := step_round H1.out hkP.out (by omega)
        have HD2 : Hid ((k + d) * s < 536870912 + s) := hd2
        have HD3 : Hid (1 ≤ d ∧ k + d ≤ 536870912) := ⟨hd1, hd3⟩
        have hd4 : (d : Int) ≤ 536870912 := by omega
        clear hd1 hd2 hd3
        go_wp2
        go_roundw
        case rel => exact ⟨k + d, (k + d) * s, by go_num, rfl, by have := HD3.out; show k + d ≤ 536870913; omega, HD2.out, trivial⟩
        case measure => have := HD3.out; simp [intOf]; omega
      · go_wp2
        go_ret
        exact ⟨ret_i (by rw [HT.out, ← step_end H1.out (by have := hP.out; rw [hkP.out] at this; exact this) (by rw [← hkP.out]; omega)]), rfl⟩

set_option maxHeartbeats 1000000 in
theorem refcode_calls (n : Int) (hn : (Lit.int .i64 n).wf = true) (w : World) : Calls Try.prog 18 #[.int .i64 n] w fun e w' => (∃ c : Nat, e = .returned (.int .i64 c) ∧ IsC n c) ∧ w' = w := by
  have ⟨n0, n1⟩ := bounds_i64 hn
  by_cases h1 : n < 1
  · go_enter Try.func18, Try.ntmps18
    go_wp2
    go_ret
    exact ⟨⟨0, rfl, .inl ⟨h1, rfl⟩⟩, rfl⟩
  · go_enter Try.func18, Try.ntmps18
    go_wp2
    go_loopw [3, 4, 5] (fun lv hv _ wr => ∃ (l h : Nat), lv = .int .i64 l ∧ hv = .int .i64 h ∧ Hid (InC n l h) ∧ l ≤ h ∧ h ≤ 32767 ∧ wr = w) (fun lv hv _ _ => (intOf hv).toNat - (intOf lv).toNat)
    case atStart => exact ⟨16384, 32767, rfl, rfl, inC_start (by omega), by omega, by omega, rfl⟩
    case round =>
      obtain ⟨l, h, rfl, rfl, hi, hlh, hh, rfl⟩ := hrel
      by_cases hlt : l < h
      · obtain ⟨m, hm⟩ : ∃ m, m = (l + h + 1) / 2 := ⟨_, rfl⟩
        have HM : Hid (m = (l + h + 1) / 2) := hm
        have hmi : ((l : Int) + (h : Int) + 1) / 2 = (m : Int) := by omega
        have hm2 : m < 65536 := by omega
        have hle := scN_le m
        have hc := refscaled_calls m hm2 wr
        have HS : Hid (scN m = scN m) := rfl
        obtain ⟨s, hs⟩ : ∃ s, s = scN m := ⟨_, rfl⟩
        rw [← hs] at hle hc
        have HS2 : Hid (s = scN m) := hs
        have hsi : (s : Int) ≤ 2196875771904 := by omega
        clear HS hle hs hm
        by_cases hcap : n ≤ 1099511627776
        · by_cases ht : (s : Int) ≤ 512 * n
          · have hm1 : 1 ≤ m := by have := HM.out; omega
            go_wp2_with fail
            refine hc.mono ?_
            rintro e w2 ⟨rfl, rfl⟩
            go_wp2
            go_roundw
            case rel => exact ⟨m, h, rfl, rfl, inC_up hi.out HM.out hlt (by rw [← HS2.out]; omega), by have := HM.out; omega, hh, trivial⟩
            case measure => have := HM.out; simp [intOf]; omega
          · have hm1 : 1 ≤ m := by have := HM.out; omega
            go_wp2_with fail
            refine hc.mono ?_
            rintro e w2 ⟨rfl, rfl⟩
            go_wp2
            go_roundw
            case rel => exact ⟨l, m - 1, rfl, by go_num, inC_down hi.out HM.out hlt (by rw [← HS2.out]; omega), by have := HM.out; omega, by have := HM.out; omega, trivial⟩
            case measure => have := HM.out; simp [intOf]; omega
        · go_wp2_with fail
          refine hc.mono ?_
          rintro e w2 ⟨rfl, rfl⟩
          go_wp2
          go_roundw
          case rel => exact ⟨m, h, rfl, rfl, inC_up hi.out HM.out hlt (by rw [← HS2.out]; omega), by have := HM.out; omega, hh, trivial⟩
          case measure => have := HM.out; simp [intOf]; omega
      · obtain rfl : l = h := by omega
        go_wp2
        go_ret
        exact ⟨⟨l, rfl, inC_end (by omega) hi.out⟩, rfl⟩
end Go.Proofs.Ytlljgmmohikhlaa
