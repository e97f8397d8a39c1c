/- Proved here: the document's own checks (the given Eight, Ten, Long, Syndrome and Bit) are those of package sums. Conditions: as each theorem states them. -/
import Derived.Test.YtpifmljbaogcbaaDoorRest
namespace Go.Proofs.YtpifmljbaogcbaaDoor
open Go.RowKit

set_option maxHeartbeats 1000000 in
theorem refeight_calls (a1 : Option Addr) (len cap1 : Nat) (xs : List UInt8) (w : World) {n : Nat} (h1 : IsB n w a1 len xs) (hn : n ≤ w.heap.size) (hl : len ≤ 300) :
    Calls Tryd.prog 33 #[.slice a1 len cap1] w fun e w' => e = .returned (.int .u8 (eightN xs : Nat)) ∧ Below w.heap.size w w' := by
  have hlt := feedN_lt 7 8 0 (bitsOf xs) (by decide) (by decide)
  have hx : bits .xor .u8 ((feedN 7 8 0 (bitsOf xs) : Nat) : Int) 85 = ((eightN xs : Nat) : Int) := u8_xor_nat _ 85 hlt (by decide)
  go_enter Tryd.func33, Tryd.ntmps33
  go_wp2_with fail
  refine (refbits_calls _ _ _ _ _ h1 hn hl).mono ?_
  rintro e w1 ⟨a2, c2, rfl, o2, b2⟩
  go_wp2_with fail
  refine (rest_plain _ _ _ _ _ o2.isR.1 (Nat.le_refl _) o2.isR.2.1 (by omega) 7 8 (by decide) (by decide) (by decide)).mono ?_
  rintro e w3 ⟨rfl, b3⟩
  go_wp2
  go_ret
  exact ⟨rfl, b2.trans (b3.mono b2.size)⟩

set_option maxHeartbeats 1000000 in
theorem refsyn_calls (a : Option Addr) (len cap : Nat) (zs : List UInt8) (hcap : len ≤ cap) (hl : len ≤ 300) (w : World) {n : Nat} (hI : IsB n w a len zs) (hn : n ≤ w.heap.size) :
    Calls Tryd.prog 26 #[.slice a len cap] w fun e W' => e = .returned (.int .u8 (synN zs : Nat)) ∧ Below w.heap.size w W' := by
  have hlen := hI.1
  rcases List.eq_nil_or_concat zs with rfl | ⟨ys, x, rfl⟩
  · simp at hlen; subst hlen
    go_enter Tryd.func26, Tryd.ntmps26
    go_wp2
    go_ret
    exact ⟨rfl, Below.refl _ _⟩
  · have hT := hI.take ys.length (by simp)
    obtain ⟨b, off, rfl, hb, hc⟩ := hI.cell (k := ys.length) (x := x) (by simp)
    have hcx := hc ys.length x (by simp)
    rw [List.concat_eq_append]
    simp at hlen hT
    subst hlen
    have hx : bits .xor .u8 (x.toNat : Int) ((eightN ys : Nat) : Int) = ((synN (ys ++ [x]) : Nat) : Int) := by
      rw [u8_xor_nat _ _ x.toNat_lt (eightN_lt _)]; simp [synN]
    obtain ⟨m, hm⟩ : ∃ m, x.toNat = m := ⟨_, rfl⟩
    rw [hm] at hx hcx
    clear hc hI hm
    have k1 : (ys.length : Int) < (ys.length : Int) + 1 := by omega
    have k3 : ys.length ≤ cap := by omega
    have e1 : IntKind.i64.wrap ((ys.length : Int) + 1 - 1) = (ys.length : Int) := by rw [IntKind.wrap_i64]; omega
    have e2 : IntKind.i64.wrap (ys.length : Int) = (ys.length : Int) := by rw [IntKind.wrap_i64]; omega
    go_enter Tryd.func26, Tryd.ntmps26
    go_wp2
    go_region_with (go_at_call 33; refine (refeight_calls _ _ _ ys _ hT.drew hn (by omega)).mono ?_; rintro e w' ⟨rfl, hbl⟩; have hcx' := (hbl.cell (p := ⟨b, off + ys.length, none⟩) (Nat.lt_of_lt_of_le hb hn)).trans hcx)
    all_goals (go_wp2; go_ret; exact ⟨rfl, ((Below.refl _ w).drew).trans hbl⟩)

theorem flip_right : ∀ n, n < 40 → flipN [0, 0, 0, 0, 85] n = dam n := by decide +kernel

/-- What the given Bit answers. -/
def bitI (s : Nat) : Int := match bitN s with
  | some n => n
  | none => -1

set_option maxHeartbeats 1000000 in
theorem refbit_calls (s : Nat) (w : World) :
    Calls Tryd.prog 52 #[.int .u8 s] w fun e W' => e = .returned (.int .i64 (bitI s)) ∧ Below w.heap.size w W' := by
  have I0 := isB_new w [0, 0, 0, 0, 85] 5 (0, 0)
  have b0 : Below w.heap.size w (w.alloc (.cells #[.int .u8 0, .int .u8 0, .int .u8 0, .int .u8 0, .int .u8 85] 5)) := (Below.refl _ w).alloc (Nat.le_refl _) _
  have s0 : (w.alloc (.cells #[.int .u8 0, .int .u8 0, .int .u8 0, .int .u8 0, .int .u8 85] 5)).heap.size = w.heap.size + 1 := by simp
  go_enter Tryd.func52, Tryd.ntmps52
  go_wp2
  obtain ⟨W0, hW0⟩ : ∃ W0, w.alloc (.cells #[.int .u8 0, .int .u8 0, .int .u8 0, .int .u8 0, .int .u8 85] 5) = W0 := ⟨_, rfl⟩
  have I1 : IsB (w.heap.size + 1) W0 (some ⟨w.heap.size, 0, none⟩) 5 [0, 0, 0, 0, 85] := by rw [← hW0]; exact I0
  rw [hW0] at b0 s0 ⊢
  clear hW0 I0
  go_loopw [4] (fun i wr => ∃ k : Nat, k ≤ 40 ∧ i = .int .i64 k ∧ (∀ j, j < k → synN (dam j) ≠ s) ∧ Below (w.heap.size + 1) W0 wr) (fun i _ => 40 - (intOf i).toNat)
  case atStart => exact ⟨0, by omega, rfl, fun j hj => by omega, Below.refl _ _⟩
  case round =>
    obtain ⟨k, hk, rfl, hno, hB⟩ := hrel
    by_cases hlt : k < 40
    · have HN : Hid (∀ j, j < k → synN (dam j) ≠ s) := hno
      clear hno
      have hz := hB.size
      go_wp2_with fail
      refine (flip_calls _ _ _ _ _ (I1.below hB (Nat.le_refl _)) (by omega) (by intro h; cases h) (by decide) k (by omega)).mono ?_
      rintro e w1 ⟨a1, c1, rfl, o1, b1⟩
      rw [flip_right k hlt] at o1
      go_wp2_with fail
      refine (refsyn_calls _ _ _ _ o1.isB.2.2 (by decide) _ o1.isB.1 (Nat.le_refl _)).mono ?_
      rintro e w2 ⟨rfl, b2⟩
      have hb2 : Below (w.heap.size + 1) W0 w2 := hB.trans ((b1.trans (b2.mono b1.size)).mono (by omega))
      by_cases heq : synN (dam k) = s
      · have hbn := bitN_some hlt HN.out heq
        have h1 : (((synN (dam k) : Nat) : Int) == (s : Int)) = true := by simp [heq]
        have HB : Hid (bitI s = k) := by show bitI s = k; unfold bitI; rw [hbn]
        clear hbn heq
        go_wp2
        go_ret
        exact ⟨by rw [HB.out]; rfl, b0.trans (hb2.mono (by omega))⟩
      · have h1 : (((synN (dam k) : Nat) : Int) == (s : Int)) = false := beq_eq_false_iff_ne.2 (by omega)
        have HQ : Hid (synN (dam k) ≠ s) := heq
        clear heq
        go_wp2
        go_roundw
        case rel => exact ⟨k + 1, by omega, by go_num, fun j hj => by
          rcases Nat.lt_or_ge j k with h | h
          · exact HN.out j h
          · obtain rfl : j = k := by omega
            exact HQ.out, hb2⟩
        case measure => simp [intOf]; omega
    · obtain rfl : k = 40 := by omega
      have hbn := bitN_none hno
      have HB : Hid (bitI s = -1) := by show bitI s = -1; unfold bitI; rw [hbn]
      clear hno hbn
      go_wp2
      go_ret
      exact ⟨by rw [HB.out]; rfl, b0.trans (hB.mono (by omega))⟩
end Go.Proofs.YtpifmljbaogcbaaDoor
