/- Proved here: what conns.find answers. Conditions: as each theorem states them. -/
import Derived.Test.YtgimmaancnlbcaaBf
namespace Go.Proofs.Ytgimmaancnlbcaa
set_option linter.unusedSimpArgs false
set_option linter.unusedVariables false
open Go.RowKit Go.Shelf

/-- Where a key lies, so far as the search has gone. -/
def Sofar (L : List En) (k : Ky) (i : Nat) : Prop := fnd L k = (i + (fnd (L.drop i) k).1, (fnd (L.drop i) k).2)
theorem sofar_zero (L : List En) (k : Ky) : Sofar L k 0 := by unfold Sofar; simp
theorem sofar_step {L : List En} {k : Ky} {i : Nat} {x : En} (h : Sofar L k i) (hx : L[i]? = some x) (h1 : x.1 ≠ k) (h2 : ¬ bef k x.1) : Sofar L k (i + 1) := by
  unfold Sofar at *; rw [h, fnd_step hx h1 h2]; simp; omega
theorem sofar_here {L : List En} {k : Ky} {i : Nat} {x : En} (h : Sofar L k i) (hx : L[i]? = some x) (h1 : x.1 = k) : fnd L k = (i, true) := by
  unfold Sofar at h; rw [h, fnd_here hx h1]; rfl
theorem sofar_past {L : List En} {k : Ky} {i : Nat} {x : En} (h : Sofar L k i) (hx : L[i]? = some x) (h1 : x.1 ≠ k) (h2 : bef k x.1) : fnd L k = (i, false) := by
  unfold Sofar at h; rw [h, fnd_past hx h1 h2]; rfl
theorem sofar_end {L : List En} {k : Ky} (h : Sofar L k L.length) : fnd L k = (L.length, false) := by
  unfold Sofar at h; rw [h]; simp [fnd]
theorem ret_fnd {i j : Nat} {a b : Bool} (h : (i, a) = (j, b)) : Ending.returned (.tuple #[.int .i64 (j : Int), .bool b]) = .returned (.tuple #[.int .i64 (i : Int), .bool a]) := by
  cases h; rfl
theorem TB.slot' {w : World} {b : Nat} {L : List En} {room : Nat} (h : TB w b L room) {j : Nat} {x : En} (hx : L[j]? = some x) :
    w.cell? ⟨b, j * 4, none⟩ = some (.int .i64 x.1.1) ∧ w.cell? ⟨b, j * 4 + 1, none⟩ = some (.int .i64 x.1.2.1) ∧ w.cell? ⟨b, j * 4 + 1 + 1, none⟩ = some (.int .i64 x.1.2.2) ∧ w.cell? ⟨b, j * 4 + 1 + 1 + 1, none⟩ = some (.int .i64 x.2) := h.slot hx

set_option maxHeartbeats 1000000 in
theorem find_nil (k : Ky) (w : World) : Calls Try.prog 27 #[.pointer none, keyV k] w fun e w' => e = .returned (.tuple #[.int .i64 0, .bool false]) ∧ Below w.heap.size w w' := by
  go_enter Try.func27, Try.ntmps27
  go_wp2
  go_step3
  go_wp2
  rw [Exit.noGoto_ret]
  go_returns
  exact ⟨rfl, below_box _ _⟩

set_option maxHeartbeats 2000000 in
theorem find_calls {w : World} {b : Nat} {L : List En} {room : Nat} (h : TB w b L room) (k : Ky) :
    Calls Try.prog 27 #[.pointer (some ⟨b, 0, none⟩), keyV k] w fun e w' => e = .returned (.tuple #[.int .i64 ((fnd L k).1 : Int), .bool (fnd L k).2]) ∧ Below w.heap.size w w' := by
  have hlen := h.len
  have hlt := h.lt
  have K0 := bk_new w #[.int .i64 k.1, .int .i64 k.2.1, .int .i64 k.2.2] 24
  have B0 := below_box w (.cells #[.int .i64 k.1, .int .i64 k.2.1, .int .i64 k.2.2] 24)
  have T0 := h.below B0 hlt
  go_enter Try.func27, Try.ntmps27
  go_wp2
  go_step3
  go_wp2
  go_step3
  generalize w.alloc (.cells #[.int .i64 k.1, .int .i64 k.2.1, .int .i64 k.2.2] 24) = w1 at *
  have hb1 : w.heap.size < w1.heap.size := K0.lt
  have HT : Hid (TB w1 b L room) := T0
  clear h T0
  go_wp2
  go_loopw [6, 7] (fun iv tv wr => ∃ (i : Nat), i ≤ L.length ∧ iv = .int .i64 i ∧ tv = .bool false ∧ Sofar L k i ∧ Below w1.heap.size w1 wr) (fun iv _ _ => L.length - (intOf iv).toNat)
  case atStart => exact ⟨0, Nat.zero_le _, rfl, rfl, sofar_zero L k, Below.refl _ _⟩
  case round =>
    obtain ⟨i, hi, rfl, rfl, hs, b2⟩ := hrel
    have HS : Hid (Sofar L k i) := hs
    have T1 := HT.out.below b2 (by have := HT.out.lt; exact this)
    obtain ⟨m1, m2⟩ := T1.many
    have K1 := K0.below b2 hb1
    have k0 := K1.cell 0 _ rfl
    have k1 := K1.cell 1 _ rfl
    have k2 := K1.cell 2 _ rfl
    have hbw : w.heap.size < wr.heap.size := K1.lt
    have hbb : b < wr.heap.size := T1.lt
    clear hs
    by_cases hlt : i < L.length
    · obtain ⟨x, hx⟩ : ∃ x, L[i]? = some x := ⟨L[i], by rw [List.getElem?_eq_getElem]⟩
      obtain ⟨s0, s1, s2, s3⟩ := T1.slot' hx
      have HX : Hid (L[i]? = some x) := hx
      have hq := eql_key x.1 k
      have BR := b2.alloc (Below.size b2) (.cells #[.int .i64 x.1.1, .int .i64 x.1.2.1, .int .i64 x.1.2.2] 24)
      clear hx T1 K1 m2
      by_cases he : x.1 = k
      · have HE : Hid (x.1 = k) := he
        rw [decide_eq_true he] at hq
        clear he
        go_wp2
        rw [Exit.noGoto_ret]
        go_returns
        exact ⟨ret_fnd (sofar_here HS.out HX.out HE.out), B0.trans (BR.mono B0.size)⟩
      · have HE : Hid (x.1 ≠ k) := he
        rw [decide_eq_false he] at hq
        clear he
        go_wp2_with fail
        refine (before_calls k x.1 _).mono ?_
        rintro e w2 ⟨rfl, b3⟩
        have BR2 := BR.trans (b3.mono BR.size)
        clear BR b3
        by_cases hb : bef k x.1
        · have HB : Hid (bef k x.1) := hb
          rw [decide_eq_true hb]
          clear hb
          go_wp2
          rw [Exit.noGoto_ret]
          go_returns
          exact ⟨ret_fnd (sofar_past HS.out HX.out HE.out HB.out), B0.trans (BR2.mono B0.size)⟩
        · have HB : Hid (¬ bef k x.1) := hb
          rw [decide_eq_false hb]
          clear hb
          go_wp2
          go_roundw
          case rel => exact ⟨i + 1, by omega, by go_num, rfl, sofar_step HS.out HX.out HE.out HB.out, BR2⟩
          case measure => simp [intOf]; omega
    · obtain rfl : i = L.length := by omega
      clear T1 K1
      go_wp2
      rw [Exit.noGoto_ret]
      go_returns
      exact ⟨ret_fnd (sofar_end HS.out), B0.trans (b2.mono B0.size)⟩
end Go.Proofs.Ytgimmaancnlbcaa
