/- Proved here: what element.ReadCause, and the document's, answer. Conditions: as each theorem states them. -/
import Derived.Test.YtbjeljmnknibnaaDoorSw
import Derived.Test.YtbjeljmnknibnaaDoorBy
namespace Go.Proofs.YtbjeljmnknibnaaDoor
set_option linter.unusedSimpArgs false
set_option linter.unusedVariables false
open Go.RowKit Go.Shelf

/-- The cause that one tells; the error. -/
def rcN (x : El) : Int × Int := if x.id ≠ 8 then (0, 12) else match x.body with
  | [a, b] => if a = 0 ∧ b.toNat ≤ 127 then ((b.toNat : Int), 0) else (0, 5)
  | _ => (0, 5)
theorem rc_kind {x : El} (h : x.id ≠ 8) : rcN x = (0, 12) := by unfold rcN; rw [if_pos h]
theorem rc_form {x : El} (h : x.id = 8) (hl : x.body.length ≠ 2) : rcN x = (0, 5) := by
  unfold rcN
  rw [if_neg (by simpa using h)]
  split
  · rename_i a b hb
    rw [hb] at hl
    exact absurd rfl hl
  · rfl
theorem rc_two {x : El} {a b : UInt8} (h : x.id = 8) (hb : x.body = [a, b]) : rcN x = if a = 0 ∧ b.toNat ≤ 127 then ((b.toNat : Int), 0) else (0, 5) := by
  unfold rcN
  rw [if_neg (by simpa using h), hb]
theorem two_of {xs : List UInt8} (h : xs.length = 2) : ∃ a b, xs = [a, b] := by
  match xs, h with
  | [a, b], _ => exact ⟨a, b, rfl⟩
theorem ie_box {w : World} {x : El} {a : Option Addr} {l c : Nat} : BK (w.alloc (.cells #[.int .u8 (x.id.toNat : Int), .slice a l c] 60)) w.heap.size #[.int .u8 (x.id.toNat : Int), .slice a l c] 60 := bk_new w _ _

set_option maxHeartbeats 2000000 in
theorem rc_calls (x : El) (a : Option Addr) (l c : Nat) (w : World) {n : Nat} (hI : IsB n w a l x.body) (hn : n ≤ w.heap.size) : Calls Tryd.prog 45 #[ieV x.id a l c] w fun e w' => e = .returned (.tuple #[.int .i64 (rcN x).1, .int .i64 (rcN x).2]) ∧ Below w.heap.size w w' := by
  have A0 : Below w.heap.size w (w.alloc (.cells #[.int .u8 (x.id.toNat : Int), .slice a l c] 60)) := (Below.refl _ w).alloc (Nat.le_refl _) _
  have K0 := ie_box (w := w) (x := x) (a := a) (l := l) (c := c)
  have HW := wrong_calls x a l c hI.1 8 2 (w.alloc (.cells #[.int .u8 (x.id.toNat : Int), .slice a l c] 60))
  by_cases h1 : x.id = 8
  · by_cases h2 : x.body.length = 2
    · have hw : wrongN x 8 2 = 0 := by unfold wrongN; rw [if_neg (by simpa using h1), if_neg (by simpa using h2)]
      rw [hw] at HW
      obtain ⟨u, v, huv⟩ := two_of h2
      have hr := rc_two h1 huv
      have hl2 : l = 2 := hI.1.trans h2
      subst hl2
      have hI2 := hI
      rw [huv] at hI2
      have hnum := numN_two u v
      have hu8 := u.toNat_lt
      have hv8 := v.toNat_lt
      have HN := fun w1 (hb : Below w.heap.size w w1) => number_calls a 2 c [u, v] w1 (hI2.below hb hn) (Nat.le_trans hn hb.size) (by decide)
      generalize numN [u, v] = N at HN hnum
      clear hw huv h2 hI hI2
      by_cases hok : u = 0 ∧ v.toNat ≤ 127
      · rw [if_pos hok] at hr
        have hN : N = v.toNat := by rw [hnum, hok.1]; simp
        have q1 : decide (127 < (N : Int)) = false := by simp; omega
        have HR : Hid (rcN x = ((N : Int), 0)) := by show _ = _; rw [hr, hN]
        clear hr hok hN hnum hu8 hv8 h1
        go_enter Tryd.func45, Tryd.ntmps45
        go_wp2_with fail
        refine HW.mono ?_
        rintro e w1 ⟨rfl, b1⟩
        have B1 := A0.trans (b1.mono A0.size)
        have K1 := K0.below b1 K0.lt
        have d1 := K1.cell 1 _ rfl
        have kl := K1.lt
        have HN1 := HN w1 B1
        clear HW HN A0 K0 b1
        go_wp2_with fail
        refine HN1.mono ?_
        rintro e w2 ⟨rfl, b2⟩
        have B2 := B1.trans (b2.mono B1.size)
        clear HN1 B1 b2 K1 d1
        go_wp2
        go_ret2
        exact ⟨by rw [HR.out]; rfl, B2⟩
      · rw [if_neg hok] at hr
        have hu : 127 < N := by
          rcases Nat.lt_or_ge 127 N with h | h
          · exact h
          · exfalso
            apply hok
            refine ⟨UInt8.toNat_inj.1 (by show u.toNat = 0; omega), by omega⟩
        have q1 : decide (127 < (N : Int)) = true := by simp; omega
        have HR : Hid (rcN x = (0, 5)) := hr
        clear hr hok hnum hu8 hv8 h1 hu
        go_enter Tryd.func45, Tryd.ntmps45
        go_wp2_with fail
        refine HW.mono ?_
        rintro e w1 ⟨rfl, b1⟩
        have B1 := A0.trans (b1.mono A0.size)
        have K1 := K0.below b1 K0.lt
        have d1 := K1.cell 1 _ rfl
        have kl := K1.lt
        have HN1 := HN w1 B1
        clear HW HN A0 K0 b1
        go_wp2_with fail
        refine HN1.mono ?_
        rintro e w2 ⟨rfl, b2⟩
        have B2 := B1.trans (b2.mono B1.size)
        clear HN1 B1 b2 K1 d1
        go_wp2
        go_ret2
        exact ⟨by rw [HR.out]; rfl, B2⟩
    · have hw : wrongN x 8 2 = 5 := by unfold wrongN; rw [if_neg (by simpa using h1), if_pos h2]
      rw [hw] at HW
      have HR : Hid (rcN x = (0, 5)) := rc_form h1 h2
      clear hw h1 h2 hI
      go_enter Tryd.func45, Tryd.ntmps45
      go_wp2_with fail
      refine HW.mono ?_
      rintro e w1 ⟨rfl, b1⟩
      have B1 := A0.trans (b1.mono A0.size)
      clear HW A0 K0 b1
      go_wp2
      go_ret2
      exact ⟨by rw [HR.out]; rfl, B1⟩
  · have hw : wrongN x 8 2 = 12 := by unfold wrongN; rw [if_pos h1]
    rw [hw] at HW
    have HR : Hid (rcN x = (0, 12)) := rc_kind h1
    clear hw h1 hI
    go_enter Tryd.func45, Tryd.ntmps45
    go_wp2_with fail
    refine HW.mono ?_
    rintro e w1 ⟨rfl, b1⟩
    have B1 := A0.trans (b1.mono A0.size)
    clear HW A0 K0 b1
    go_wp2
    go_ret2
    exact ⟨by rw [HR.out]; rfl, B1⟩

theorem id_bne {i j : UInt8} (h : i = j) : ((i.toNat : Int) != (j.toNat : Int)) = false := by rw [h]; simp
theorem id_bne' {i j : UInt8} (h : i ≠ j) : ((i.toNat : Int) != (j.toNat : Int)) = true := by
  rw [bne_iff_ne]
  intro e
  exact h (UInt8.toNat_inj.1 (by omega))

set_option maxHeartbeats 2000000 in
theorem refrc_calls (x : El) (a : Option Addr) (l c : Nat) (w : World) {n : Nat} (hI : IsB n w a l x.body) (hn : n ≤ w.heap.size) : Calls Tryd.prog 46 #[ieV x.id a l c] w fun e w' => e = .returned (.tuple #[.int .i64 (rcN x).1, .int .i64 (rcN x).2]) ∧ Below w.heap.size w w' := by
  have A0 : Below w.heap.size w (w.alloc (.cells #[.int .u8 (x.id.toNat : Int), .slice a l c] 60)) := (Below.refl _ w).alloc (Nat.le_refl _) _
  by_cases h1 : x.id = 8
  · have q1 : ((x.id.toNat : Int) != 8) = false := id_bne h1
    by_cases h2 : x.body.length = 2
    · obtain ⟨u, v, huv⟩ := two_of h2
      have hr := rc_two h1 huv
      have hl2 : l = 2 := hI.1.trans h2
      subst hl2
      have hI2 := hI
      rw [huv] at hI2
      obtain ⟨b, off, rfl, hb, hc⟩ := hI2.cell (k := 0) (x := u) rfl
      have d0 := (A0.cell (p := ⟨b, off + 0, none⟩) (by show b < _; omega)).trans (hc 0 u rfl)
      have d1 := (A0.cell (p := ⟨b, off + 1, none⟩) (by show b < _; omega)).trans (hc 1 v rfl)
      rw [Nat.add_zero] at d0
      clear huv h2 hI hI2 hc
      by_cases hu : u = 0
      · have q2 : ((u.toNat : Int) != 0) = false := by rw [hu]; rfl
        by_cases hv : v.toNat ≤ 127
        · rw [if_pos ⟨hu, hv⟩] at hr
          have q3 : decide (127 < (v.toNat : Int)) = false := by simp; omega
          have HR : Hid (rcN x = ((v.toNat : Int), 0)) := hr
          clear hr hu h1
          generalize v.toNat = m at *
          go_enter Tryd.func46, Tryd.ntmps46
          go_wp2
          go_ret2
          exact ⟨by rw [HR.out]; rfl, A0⟩
        · rw [if_neg (fun h => hv h.2)] at hr
          have q3 : decide (127 < (v.toNat : Int)) = true := by simp; omega
          have HR : Hid (rcN x = (0, 5)) := hr
          clear hr hu hv h1
          go_enter Tryd.func46, Tryd.ntmps46
          go_wp2
          go_ret2
          exact ⟨by rw [HR.out]; rfl, A0⟩
      · have q2 : ((u.toNat : Int) != 0) = true := id_bne' (j := 0) hu
        rw [if_neg (fun h => hu h.1)] at hr
        have HR : Hid (rcN x = (0, 5)) := hr
        clear hr hu h1
        go_enter Tryd.func46, Tryd.ntmps46
        go_wp2
        go_ret2
        exact ⟨by rw [HR.out]; rfl, A0⟩
    · have q2 : ((l : Int) != 2) = true := by rw [bne_iff_ne]; have := hI.1; omega
      have HR : Hid (rcN x = (0, 5)) := rc_form h1 h2
      clear h1 h2 hI
      go_enter Tryd.func46, Tryd.ntmps46
      go_wp2
      go_ret2
      exact ⟨by rw [HR.out]; rfl, A0⟩
  · have q1 : ((x.id.toNat : Int) != 8) = true := id_bne' (j := 8) h1
    have HR : Hid (rcN x = (0, 12)) := rc_kind h1
    clear h1 hI
    go_enter Tryd.func46, Tryd.ntmps46
    go_wp2
    go_ret2
    exact ⟨by rw [HR.out]; rfl, A0⟩
end Go.Proofs.YtbjeljmnknibnaaDoor
