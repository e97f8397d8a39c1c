/- Proved here: the walk of LedgerFits. Conditions: as each theorem states them. -/
import Derived.Test.YtpljpndegadckaaAw
namespace Go.Proofs.Ytpljpndegadckaa
set_option linter.unusedSimpArgs false
set_option linter.unusedVariables false
open Go.RowKit Go.Shelf

theorem fit_more {L : List En} {room k : Int} (ho : Ok L room) (hb : getB L k = false) : bookE L room k (room - sumL L + 1) = 9 ∧ bookL L room k (room - sumL L + 1) = L := by
  have h1 := ho.sum
  have e : bookE L room k (room - sumL L + 1) = 9 := by unfold bookE; rw [if_neg (by omega), if_neg (by rw [hb]; decide), if_pos (by omega)]
  exact ⟨e, by unfold bookL; rw [e, if_neg (by decide)]⟩
theorem fit_all {L : List En} {room k : Int} (ho : Ok L room) (hb : getB L k = false) : bookE L room k (room - sumL L) = 0 ∧ bookL L room k (room - sumL L) = put L k (room - sumL L) := by
  have h1 := ho.sum
  have e : bookE L room k (room - sumL L) = 0 := by unfold bookE; rw [if_neg (by omega), if_neg (by rw [hb]; decide), if_neg (by omega)]
  exact ⟨e, by unfold bookL; rw [e, if_pos rfl]⟩
/-- What a need gets, of a number that isn't booked. -/
theorem fit_any {L : List En} {room k x lf : Int} (hb : getB L k = false) (hl : lf = room - sumL L) : (x < 0 ∧ bookE L room k x = 1) ∨ (0 ≤ x ∧ x ≤ lf ∧ bookE L room k x = 0) ∨ (0 ≤ x ∧ lf < x ∧ bookE L room k x = 9) := by
  subst hl
  unfold bookE
  by_cases h0 : x < 0
  · exact .inl ⟨h0, if_pos h0⟩
  · by_cases h1 : x > room - sumL L
    · exact .inr (.inr ⟨by omega, h1, by rw [if_neg h0, if_neg (by rw [hb]; decide), if_pos h1]⟩)
    · exact .inr (.inl ⟨by omega, by omega, by rw [if_neg h0, if_neg (by rw [hb]; decide), if_neg h1]⟩)

set_option maxHeartbeats 8000000 in
set_option maxRecDepth 20000 in
theorem ledgerfits_walk (r0 : Int) (s : Option Addr) (len cap : Nat) (M : List Op3) (k x : Int) (hk : okI k) (hx : okI x) (w : World) (hL : IsO w.heap.size w s len M) (hwf : ∀ x ∈ M, okI x.1 ∧ okI x.2.1 ∧ okI x.2.2) :
    Calls Try.prog 6 #[.int .i64 r0, .slice s len cap, .int .i64 k, .int .i64 x] w fun e w' => e = .returned (.bool true) ∧ Below w.heap.size w w' := by
  by_cases hl1 : 100 < len
  · have q1 : decide (100 < (len : Int)) = true := by simp; omega
    clear hL
    go_enter Try.func6, Try.ntmps6
    go_wp2_with fail
    refine (awake_calls _).mono ?_
    rintro e w1 ⟨rfl, b1⟩
    go_wp2_with fail
    refine (awake_calls _).mono ?_
    rintro e w2 ⟨rfl, b2⟩
    go_wp2
    go_ret
    exact ⟨rfl, b1.trans (b2.mono b1.size)⟩
  · have q1 : decide (100 < (len : Int)) = false := by simp; omega
    have hl100 : len ≤ 100 := by omega
    go_enter Try.func6, Try.ntmps6
    go_wp2_with fail
    refine (awake_calls _).mono ?_
    rintro x w1 ⟨rfl, b1⟩
    go_wp2_with fail
    refine (new_calls r0 _).mono ?_
    rintro x w2 ⟨rfl, X2, b2⟩
    have B2 : Below w.heap.size w w2 := b1.trans (b2.mono b1.size)
    have hb : w.heap.size ≤ w1.heap.size + 1 := by have := b1.size; omega
    have hmb : w.heap.size ≤ w1.heap.size := b1.size
    clear b1 b2 hl1 q1
    generalize w1.heap.size + 1 = b at *
    generalize w1.heap.size = mb at *
    generalize roomN r0 = room at *
    clear w1
    go_wp2
    go_loopw [25] (fun iv wr => ∃ (i : Nat) (L : List En), i ≤ len ∧ iv = .int .i64 i ∧ XV wr b mb L room i ∧ Below w.heap.size w wr) (fun iv _ => len - (intOf iv).toNat)
    case atStart => exact ⟨0, [], Nat.zero_le _, rfl, X2, B2⟩
    case round =>
      obtain ⟨i, L, hi, rfl, X4, B4⟩ := hrel
      clear X2 B2
      by_cases hlt : i < len
      · obtain ⟨g, off, x, rfl, hg, hx, hc⟩ := hL.at hlt
        have hxw := hwf x (List.mem_of_getElem? hx)
        obtain ⟨c0, c1, c2⟩ := hc _ B4
        clear hx
        go_wp2_with fail
        refine (do_calls X4 (by omega) x hxw).mono ?_
        rintro e w5 ⟨rfl, X5, q5⟩
        have B5 := B4.trans (q5.below B4.size hb hmb)
        clear X4 B4 q5 hc c0 c1 c2
        go_wp2
        go_roundw
        case rel => exact ⟨i + 1, _, by omega, by go_num, X5, B5⟩
        case measure => simp [intOf]; omega
      · obtain rfl : i = len := by omega
        clear hL hwf hlt
        go_wp2_with fail
        refine (free_calls X4 hk).mono ?_
        rintro e w5 ⟨rfl, X5, q5⟩
        have B5 := B4.trans (q5.below B4.size hb hmb)
        have g5 := getB_del L k
        clear X4 B4 q5
        generalize getN L k = gn at *
        generalize getB L k = gb at *
        generalize del L k = L5 at *
        go_wp2_with fail
        refine (left_calls X5).mono ?_
        rintro e w6 ⟨rfl, b6⟩
        have X6 := X5.below b6 (Nat.le_refl _)
        have B6 := B5.trans (b6.mono B5.size)
        obtain ⟨m1, m2⟩ := fit_more X6.ok g5
        obtain ⟨a1, a2⟩ := fit_all X6.ok g5
        have hsum := X6.ok.sum
        have hnn := X6.ok.nn
        have hr := X6.ok.room
        obtain ⟨lf, hlf⟩ : ∃ lf, room - sumL L5 = lf := ⟨_, rfl⟩
        have hlf0 : 0 ≤ lf ∧ lf ≤ 1152921504606846976 := by omega
        have HLF : Hid (lf = room - sumL L5) := hlf.symm
        rw [hlf] at m1 m2 a1 a2 ⊢
        have hw : IntKind.i64.wrap (lf + 1) = lf + 1 := by rw [IntKind.wrap_i64]; omega
        clear X5 b6 B5 hsum hnn hr hlf
        go_wp2_with fail
        refine (book_to X6 (by omega) hk (okl (by omega)) m1 m2).mono ?_
        rintro e w7 ⟨rfl, X7, q7⟩
        have B7 := B6.trans (q7.below B6.size hb hmb)
        clear X6 B6 q7
        go_wp2_with fail
        refine (book_to X7 (by omega) hk (okl (by omega)) a1 a2).mono ?_
        rintro e w8 ⟨rfl, X8, q8⟩
        have B8 := B7.trans (q8.below B7.size hb hmb)
        have e8 : room - sumL (put L5 k lf) = 0 := by rw [sum_put X7.ok.srt, getN_none g5]; have := HLF.out; omega
        have d8 : del (put L5 k lf) k = L5 := del_put lf g5 X7.ok.srt
        clear X7 B7 q8
        go_wp2_with fail
        refine (left_to X8 e8).mono ?_
        rintro e w9 ⟨rfl, b9⟩
        have X9 := X8.below b9 (Nat.le_refl _)
        have B9 := B8.trans (b9.mono B8.size)
        have f9 := free_calls X9 hk
        rw [d8] at f9
        clear X8 b9 B8 e8 d8
        go_wp2_with fail
        refine f9.mono ?_
        rintro e w10 ⟨rfl, X10, q10⟩
        have B10 := B9.trans (q10.below B9.size hb hmb)
        clear X9 f9 B9 q10 m1 m2 a1 a2
        go_wp2_with fail
        refine (book_calls X10 (by omega) hk hx).mono ?_
        rintro e w11 ⟨rfl, X11, q11⟩
        have B11 := B10.trans (q11.below B10.size hb hmb)
        clear X10 X11 B10 q11
        rcases fit_any (x := x) g5 HLF.out with ⟨h1, h2⟩ | ⟨h1, h2, h3⟩ | ⟨h1, h2, h3⟩
        · have t1 : decide (0 ≤ x) = false := decide_eq_false (by omega)
          rw [h2]
          clear h1 h2 hlf0 hw
          go_wp2
          go_ret
          exact ⟨rfl, B11⟩
        · have t1 : decide (0 ≤ x) = true := decide_eq_true h1
          have t2 : decide (x ≤ lf) = true := decide_eq_true h2
          rw [h3]
          clear h1 h2 h3 hlf0 hw
          go_wp2
          go_ret
          exact ⟨rfl, B11⟩
        · have t1 : decide (0 ≤ x) = true := decide_eq_true h1
          have t2 : decide (x ≤ lf) = false := decide_eq_false (by omega)
          rw [h3]
          clear h1 h2 h3 hlf0 hw
          go_wp2
          go_ret
          exact ⟨rfl, B11⟩
end Go.Proofs.Ytpljpndegadckaa
