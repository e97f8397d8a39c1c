/- Proved here: the walk of LedgerBack. Conditions: as each theorem states them. -/
import Derived.Test.YtpljpndegadckaaAw
import Derived.Test.YtpljpndegadckaaAl
import Derived.Test.YtpljpndegadckaaSm
namespace Go.Proofs.Ytpljpndegadckaa
set_option linter.unusedSimpArgs false
set_option linter.unusedVariables false
open Go.RowKit Go.Shelf

theorem getN_put (L : List En) (k n : Int) : getN (put L k n) k = n ∧ getB (put L k n) k = true := by
  unfold getN getB; rw [look_put, if_pos rfl]; exact ⟨rfl, rfl⟩
theorem back_lem {L : List En} {room k n m : Int} (hs : Srt L) (hb : getB L k = false) :
    getB (chgL (put L k n) room k m) k = true ∧ (getN (chgL (put L k n) room k m) k = n ∨ getN (chgL (put L k n) room k m) k = m) ∧ del (chgL (put L k n) room k m) k = L := by
  unfold chgL
  split
  · refine ⟨(getN_put _ k m).2, .inr (getN_put _ k m).1, ?_⟩
    rw [put_put hs]; exact del_put m hb hs
  · exact ⟨(getN_put _ k n).2, .inl (getN_put _ k n).1, del_put n hb hs⟩
theorem chg_back {L : List En} {room k m : Int} (ho : Ok L room) (hb : getB L k = true) (_ : chgE L room k m = 0) :
    chgE (put L k m) room k (getN L k) = 0 ∧ chgL (put L k m) room k (getN L k) = L ∧ True := by
  have h1 := ho.get k
  have h2 := ho.sum
  have e : chgE (put L k m) room k (getN L k) = 0 := by
    unfold chgE
    rw [(getN_put L k m).2, (getN_put L k m).1, sum_put ho.srt, if_neg (by omega), if_neg (by decide), if_neg (by omega)]
  refine ⟨e, ?_, trivial⟩
  unfold chgL
  rw [if_pos e, put_put ho.srt, put_same ho.srt hb]
theorem getN_ok {w : World} {b mb n : Nat} {L : List En} {room : Int} (h : XV w b mb L room n) (k : Int) : okI (getN L k) := by
  have h1 := h.ok.get k
  have h2 := h.ok.sum
  have h3 := h.ok.room
  exact okl (by omega)

set_option maxHeartbeats 8000000 in
set_option maxRecDepth 20000 in
theorem ledgerback_walk (r0 : Int) (s : Option Addr) (len cap : Nat) (M : List Op3) (k x m : Int) (hk : okI k) (hx : okI x) (hm : okI m) (w : World) (hL : IsO w.heap.size w s len M) (hwf : ∀ x ∈ M, okI x.1 ∧ okI x.2.1 ∧ okI x.2.2) :
    Calls Try.prog 5 #[.int .i64 r0, .slice s len cap, .int .i64 k, .int .i64 x, .int .i64 m] w fun e w' => e = .returned (.bool true) ∧ Below w.heap.size w w' := by
  by_cases hl1 : 100 < len
  · have q1 : decide (100 < (len : Int)) = true := by simp; omega
    clear hL
    go_enter Try.func5, Try.ntmps5
    go_wp2_with fail
    refine (awake_calls _).mono ?_
    rintro e w1 ⟨rfl, b1⟩
    go_wp2_with fail
    refine (awake_calls _).mono ?_
    rintro e w2 ⟨rfl, b2⟩
    go_wp2
    go_ret
    exact ⟨rfl, b1.trans (b2.mono b1.size)⟩
  · have q1 : decide (100 < (len : Int)) = false := by simp; omega
    have hl100 : len ≤ 100 := by omega
    go_enter Try.func5, Try.ntmps5
    go_wp2_with fail
    refine (awake_calls _).mono ?_
    rintro x w1 ⟨rfl, b1⟩
    go_wp2_with fail
    refine (new_calls r0 _).mono ?_
    rintro x w2 ⟨rfl, X2, b2⟩
    have B2 : Below w.heap.size w w2 := b1.trans (b2.mono b1.size)
    have hb : w.heap.size ≤ w1.heap.size + 1 := by have := b1.size; omega
    have hmb : w.heap.size ≤ w1.heap.size := b1.size
    clear b1 b2 hl1 q1
    generalize w1.heap.size + 1 = b at *
    generalize w1.heap.size = mb at *
    generalize roomN r0 = room at *
    clear w1
    go_wp2
    go_loopw [30] (fun iv wr => ∃ (i : Nat) (L : List En), i ≤ len ∧ iv = .int .i64 i ∧ XV wr b mb L room i ∧ Below w.heap.size w wr) (fun iv _ => len - (intOf iv).toNat)
    case atStart => exact ⟨0, [], Nat.zero_le _, rfl, X2, B2⟩
    case round =>
      obtain ⟨i, L, hi, rfl, X4, B4⟩ := hrel
      clear X2 B2
      by_cases hlt : i < len
      · obtain ⟨g, off, x, rfl, hg, hx, hc⟩ := hL.at hlt
        have hxw := hwf x (List.mem_of_getElem? hx)
        obtain ⟨c0, c1, c2⟩ := hc _ B4
        clear hx
        go_wp2_with fail
        refine (do_calls X4 (by omega) x hxw).mono ?_
        rintro e w5 ⟨rfl, X5, q5⟩
        have B5 := B4.trans (q5.below B4.size hb hmb)
        clear X4 B4 q5 hc c0 c1 c2
        go_wp2
        go_roundw
        case rel => exact ⟨i + 1, _, by omega, by go_num, X5, B5⟩
        case measure => simp [intOf]; omega
      · obtain rfl : i = len := by omega
        clear hL hwf hlt
        have l4 : L.length ≤ 1000 := by have := X4.len; omega
        go_wp2_with fail
        refine (lall_calls X4 (by omega) l4).mono ?_
        rintro e w5 ⟨a1, c1, rfl, F5, b5⟩
        have X5 := X4.below b5 (Nat.le_refl _)
        have B5 := B4.trans (b5.mono B4.size)
        generalize wr.heap.size = b0 at F5
        clear X4 B4 b5
        by_cases h0 : bookE L room k x = 0
        · obtain ⟨hx0, hgf, hfit⟩ := book_ok h0
          have h1 : bookL L room k x = put L k x := if_pos h0
          have t0 : ((0 : Int) == 0) = true := by decide
          obtain ⟨k1, k2, k3⟩ := back_lem (m := m) (room := room) (n := x) X5.ok.srt hgf
          go_wp2_with fail
          refine (book_to X5 (by omega) hk hx h0 h1).mono ?_
          rintro e w6 ⟨rfl, X6, q6⟩
          have B6 := B5.trans (q6.below B5.size hb hmb)
          have F6 := F5.ke (KE.x q6 (Nat.le_refl _) X5)
          clear X5 F5 B5 q6 h0 h1 hx0 hfit
          go_wp2_with fail
          refine (chg_calls X6 (by omega) hk hm).mono ?_
          rintro e w6b ⟨rfl, X6b, q6b⟩
          have B6b := B6.trans (q6b.below B6.size hb hmb)
          have F6b := F6.ke (KE.x q6b (Nat.le_refl _) X6)
          clear X6 F6 B6 q6b
          have fr := free_calls X6b hk
          rw [k1, k3] at fr
          obtain ⟨gn, hgn⟩ : ∃ gn, getN (chgL (put L k x) room k m) k = gn := ⟨_, rfl⟩
          rw [hgn] at fr k2
          clear k1 k3 hgn
          generalize chgE (put L k x) room k m = ce at *
          generalize chgL (put L k x) room k m = L6 at *
          go_wp2_with fail
          refine fr.mono ?_
          rintro e w7 ⟨rfl, X7, q7⟩
          have B7 := B6b.trans (q7.below B6b.size hb hmb)
          have F7 := F6b.ke (KE.x q7 (Nat.le_refl _) X6b)
          clear fr X6b F6b B6b q7
          by_cases h2 : gn = x
          · have t1 : (gn != x) = false := by simp [h2]
            clear h2 k2
            have HG : Hid (getN L k = getN L k) := rfl
            go_wp2_with fail
            refine (get_calls X7 hk).mono ?_
            rintro e w8 ⟨rfl, rfl⟩
            rename_i w8
            cases hgb : getB L k with
            | false =>
              have X9 := X7
              have F9 := F7
              have B9 := B7
              clear X7 F7 B7
              have l9 : L.length ≤ 1000 := by have := X9.len; omega
              go_wp2_with fail
              refine (lall_calls X9 (by omega) l9).mono ?_
              rintro e w10 ⟨a2, c2, rfl, E10, b10⟩
              have B10 := B9.trans (b10.mono B9.size)
              have F10 := F9.ke (KE.of b10 (Nat.le_refl _))
              clear X9 F9 b10 B9
              go_wp2_with fail
              refine (same_calls a2 a1 _ _ _ _ L l9 _ E10.isE F10.isE).mono ?_
              rintro e w11 ⟨rfl, b11⟩
              go_wp2
              go_ret
              exact ⟨rfl, B10.trans (b11.mono B10.size)⟩
            | true =>
              have hps := put_same X7.ok.srt hgb
              have hks := getN_ok X7 k
              by_cases h5 : chgE L room k m = 0
              · have h6 : chgL L room k m = put L k m := if_pos h5
                obtain ⟨p1, p2, p3⟩ := chg_back X7.ok hgb h5
                have t5 : ((0 : Int) == 0) = true := by decide
                go_wp2_with fail
                refine (chg_to X7 (by omega) hk hm h5 h6).mono ?_
                rintro e w8 ⟨rfl, X8, q8⟩
                have B8 := B7.trans (q8.below B7.size hb hmb)
                have F8 := F7.ke (KE.x q8 (Nat.le_refl _) X7)
                clear X7 F7 B7 q8 h5 h6
                go_wp2_with fail
                refine (chg_to X8 (by omega) hk hks p1 p2).mono ?_
                rintro e w9 ⟨rfl, X9, q9⟩
                have B9 := B8.trans (q9.below B8.size hb hmb)
                have F9 := F8.ke (KE.x q9 (Nat.le_refl _) X8)
                clear X8 F8 B8 q9 p1 p2 p3 hps
                have l9 : L.length ≤ 1000 := by have := X9.len; omega
                go_wp2_with fail
                refine (lall_calls X9 (by omega) l9).mono ?_
                rintro e w10 ⟨a2, c2, rfl, E10, b10⟩
                have B10 := B9.trans (b10.mono B9.size)
                have F10 := F9.ke (KE.of b10 (Nat.le_refl _))
                clear X9 F9 b10 B9
                go_wp2_with fail
                refine (same_calls a2 a1 _ _ _ _ L l9 _ E10.isE F10.isE).mono ?_
                rintro e w11 ⟨rfl, b11⟩
                go_wp2
                go_ret
                exact ⟨rfl, B10.trans (b11.mono B10.size)⟩
              · have h6 : chgL L room k m = L := if_neg h5
                have t5 : (chgE L room k m == 0) = false := by simpa using h5
                go_wp2_with fail
                refine (chg_calls X7 (by omega) hk hm).mono ?_
                rintro e w9 ⟨rfl, X9, q9⟩
                rw [h6] at X9
                have B9 := B7.trans (q9.below B7.size hb hmb)
                have F9 := F7.ke (KE.x q9 (Nat.le_refl _) X7)
                clear X7 F7 B7 q9 h5 h6 hps
                have l9 : L.length ≤ 1000 := by have := X9.len; omega
                go_wp2_with fail
                refine (lall_calls X9 (by omega) l9).mono ?_
                rintro e w10 ⟨a2, c2, rfl, E10, b10⟩
                have B10 := B9.trans (b10.mono B9.size)
                have F10 := F9.ke (KE.of b10 (Nat.le_refl _))
                clear X9 F9 b10 B9
                go_wp2_with fail
                refine (same_calls a2 a1 _ _ _ _ L l9 _ E10.isE F10.isE).mono ?_
                rintro e w11 ⟨rfl, b11⟩
                go_wp2
                go_ret
                exact ⟨rfl, B10.trans (b11.mono B10.size)⟩
          · have t1 : (gn != x) = true := by simp [h2]
            have t2 : (gn != m) = false := by
              rcases k2 with h | h
              · exact absurd h h2
              · simp [h]
            clear h2 k2
            have HG : Hid (getN L k = getN L k) := rfl
            go_wp2_with fail
            refine (get_calls X7 hk).mono ?_
            rintro e w8 ⟨rfl, rfl⟩
            rename_i w8
            cases hgb : getB L k with
            | false =>
              have X9 := X7
              have F9 := F7
              have B9 := B7
              clear X7 F7 B7
              have l9 : L.length ≤ 1000 := by have := X9.len; omega
              go_wp2_with fail
              refine (lall_calls X9 (by omega) l9).mono ?_
              rintro e w10 ⟨a2, c2, rfl, E10, b10⟩
              have B10 := B9.trans (b10.mono B9.size)
              have F10 := F9.ke (KE.of b10 (Nat.le_refl _))
              clear X9 F9 b10 B9
              go_wp2_with fail
              refine (same_calls a2 a1 _ _ _ _ L l9 _ E10.isE F10.isE).mono ?_
              rintro e w11 ⟨rfl, b11⟩
              go_wp2
              go_ret
              exact ⟨rfl, B10.trans (b11.mono B10.size)⟩
            | true =>
              have hps := put_same X7.ok.srt hgb
              have hks := getN_ok X7 k
              by_cases h5 : chgE L room k m = 0
              · have h6 : chgL L room k m = put L k m := if_pos h5
                obtain ⟨p1, p2, p3⟩ := chg_back X7.ok hgb h5
                have t5 : ((0 : Int) == 0) = true := by decide
                go_wp2_with fail
                refine (chg_to X7 (by omega) hk hm h5 h6).mono ?_
                rintro e w8 ⟨rfl, X8, q8⟩
                have B8 := B7.trans (q8.below B7.size hb hmb)
                have F8 := F7.ke (KE.x q8 (Nat.le_refl _) X7)
                clear X7 F7 B7 q8 h5 h6
                go_wp2_with fail
                refine (chg_to X8 (by omega) hk hks p1 p2).mono ?_
                rintro e w9 ⟨rfl, X9, q9⟩
                have B9 := B8.trans (q9.below B8.size hb hmb)
                have F9 := F8.ke (KE.x q9 (Nat.le_refl _) X8)
                clear X8 F8 B8 q9 p1 p2 p3 hps
                have l9 : L.length ≤ 1000 := by have := X9.len; omega
                go_wp2_with fail
                refine (lall_calls X9 (by omega) l9).mono ?_
                rintro e w10 ⟨a2, c2, rfl, E10, b10⟩
                have B10 := B9.trans (b10.mono B9.size)
                have F10 := F9.ke (KE.of b10 (Nat.le_refl _))
                clear X9 F9 b10 B9
                go_wp2_with fail
                refine (same_calls a2 a1 _ _ _ _ L l9 _ E10.isE F10.isE).mono ?_
                rintro e w11 ⟨rfl, b11⟩
                go_wp2
                go_ret
                exact ⟨rfl, B10.trans (b11.mono B10.size)⟩
              · have h6 : chgL L room k m = L := if_neg h5
                have t5 : (chgE L room k m == 0) = false := by simpa using h5
                go_wp2_with fail
                refine (chg_calls X7 (by omega) hk hm).mono ?_
                rintro e w9 ⟨rfl, X9, q9⟩
                rw [h6] at X9
                have B9 := B7.trans (q9.below B7.size hb hmb)
                have F9 := F7.ke (KE.x q9 (Nat.le_refl _) X7)
                clear X7 F7 B7 q9 h5 h6 hps
                have l9 : L.length ≤ 1000 := by have := X9.len; omega
                go_wp2_with fail
                refine (lall_calls X9 (by omega) l9).mono ?_
                rintro e w10 ⟨a2, c2, rfl, E10, b10⟩
                have B10 := B9.trans (b10.mono B9.size)
                have F10 := F9.ke (KE.of b10 (Nat.le_refl _))
                clear X9 F9 b10 B9
                go_wp2_with fail
                refine (same_calls a2 a1 _ _ _ _ L l9 _ E10.isE F10.isE).mono ?_
                rintro e w11 ⟨rfl, b11⟩
                go_wp2
                go_ret
                exact ⟨rfl, B10.trans (b11.mono B10.size)⟩
        · have h1 : bookL L room k x = L := if_neg h0
          have t0 : (bookE L room k x == 0) = false := by simpa using h0
          go_wp2_with fail
          refine (book_calls X5 (by omega) hk hx).mono ?_
          rintro e w7 ⟨rfl, X7, q7⟩
          rw [h1] at X7
          have B7 := B5.trans (q7.below B5.size hb hmb)
          have F7 := F5.ke (KE.x q7 (Nat.le_refl _) X5)
          clear X5 F5 B5 q7 h0 h1
          have HG : Hid (getN L k = getN L k) := rfl
          go_wp2_with fail
          refine (get_calls X7 hk).mono ?_
          rintro e w8 ⟨rfl, rfl⟩
          rename_i w8
          cases hgb : getB L k with
          | false =>
            have X9 := X7
            have F9 := F7
            have B9 := B7
            clear X7 F7 B7
            have l9 : L.length ≤ 1000 := by have := X9.len; omega
            go_wp2_with fail
            refine (lall_calls X9 (by omega) l9).mono ?_
            rintro e w10 ⟨a2, c2, rfl, E10, b10⟩
            have B10 := B9.trans (b10.mono B9.size)
            have F10 := F9.ke (KE.of b10 (Nat.le_refl _))
            clear X9 F9 b10 B9
            go_wp2_with fail
            refine (same_calls a2 a1 _ _ _ _ L l9 _ E10.isE F10.isE).mono ?_
            rintro e w11 ⟨rfl, b11⟩
            go_wp2
            go_ret
            exact ⟨rfl, B10.trans (b11.mono B10.size)⟩
          | true =>
            have hps := put_same X7.ok.srt hgb
            have hks := getN_ok X7 k
            by_cases h5 : chgE L room k m = 0
            · have h6 : chgL L room k m = put L k m := if_pos h5
              obtain ⟨p1, p2, p3⟩ := chg_back X7.ok hgb h5
              have t5 : ((0 : Int) == 0) = true := by decide
              go_wp2_with fail
              refine (chg_to X7 (by omega) hk hm h5 h6).mono ?_
              rintro e w8 ⟨rfl, X8, q8⟩
              have B8 := B7.trans (q8.below B7.size hb hmb)
              have F8 := F7.ke (KE.x q8 (Nat.le_refl _) X7)
              clear X7 F7 B7 q8 h5 h6
              go_wp2_with fail
              refine (chg_to X8 (by omega) hk hks p1 p2).mono ?_
              rintro e w9 ⟨rfl, X9, q9⟩
              have B9 := B8.trans (q9.below B8.size hb hmb)
              have F9 := F8.ke (KE.x q9 (Nat.le_refl _) X8)
              clear X8 F8 B8 q9 p1 p2 p3 hps
              have l9 : L.length ≤ 1000 := by have := X9.len; omega
              go_wp2_with fail
              refine (lall_calls X9 (by omega) l9).mono ?_
              rintro e w10 ⟨a2, c2, rfl, E10, b10⟩
              have B10 := B9.trans (b10.mono B9.size)
              have F10 := F9.ke (KE.of b10 (Nat.le_refl _))
              clear X9 F9 b10 B9
              go_wp2_with fail
              refine (same_calls a2 a1 _ _ _ _ L l9 _ E10.isE F10.isE).mono ?_
              rintro e w11 ⟨rfl, b11⟩
              go_wp2
              go_ret
              exact ⟨rfl, B10.trans (b11.mono B10.size)⟩
            · have h6 : chgL L room k m = L := if_neg h5
              have t5 : (chgE L room k m == 0) = false := by simpa using h5
              go_wp2_with fail
              refine (chg_calls X7 (by omega) hk hm).mono ?_
              rintro e w9 ⟨rfl, X9, q9⟩
              rw [h6] at X9
              have B9 := B7.trans (q9.below B7.size hb hmb)
              have F9 := F7.ke (KE.x q9 (Nat.le_refl _) X7)
              clear X7 F7 B7 q9 h5 h6 hps
              have l9 : L.length ≤ 1000 := by have := X9.len; omega
              go_wp2_with fail
              refine (lall_calls X9 (by omega) l9).mono ?_
              rintro e w10 ⟨a2, c2, rfl, E10, b10⟩
              have B10 := B9.trans (b10.mono B9.size)
              have F10 := F9.ke (KE.of b10 (Nat.le_refl _))
              clear X9 F9 b10 B9
              go_wp2_with fail
              refine (same_calls a2 a1 _ _ _ _ L l9 _ E10.isE F10.isE).mono ?_
              rintro e w11 ⟨rfl, b11⟩
              go_wp2
              go_ret
              exact ⟨rfl, B10.trans (b11.mono B10.size)⟩
end Go.Proofs.Ytpljpndegadckaa
