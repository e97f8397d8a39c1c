/- Proved here: the walk of LedgerOrder. Conditions: as each theorem states them. -/
import Derived.Test.YtpljpndegadckaaAw
import Derived.Test.YtpljpndegadckaaAl
import Derived.Test.YtpljpndegadckaaSm
import Derived.Test.YtpljpndegadckaaRowIn
namespace Go.Proofs.Ytpljpndegadckaa
set_option linter.unusedSimpArgs false
set_option linter.unusedVariables false
open Go.RowKit Go.Shelf

theorem XV.but2 {w w' : World} {b mb n m b' mb' : Nat} {L : List En} {room : Int} (h : XV w b mb L room n) (hb : But2 b' mb' m w w') (hm : w.heap.size ≤ m) (h1 : b ≠ b' ∧ b ≠ mb') (h2 : mb ≠ b' ∧ mb ≠ mb') : XV w' b mb L room n :=
  h.same (hb.block b (by have := h.lt; omega) h1.1 h1.2) (hb.block mb (by have := h.mlt; omega) h2.1 h2.2)

/-- The sum of numbers; the bookings of the numbers from lo on. -/
def sumI : List Int → Int
  | [] => 0
  | x :: l => x + sumI l
theorem sumI_append (l m : List Int) : sumI (l ++ m) = sumI l + sumI m := by
  induction l with
  | nil => simp [sumI]
  | cons x l ih => rw [List.cons_append, sumI, sumI, ih]; omega
theorem sumI_nn {l : List Int} (h : ∀ x ∈ l, 0 ≤ x ∧ x ≤ 65535) : 0 ≤ sumI l ∧ sumI l ≤ l.length * 65535 := by
  induction l with
  | nil => simp [sumI]
  | cons x l ih =>
    have h1 := h x (List.mem_cons_self ..)
    have h2 := ih fun y hy => h y (List.mem_cons_of_mem _ hy)
    rw [sumI, List.length_cons]
    push_cast
    omega
def bks : Nat → List Int → List En
  | _, [] => []
  | lo, y :: l => ((lo : Int), y) :: bks (lo + 1) l
theorem bks_length (lo : Nat) (l : List Int) : (bks lo l).length = l.length := by
  induction l generalizing lo with
  | nil => rfl
  | cons y l ih => rw [bks, List.length_cons, ih, List.length_cons]
theorem bks_sum (lo : Nat) (l : List Int) : sumL (bks lo l) = sumI l := by
  induction l generalizing lo with
  | nil => rfl
  | cons y l ih => rw [bks, sumL, ih, sumI]
theorem bks_mem {lo : Nat} {l : List Int} {x : En} (h : x ∈ bks lo l) : (lo : Int) ≤ x.1 ∧ x.1 < (lo : Int) + l.length := by
  induction l generalizing lo with
  | nil => cases h
  | cons y l ih =>
    rw [bks] at h
    rw [List.length_cons]
    rcases List.mem_cons.1 h with rfl | h
    · simp; omega
    · have := ih h; push_cast at this ⊢; omega
theorem bks_snoc (lo : Nat) (l : List Int) (y : Int) : bks lo (l ++ [y]) = bks lo l ++ [(((lo + l.length : Nat) : Int), y)] := by
  induction l generalizing lo with
  | nil => rfl
  | cons z l ih => rw [List.cons_append, bks, ih, bks, List.cons_append, List.length_cons, show lo + 1 + l.length = lo + (l.length + 1) by omega]
theorem ins_last {L : List En} {e : En} (h : ∀ x ∈ L, x.1 < e.1) : ins L e = L ++ [e] := by
  induction L with
  | nil => rfl
  | cons x L ih => rw [ins, if_pos (h x (List.mem_cons_self ..)), ih fun y hy => h y (List.mem_cons_of_mem _ hy)]; rfl
theorem ins_first {L : List En} {e : En} (h : ∀ x ∈ L, e.1 < x.1) : ins L e = e :: L := by
  cases L with
  | nil => rfl
  | cons x L => rw [ins, if_neg (by have := h x (List.mem_cons_self ..); omega)]
theorem getB_not {L : List En} {k : Int} (h : ∀ x ∈ L, x.1 ≠ k) : getB L k = false := by
  cases hb : getB L k with
  | false => rfl
  | true =>
    obtain ⟨x, hx, e⟩ := List.mem_map.1 (getB_mem.1 hb)
    exact absurd e (h x hx)
/-- One more booked behind all, and ahead of all. -/
theorem up_one {ys : List Int} (hy : ∀ x ∈ ys, 0 ≤ x ∧ x ≤ 65535) {i : Nat} {y : Int} (hx : ys[i]? = some y) :
    bookE (bks 0 (ys.take i)) (sumI ys) i y = 0 ∧ bookL (bks 0 (ys.take i)) (sumI ys) i y = bks 0 (ys.take (i + 1)) := by
  have hi : i < ys.length := (List.getElem?_eq_some_iff.1 hx).1
  have hy0 := hy y (List.mem_of_getElem? hx)
  have hb : getB (bks 0 (ys.take i)) i = false := getB_not fun x h => by
    have := bks_mem h; rw [List.length_take] at this; omega
  have e2 : ys.take (i + 1) = ys.take i ++ [y] := by rw [List.take_add_one, hx]; rfl
  have hs : sumI ys = sumI (ys.take (i + 1)) + sumI (ys.drop (i + 1)) := by rw [← sumI_append, List.take_append_drop]
  have hd := (sumI_nn (l := ys.drop (i + 1)) fun x h => hy x (List.mem_of_mem_drop h)).1
  rw [e2, sumI_append] at hs
  have h1 : sumI [y] = y := by simp [sumI]
  have e : bookE (bks 0 (ys.take i)) (sumI ys) i y = 0 := by
    unfold bookE; rw [bks_sum, if_neg (by omega), if_neg (by rw [hb]; decide), if_neg (by omega)]
  refine ⟨e, ?_⟩
  unfold bookL
  rw [if_pos e, put_new hb, ins_last fun x h => by have := bks_mem h; rw [List.length_take] at this; simp; omega, e2, bks_snoc, List.length_take, Nat.min_eq_left (by omega), Nat.zero_add]
theorem down_one {ys : List Int} (hy : ∀ x ∈ ys, 0 ≤ x ∧ x ≤ 65535) {j : Nat} {y : Int} (hx : ys[j]? = some y) :
    bookE (bks (j + 1) (ys.drop (j + 1))) (sumI ys) j y = 0 ∧ bookL (bks (j + 1) (ys.drop (j + 1))) (sumI ys) j y = bks j (ys.drop j) := by
  obtain ⟨hj, hyj⟩ := List.getElem?_eq_some_iff.1 hx
  have hy0 := hy y (List.mem_of_getElem? hx)
  have hb : getB (bks (j + 1) (ys.drop (j + 1))) j = false := getB_not fun x h => by
    have := bks_mem h; push_cast at this; omega
  have e2 : ys.drop j = y :: ys.drop (j + 1) := by rw [List.drop_eq_getElem_cons hj, hyj]
  have hs : sumI ys = sumI (ys.take j) + sumI (ys.drop j) := by rw [← sumI_append, List.take_append_drop]
  have hd := (sumI_nn (l := ys.take j) fun x h => hy x (List.mem_of_mem_take h)).1
  rw [e2, sumI] at hs
  have e : bookE (bks (j + 1) (ys.drop (j + 1))) (sumI ys) j y = 0 := by
    unfold bookE; rw [bks_sum, if_neg (by omega), if_neg (by rw [hb]; decide), if_neg (by omega)]
  refine ⟨e, ?_⟩
  unfold bookL
  rw [if_pos e, put_new hb, ins_first fun x h => by have := bks_mem h; push_cast at this; simp; omega, e2, bks]

set_option maxHeartbeats 8000000 in
set_option maxRecDepth 20000 in
theorem order_walk (s : Option Addr) (len cap : Nat) (ys : List Int) (w : World) (hL : IsR .u16 w.heap.size w s len ys) (hwf : ∀ x ∈ ys, 0 ≤ x ∧ x ≤ 65535) :
    Calls Try.prog 8 #[.slice s len cap] w fun e w' => e = .returned (.bool true) ∧ Below w.heap.size w w' := by
  by_cases hl1 : 100 < len
  · have q1 : decide (100 < (len : Int)) = true := by simp; omega
    clear hL
    go_enter Try.func8, Try.ntmps8
    go_wp2_with fail
    refine (awake_calls _).mono ?_
    rintro e w1 ⟨rfl, b1⟩
    go_wp2_with fail
    refine (awake_calls _).mono ?_
    rintro e w2 ⟨rfl, b2⟩
    go_wp2
    go_ret
    exact ⟨rfl, b1.trans (b2.mono b1.size)⟩
  · obtain rfl : len = ys.length := hL.1
    have q1 : decide (100 < (ys.length : Int)) = false := by simp; omega
    have hl100 : ys.length ≤ 100 := by omega
    go_enter Try.func8, Try.ntmps8
    go_wp2_with fail
    refine (awake_calls _).mono ?_
    rintro x w1 ⟨rfl, b1⟩
    clear q1 hl1
    go_wp2
    go_loopw [3, 19] (fun sv iv wr => ∃ (i : Nat), i ≤ ys.length ∧ iv = .int .i64 i ∧ sv = .int .i64 (sumI (ys.take i)) ∧ Below w.heap.size w wr) (fun _ iv _ => ys.length - (intOf iv).toNat)
    case atStart => exact ⟨0, Nat.zero_le _, rfl, by simp [sumI], b1⟩
    case round =>
      obtain ⟨i, hi, rfl, rfl, B4⟩ := hrel
      clear b1
      by_cases hlt : i < ys.length
      · obtain ⟨y, hy⟩ : ∃ y, ys[i]? = some y := ⟨ys[i]'(by omega), by rw [List.getElem?_eq_getElem]⟩
        obtain ⟨g, off, rfl, hg, hc⟩ := hL.cell hy
        have c0 := (B4.cell (p := ⟨g, off + i, none⟩) hg).trans (hc i y hy)
        have hy0 := hwf y (List.mem_of_getElem? hy)
        have hb := sumI_nn (l := ys.take i) fun x h => hwf x (List.mem_of_mem_take h)
        rw [List.length_take, Nat.min_eq_left (by omega)] at hb
        have hy1 : 0 ≤ y := hy0.1
        have hy2 : y ≤ 65535 := hy0.2
        have HS : Hid (sumI (ys.take (i + 1)) = sumI (ys.take i) + y) := by
          show _ = _
          rw [List.take_add_one, hy, sumI_append]; simp [sumI]
        generalize sumI (ys.take i) = S at *
        have hb0 : 0 ≤ S := hb.1
        have hb1 : S ≤ 6553500 := by omega
        have hcv : IntKind.i64.wrap y = y := by rw [IntKind.wrap_i64]; omega
        clear hy hc hb hy0
        go_wp2
        go_roundw
        case rel => exact ⟨i + 1, by omega, by go_num, by rw [HS.out], B4⟩
        case measure => simp [intOf]; omega
      · obtain rfl : i = ys.length := by omega
        rw [show ys.take ys.length = ys from List.take_length]
        have hsb := sumI_nn hwf
        have hroom : roomN (sumI ys) = sumI ys := by unfold roomN; omega
        have htot : Hid (0 ≤ sumI ys ∧ sumI ys ≤ 6553500) := by show _ ∧ _; omega
        have HU : Hid (∀ (i : Nat) y, ys[i]? = some y → bookE (bks 0 (ys.take i)) (sumI ys) i y = 0 ∧ bookL (bks 0 (ys.take i)) (sumI ys) i y = bks 0 (ys.take (i + 1))) := fun i y hx => up_one hwf hx
        have HD : Hid (∀ (j : Nat) y, ys[j]? = some y → bookE (bks (j + 1) (ys.drop (j + 1))) (sumI ys) j y = 0 ∧ bookL (bks (j + 1) (ys.drop (j + 1))) (sumI ys) j y = bks j (ys.drop j)) := fun j y hx => down_one hwf hx
        have HSU : Hid (sumL (bks 0 ys) = sumI ys) := bks_sum 0 ys
        clear hsb hlt
        generalize hTT : sumI ys = T at *
        clear hTT
        go_wp2_with fail
        refine (new_calls T _).mono ?_
        rintro e w5 ⟨rfl, X5, b5⟩
        have B5 := B4.trans (b5.mono B4.size)
        rw [hroom] at X5
        have n1 : w.heap.size ≤ wr.heap.size + 1 ∧ w.heap.size ≤ wr.heap.size := by have := B4.size; omega
        have l1 := X5.lt
        have l2 := X5.mlt
        clear b5 B4
        generalize wr.heap.size + 1 = a1 at *
        generalize wr.heap.size = ma at *
        go_wp2_with fail
        refine (new_calls T _).mono ?_
        rintro e w6 ⟨rfl, X6, b6⟩
        have B6 := B5.trans (b6.mono B5.size)
        have Y6 := X5.below b6 (Nat.le_refl _)
        rw [hroom] at X6
        have n2 : w.heap.size ≤ w5.heap.size + 1 ∧ w.heap.size ≤ w5.heap.size := by have := B5.size; omega
        have d1 : a1 ≠ w5.heap.size + 1 ∧ a1 ≠ w5.heap.size := by omega
        have d2 : ma ≠ w5.heap.size + 1 ∧ ma ≠ w5.heap.size := by omega
        clear b6 B5 X5 l1 l2 hroom
        generalize w5.heap.size + 1 = a2 at *
        generalize w5.heap.size = mc at *
        go_wp2
        go_loopw [36] (fun iv wr => ∃ (i : Nat), i ≤ ys.length ∧ iv = .int .i64 i ∧ XV wr a1 ma (bks 0 (ys.take i)) T i ∧ XV wr a2 mc (bks (ys.length - i) (ys.drop (ys.length - i))) T i ∧ Below w.heap.size w wr) (fun iv _ => ys.length - (intOf iv).toNat)
        case atStart => exact ⟨0, Nat.zero_le _, rfl, by simpa [bks] using Y6, by simpa [bks] using X6, B6⟩
        case round =>
          obtain ⟨j, hj, rfl, Y7, X7, B7⟩ := hrel
          clear Y6 X6 B6
          by_cases hlt2 : j < ys.length
          · obtain ⟨y, hy⟩ : ∃ y, ys[j]? = some y := ⟨ys[j]'(by omega), by rw [List.getElem?_eq_getElem]⟩
            obtain ⟨k, hk⟩ : ∃ k, ys.length = j + 1 + k := ⟨ys.length - (j + 1), by omega⟩
            obtain ⟨z, hz⟩ : ∃ z, ys[k]? = some z := ⟨ys[k]'(by omega), by rw [List.getElem?_eq_getElem]⟩
            obtain ⟨g, off, rfl, hg, hc⟩ := hL.cell hy
            have hcz := hc k z hz
            have c0 := (B7.cell (p := ⟨g, off + j, none⟩) hg).trans (hc j y hy)
            have hy0 := hwf y (List.mem_of_getElem? hy)
            have hz0 := hwf z (List.mem_of_getElem? hz)
            have hcv : IntKind.i64.wrap y = y := by rw [IntKind.wrap_i64]; omega
            have hcv2 : IntKind.i64.wrap z = z := by rw [IntKind.wrap_i64]; omega
            obtain ⟨u1, u2⟩ := HU.out j y hy
            obtain ⟨v1, v2⟩ := HD.out k z hz
            rw [show ys.length - j = k + 1 by omega] at X7
            have okj : okI j := okl (by omega)
            have okk : okI k := okl (by omega)
            have oky : okI y := okl (by omega)
            have okz : okI z := okl (by omega)
            have HB := book_to Y7 (by omega) okj oky u1 u2
            have hj1 : (ys.length : Int) - 1 - (j : Int) = (k : Int) := by omega
            have hjw : IntKind.i64.wrap ((ys.length : Int) - 1) = (ys.length : Int) - 1 := by rw [IntKind.wrap_i64]; omega
            have hjw2 : IntKind.i64.wrap ((k : Int)) = (k : Int) := by rw [IntKind.wrap_i64]; omega
            have hki : k < ys.length := by omega
            have HC : Hid (∀ W', Below w.heap.size w W' → W'.cell? ⟨g, off + k, none⟩ = some (.int .u16 z)) := fun W' hW => (hW.cell (p := ⟨g, off + k, none⟩) hg).trans hcz
            have HLN : Hid (ys.length = j + 1 + k) := hk
            clear hy hz hc hcz hk hj
            go_wp2_with fail
            refine HB.mono ?_
            rintro e w8 ⟨rfl, Y8, q8⟩
            have X8 := X7.but2 q8 (Nat.le_refl _) ⟨fun e => d1.1 e.symm, fun e => d2.1 e.symm⟩ ⟨fun e => d1.2 e.symm, fun e => d2.2 e.symm⟩
            have B8 := B7.trans (q8.below B7.size n1.1 n1.2)
            have c1 := HC.out _ B8
            clear Y7 X7 B7 q8 HB c0
            go_wp2_with fail
            refine (book_to X8 (by have := HLN.out; omega) okk okz v1 v2).mono ?_
            rintro e w9 ⟨rfl, X9, q9⟩
            have Y9 := Y8.but2 q9 (Nat.le_refl _) d1 d2
            have B9 := B8.trans (q9.below B8.size n2.1 n2.2)
            clear X8 Y8 B8 q9 c1 hj1 hjw hjw2
            go_wp2
            go_roundw
            case rel => exact ⟨j + 1, by have := HLN.out; omega, by go_num, Y9, by rw [show ys.length - (j + 1) = k by have := HLN.out; omega]; exact X9, B9⟩
            case measure => simp [intOf]; omega
          · obtain rfl : j = ys.length := by omega
            rw [show ys.take ys.length = ys from List.take_length] at Y7
            rw [Nat.sub_self, List.drop_zero] at X7
            have lb : (bks 0 ys).length ≤ 1000 := by rw [bks_length]; omega
            have HLB : Hid ((bks 0 ys).length = ys.length) := bks_length 0 ys
            have HN1 : Hid (getB (bks 0 ys) (-1) = false) := getB_not fun x h => by have := bks_mem h; omega
            have e9 : bookE (bks 0 ys) T (-1) 1 = 9 := by unfold bookE; rw [HSU.out, if_neg (by omega), if_neg (by rw [HN1.out]; decide), if_pos (by omega)]
            have l9 : bookL (bks 0 ys) T (-1) 1 = bks 0 ys := by unfold bookL; rw [if_neg (by omega)]
            have hsu : T - sumL (bks 0 ys) = 0 := by rw [HSU.out]; omega
            have hnl : ys.length ≤ 100 := by omega
            clear hlt2 hwf hL hl100
            go_wp2_with fail
            refine (left_to Y7 hsu).mono ?_
            rintro e w8 ⟨rfl, b8⟩
            have Y8 := Y7.below b8 (Nat.le_refl _)
            have X8 := X7.below b8 (Nat.le_refl _)
            have B8 := B7.trans (b8.mono B7.size)
            clear Y7 X7 b8 B7
            go_wp2_with fail
            refine (left_to X8 hsu).mono ?_
            rintro e w9 ⟨rfl, b9⟩
            have Y9 := Y8.below b9 (Nat.le_refl _)
            have X9 := X8.below b9 (Nat.le_refl _)
            have B9 := B8.trans (b9.mono B8.size)
            clear Y8 X8 b9 B8
            go_wp2_with fail
            refine (book_to Y9 (by omega) (okl (by omega)) (okl (by omega)) e9 l9).mono ?_
            rintro e w10 ⟨rfl, Y10, q10⟩
            have X10 := X9.but2 q10 (Nat.le_refl _) ⟨fun e => d1.1 e.symm, fun e => d2.1 e.symm⟩ ⟨fun e => d1.2 e.symm, fun e => d2.2 e.symm⟩
            have B10 := B9.trans (q10.below B9.size n1.1 n1.2)
            clear Y9 X9 q10 B9 e9 l9
            go_wp2_with fail
            refine (lall_calls Y10 (by omega) lb).mono ?_
            rintro e w11 ⟨p1, p2, rfl, E11, b11⟩
            have Y11 := Y10.below b11 (Nat.le_refl _)
            have X11 := X10.below b11 (Nat.le_refl _)
            have B11 := B10.trans (b11.mono B10.size)
            clear Y10 X10 b11 B10
            go_wp2_with fail
            refine (lall_calls X11 (by omega) lb).mono ?_
            rintro e w12 ⟨p3, p4, rfl, F12, b12⟩
            have E12 := E11.below b12 (Nat.le_refl _)
            have Y12 := Y11.below b12 (Nat.le_refl _)
            have B12 := B11.trans (b12.mono B11.size)
            clear Y11 X11 b12 B11 E11
            go_wp2_with fail
            refine (same_calls p1 p3 _ _ _ _ _ lb _ E12.isE F12.isE).mono ?_
            rintro e w13 ⟨rfl, b13⟩
            have Y13 := Y12.below b13 (Nat.le_refl _)
            have B13 := B12.trans (b13.mono B12.size)
            clear Y12 E12 F12 b13 B12
            go_wp2_with fail
            refine (lall_calls Y13 (by omega) lb).mono ?_
            rintro e w14 ⟨p5, p6, rfl, E14, b14⟩
            have B14 := B13.trans (b14.mono B13.size)
            clear Y13 E14 b14 B13
            rw [HLB.out]
            have heq : ((ys.length : Int) == (ys.length : Int)) = true := by simp
            go_wp2
            go_ret
            exact ⟨rfl, B14⟩
theorem bounds_w16 {ys : List Int} (h : ∀ y ∈ ys, (Lit.int .u16 y).wf = true) : ∀ y ∈ ys, 0 ≤ y ∧ y ≤ 65535 := fun y hy => by
  have := h y hy
  simp [Lit.wf, IntKind.min, IntKind.max, IntKind.bits, IntKind.signed] at this
  omega
end Go.Proofs.Ytpljpndegadckaa
