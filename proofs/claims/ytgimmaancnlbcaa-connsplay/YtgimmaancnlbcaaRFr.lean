/- Proved here: what the document's Free answers. Conditions: as each theorem states them. -/
import Derived.Test.YtgimmaancnlbcaaRf
namespace Go.Proofs.Ytgimmaancnlbcaa
set_option linter.unusedSimpArgs false
set_option linter.unusedVariables false
open Go.RowKit Go.Shelf

theorem getB_not {L : List En} {k : Ky} (h : ∀ y ∈ L, y.1 ≠ k) : getB L k = false := by unfold getB; rw [look_absent h]; rfl
theorem getB_mem {L : List En} {k : Ky} (h : getB L k = true) : ∃ y ∈ L, y.1 = k := by
  by_cases hh : ∃ y ∈ L, y.1 = k
  · exact hh
  · have := getB_not (L := L) (k := k) (fun y hy e => hh ⟨y, hy, e⟩)
    rw [h] at this
    cases this
theorem frF_at {L : List En} (hs : Srt L) {p q m v : Int} (hm : m ≤ v) (hall : ∀ i, m ≤ i → i < v → getB L (p, q, i) = true) (hn : getB L (p, q, v) = false) : frF p q m L = v := by
  obtain ⟨i1, i2, i3, i4⟩ := frF_spec (p := p) (q := q) hs m
  by_cases h1 : frF p q m L < v
  · obtain ⟨y, hy, e⟩ := getB_mem (hall _ i1 h1)
    exact absurd e (i3 y hy)
  · by_cases h2 : v < frF p q m L
    · have := look_in (i4 v hm h2)
      unfold getB at hn
      rw [this] at hn
      cases hn
    · omega
theorem frF_ge {L : List En} (hs : Srt L) {p q m v : Int} (hall : ∀ i, m ≤ i → i < v → getB L (p, q, i) = true) : v ≤ frF p q m L ∨ frF p q m L < m := by
  obtain ⟨i1, i2, i3, i4⟩ := frF_spec (p := p) (q := q) hs m
  by_cases h1 : frF p q m L < v
  · obtain ⟨y, hy, e⟩ := getB_mem (hall _ i1 h1)
    exact absurd e (i3 y hy)
  · omega
/-- What the document's Free tells. -/
def rfrN (L : List En) (p q f : Int) : Int := if freeB L p q f = true then freeN L p q f else -1
theorem rfr_not {L : List En} {p q f : Int} (h : rightK (p, q, 0) = false) : rfrN L p q f = -1 := by
  have : freeB L p q f = false := by
    unfold freeB
    cases hb : rightK (p, q, frF p q (max f 0) L) with
    | false => rfl
    | true =>
      have h1 := (rightK_iff _).1 hb
      have : rightK (p, q, 0) = true := (rightK_iff _).2 ⟨h1.1, h1.2.1, by show (0 : Int) ≤ 0; omega, by show (0 : Int) ≤ 65535; omega⟩
      rw [h] at this
      cases this
  unfold rfrN
  rw [this]
  rfl
theorem rfr_yes {L : List En} (hs : Srt L) {p q f v : Int} (hr : rightK (p, q, 0) = true) (hm : max f 0 ≤ v) (hv : v < 65536) (hall : ∀ i, max f 0 ≤ i → i < v → getB L (p, q, i) = true) (hn : getB L (p, q, v) = false) : rfrN L p q f = v := by
  have e := frF_at hs hm hall hn
  have h1 := (rightK_iff _).1 hr
  have hb : freeB L p q f = true := by
    unfold freeB
    rw [e]
    exact (rightK_iff _).2 ⟨h1.1, h1.2.1, by show 0 ≤ v; omega, by show v ≤ 65535; omega⟩
  unfold rfrN
  rw [if_pos hb]
  have : freeN L p q f = frF p q (max f 0) L := by unfold freeB at hb; unfold freeN; rw [hb]; rfl
  rw [this, e]
theorem rfr_none {L : List En} (hs : Srt L) {p q f v : Int} (hv : 65536 ≤ v) (hall : ∀ i, max f 0 ≤ i → i < v → getB L (p, q, i) = true) : rfrN L p q f = -1 := by
  have hb : freeB L p q f = false := by
    unfold freeB
    cases hb : rightK (p, q, frF p q (max f 0) L) with
    | false => rfl
    | true =>
      have h1 : frF p q (max f 0) L ≤ 65535 := ((rightK_iff _).1 hb).2.2.2
      have h2 : max f 0 ≤ frF p q (max f 0) L := (frF_spec (p := p) (q := q) hs (max f 0)).1
      have h3 := frF_ge hs hall
      omega
  unfold rfrN
  rw [hb]
  rfl

set_option maxHeartbeats 2000000 in
theorem rfree_calls {w : World} {b room : Nat} {L : List En} (h : RT w b L room) (hok : Ok L room) (p q f : Int) :
    Calls Try.prog 22 #[.pointer (some ⟨b, 0, none⟩), .int .i64 p, .int .i64 q, .int .i64 f] w fun e w' => e = .returned (.int .i64 (rfrN L p q f)) ∧ Below w.heap.size w w' := by
  obtain ⟨m0, hm0⟩ : ∃ m0, (if 0 < f then f else (0 : Int)) = m0 := ⟨_, rfl⟩
  have HM : Hid (max f 0 = m0) := by show _ = _; subst hm0; split <;> omega
  have HO : Hid (Ok L room) := hok
  have hm00 : 0 ≤ m0 := by rw [← HM.out]; omega
  go_enter Try.func22, Try.ntmps22
  go_wp2_with fail
  refine (rright_calls (p, q, 0) _).mono ?_
  rintro e w1 ⟨rfl, b1⟩
  cases hr : rightK (p, q, 0) with
  | false =>
    have HR : Hid (rightK (p, q, 0) = false) := hr
    clear hr
    go_wp2
    go_ret
    exact ⟨cret_int (rfr_not HR.out).symm, b1⟩
  | true =>
    have HR : Hid (rightK (p, q, 0) = true) := hr
    have R1 := h.below b1 (Nat.le_refl _)
    clear hr h
    go_wp2
    go_loopw [9] (fun iv wr => ∃ (v : Int), m0 ≤ v ∧ (v ≤ 65536 ∨ v = m0) ∧ iv = .int .i64 v ∧ (∀ i, m0 ≤ i → i < v → getB L (p, q, i) = true) ∧ RT wr b L room ∧ Below w.heap.size w wr) (fun iv _ => (65536 - intOf iv).toNat)
    case atStart => exact ⟨m0, Int.le_refl _, .inr rfl, rfl, fun i h1 h2 => by omega, R1, b1⟩
    case round =>
      obtain ⟨v, hv0, hv1, rfl, hall, R2, B2⟩ := hrel
      have HA : Hid (∀ i, m0 ≤ i → i < v → getB L (p, q, i) = true) := hall
      clear hall R1 b1
      by_cases hlt : v < 65536
      · have dl : decide (v < 65536) = true := decide_eq_true hlt
        have hw : IntKind.i64.wrap (v + 1) = v + 1 := by rw [IntKind.wrap_i64]; omega
        go_wp2_with fail
        refine (rat_calls R2 hok (p, q, v)).mono ?_
        rintro e w3 ⟨rfl, b3⟩
        have R3 := R2.below b3 (Nat.le_refl _)
        have B3 := B2.trans (b3.mono B2.size)
        clear R2 B2 b3
        cases hf : (fnd L (p, q, v)).2 with
        | false =>
          rw [atN_neg hf]
          have HF : Hid (getB L (p, q, v) = false) := by show _ = _; rw [← HO.out.fndB]; exact hf
          have HL : Hid (v < 65536) := hlt
          have HV0 : Hid (m0 ≤ v) := hv0
          clear hf
          go_wp2
          go_ret
          refine ⟨cret_int (Eq.symm (rfr_yes HO.out.srt HR.out ?_ HL.out ?_ HF.out)), B3⟩
          · rw [HM.out]; exact HV0.out
          · rw [HM.out]; exact HA.out
        | true =>
          rw [atN_pos hf]
          have HF : Hid (getB L (p, q, v) = true) := by show _ = _; rw [← HO.out.fndB]; exact hf
          obtain ⟨i, hii⟩ : ∃ i, (fnd L (p, q, v)).1 = i := ⟨_, rfl⟩
          rw [hii]
          clear hf hii
          have dn : decide ((i : Int) < 0) = false := by simp
          go_wp2
          go_roundw
          case rel => exact ⟨v + 1, by omega, .inl (by omega), by go_num, fun j h1 h2 => by
            by_cases e : j = v
            · subst e; exact HF.out
            · exact HA.out j h1 (by omega), R3, B3⟩
          case measure => simp [intOf]; omega
      · have dl : decide (v < 65536) = false := decide_eq_false hlt
        have HL : Hid (65536 ≤ v) := by show _ ≤ _; omega
        go_wp2
        go_ret
        refine ⟨cret_int (Eq.symm (rfr_none HO.out.srt HL.out ?_)), B2⟩
        rw [HM.out]; exact HA.out
end Go.Proofs.Ytgimmaancnlbcaa
