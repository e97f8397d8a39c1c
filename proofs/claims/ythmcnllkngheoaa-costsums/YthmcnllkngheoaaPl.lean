/- Proved here: what a unit cut up into steps is, what a contract costs, and how costs compare; plain. Conditions: as each theorem states them. -/
import Derived.Test.YthmcnllkngheoaaSmall
namespace Go.Proofs.Ythmcnllkngheoaa
set_option linter.unusedSimpArgs false
set_option linter.unusedVariables false

/-- A quotient, cut off up. -/
def upN (x b : Int) : Int := x.tdiv b + (bif x.tmod b == 0 then 0 else 1)
theorem up_iff {x b n : Int} (hx : 0 ≤ x) (hb : 0 < b) : upN x b ≤ n ↔ x ≤ n * b := by
  unfold upN
  rw [Int.tdiv_eq_ediv_of_nonneg hx, Int.tmod_eq_emod_of_nonneg hx]
  have h1 := Int.mul_ediv_add_emod x b
  have h2 := Int.emod_nonneg x (show b ≠ 0 by omega)
  have h3 := Int.emod_lt_of_pos x hb
  generalize x / b = q at *
  generalize x % b = r at *
  rw [Int.mul_comm] at h1
  have up : ∀ {m k : Int}, m ≤ k → m * b ≤ k * b := fun h => Int.mul_le_mul_of_nonneg_right h (by omega)
  by_cases hr : r = 0
  · subst hr
    simp only [beq_self_eq_true, cond_true, Int.add_zero]
    constructor
    · intro h; have := up h; omega
    · intro h
      refine Decidable.byContradiction fun hn => ?_
      have := up (show n + 1 ≤ q by omega)
      rw [Int.add_mul] at this
      omega
  · rw [beq_false_of_ne hr]
    simp only [cond_false]
    constructor
    · intro h; have := up h; rw [Int.add_mul] at this; omega
    · intro h
      refine Decidable.byContradiction fun hn => ?_
      have := up (show n ≤ q by omega)
      omega
theorem up_mul {x b : Int} (hx : 0 ≤ x) (hb : 0 < b) : x ≤ upN x b * b := (up_iff hx hb).1 (Int.le_refl _)
theorem up_less {x b : Int} (hx : 0 ≤ x) (hb : 0 < b) : (upN x b - 1) * b < x := by
  refine Int.lt_of_not_ge fun h => ?_
  have := (up_iff hx hb).2 h
  omega
theorem up_ge {x b n : Int} (hx : 0 ≤ x) (hb : 0 < b) : n ≤ upN x b ↔ (n - 1) * b < x := by
  have := @up_iff x b (n - 1) hx hb
  constructor
  · intro h; refine Int.lt_of_not_ge fun h' => ?_; have := this.2 h'; omega
  · intro h; refine Decidable.byContradiction fun h' => ?_; have := this.1 (by omega); omega
theorem up_nonneg {x b : Int} (hx : 0 ≤ x) (hb : 0 < b) : 0 ≤ upN x b := (up_ge hx hb).2 (by omega)

/-- How many cells come in a unit, one a step. -/
def perN (s : Int) : Int := bif decide (s < 1) then 0 else upN 1048576 s
theorem perN_no {s : Int} (h : s < 1) : perN s = 0 := by unfold perN; rw [decide_eq_true h]; rfl
theorem perN_yes {s : Int} (h : 1 ≤ s) : perN s = upN 1048576 s := by unfold perN; rw [decide_eq_false (by omega)]; rfl
theorem perN_pos {s : Int} (h : 1 ≤ s) : 1 ≤ perN s ∧ perN s ≤ 1048576 := by
  rw [perN_yes h]
  exact ⟨(up_ge (by decide) (by omega)).2 (by omega), (up_iff (by decide) (by omega)).2 (by omega)⟩
theorem perN_bounds (s : Int) : 0 ≤ perN s ∧ perN s ≤ 1048576 := by
  by_cases h : s < 1
  · rw [perN_no h]; omega
  · have := perN_pos (show 1 ≤ s by omega); omega
theorem perN_anti {s t : Int} (h : 1 ≤ s) (hst : s ≤ t) : perN t ≤ perN s := by
  have h0 := perN_pos h
  rw [perN_yes (show 1 ≤ t by omega)]
  refine (up_iff (by decide) (by omega)).2 ?_
  have h1 := up_mul (x := 1048576) (by decide) (show 0 < s by omega)
  rw [← perN_yes h] at h1
  exact Int.le_trans h1 (Int.mul_le_mul_of_nonneg_left hst (by omega))
theorem perN_mul {s : Int} (h : 1 ≤ s) : 1048576 ≤ perN s * s ∧ (perN s - 1) * s < 1048576 := by
  rw [perN_yes h]
  exact ⟨up_mul (by decide) (by omega), up_less (by decide) (by omega)⟩
theorem perN_one {s : Int} (h : 1048576 < s) : perN s = 1 := by
  have h0 := perN_pos (show 1 ≤ s by omega)
  have : perN s ≤ 1 := by rw [perN_yes (by omega)]; exact (up_iff (by decide) (by omega)).2 (by omega)
  omega

/-- A cost between two. -/
def betN (w p b : Int) : Int := upN (w * 4096 + p * b) (b + 4096)
theorem betN_nn {w p b : Int} (hw : 0 ≤ w) (hp : 0 ≤ p) (hb : 0 ≤ b) : 0 ≤ w * 4096 + p * b := by
  have := Int.mul_nonneg hp hb
  omega
theorem betN_bounds {w p b : Int} (hw : 0 ≤ w) (hp : w ≤ p) (hb : 0 ≤ b) : w ≤ betN w p b ∧ betN w p b ≤ p := by
  have h := betN_nn hw (show 0 ≤ p by omega) hb
  have h1 := Int.mul_le_mul_of_nonneg_right hp hb
  unfold betN
  refine ⟨(up_ge h (by omega)).2 ?_, (up_iff h (by omega)).2 ?_⟩
  · rw [Int.sub_mul, Int.mul_add]; omega
  · rw [Int.mul_add]; omega
theorem betN_zero {w p : Int} (hw : 0 ≤ w) (hp : 0 ≤ p) : betN w p 0 = w := by
  have h := betN_nn hw hp (Int.le_refl 0)
  have h1 : betN w p 0 ≤ w := by unfold betN; exact (up_iff h (by omega)).2 (by omega)
  have h2 : w ≤ betN w p 0 := by unfold betN; exact (up_ge h (by omega)).2 (by omega)
  omega
theorem betN_mono {w p b w2 p2 b2 : Int} (hw : 0 ≤ w) (hp : w ≤ p) (hb : 0 ≤ b) (hww : w ≤ w2) (hpp : p ≤ p2) (hp2 : w2 ≤ p2) (hbb : b ≤ b2) : betN w p b ≤ betN w2 p2 b2 := by
  have hn := betN_bounds (w := w2) (p := p2) (b := b2) (by omega) hp2 (by omega)
  have hm := up_mul (x := w2 * 4096 + p2 * b2) (b := b2 + 4096) (betN_nn (by omega) (by omega) (by omega)) (by omega)
  change _ ≤ betN w2 p2 b2 * _ at hm
  rw [show betN w p b = upN (w * 4096 + p * b) (b + 4096) from rfl]
  generalize betN w2 p2 b2 = n at *
  refine (up_iff (betN_nn hw (by omega) hb) (by omega)).2 ?_
  have h1 := Int.mul_le_mul_of_nonneg_right hpp hb
  have h2 := Int.mul_le_mul_of_nonneg_left hbb (show 0 ≤ p2 - n by omega)
  rw [Int.sub_mul, Int.sub_mul] at h2
  rw [Int.mul_add] at hm ⊢
  omega
theorem betN_half {w p : Int} (hw : 0 ≤ w) (hp : w ≤ p) : betN w p 4096 = (p + w + 1).tdiv 2 := by
  have h := betN_nn hw (show 0 ≤ p by omega) (show (0 : Int) ≤ 4096 by omega)
  have hm := up_mul (b := 4096 + 4096) h (by omega)
  have hl := up_less (b := 4096 + 4096) h (by omega)
  change _ ≤ betN w p 4096 * _ at hm
  change (betN w p 4096 - 1) * _ < _ at hl
  rw [Int.tdiv_eq_ediv_of_nonneg (by omega)]
  generalize betN w p 4096 = n at *
  omega

/-- What a contract costs. -/
def needN (k p e w b l : Int) : Int := bif okB k p e w b l then (bif k == 1 then perN p else bif vbrB k then betN (perN w) (perN p) b else bif k == 5 then perN l else 0) else 0
theorem needN_no {k p e w b l : Int} (h : okB k p e w b l = false) : needN k p e w b l = 0 := by unfold needN; rw [h]; rfl
theorem needN_one {p e w b l : Int} (h : okB 1 p e w b l = true) : needN 1 p e w b l = perN p := by unfold needN; rw [h]; rfl
theorem needN_five {p e w b l : Int} (h : okB 5 p e w b l = true) : needN 5 p e w b l = perN l := by unfold needN; rw [h]; rfl
theorem needN_vbr {k p e w b l : Int} (h : okB k p e w b l = true) (hv : vbrB k = true) : needN k p e w b l = betN (perN w) (perN p) b := by
  unfold needN
  rw [h, hv, show (k == 1) = false by rw [vbrB_iff] at hv; exact beq_false_of_ne (by omega)]
  rfl
theorem needN_other {k p e w b l : Int} (h1 : k ≠ 1) (h5 : k ≠ 5) (hv : vbrB k = false) : needN k p e w b l = 0 := by
  unfold needN
  rw [beq_false_of_ne h1, beq_false_of_ne h5, hv]
  cases okB k p e w b l <;> rfl
theorem ok_vbr {k p e w b l : Int} (h : okB k p e w b l = true) (hv : vbrB k = true) : (1 ≤ p ∧ p ≤ 1099511627776) ∧ (p ≤ w ∧ w ≤ 1099511627776) ∧ (0 ≤ b ∧ b ≤ 1099511627776) := by
  rw [okB_iff, canB_vbr hv] at h
  omega
theorem ok_pers {k p e w b l : Int} (h : okB k p e w b l = true) (hv : vbrB k = true) : 0 ≤ perN w ∧ perN w ≤ perN p ∧ perN p ≤ 1048576 := by
  have := ok_vbr h hv
  exact ⟨(perN_bounds w).1, perN_anti this.1.1 this.2.1.1, (perN_bounds p).2⟩
theorem need_le {k p e w b l : Int} (h : okB k p e w b l = true) : 0 ≤ needN k p e w b l ∧ needN k p e w b l ≤ perN p := by
  have hp := can_bounds h
  have h0 := perN_bounds p
  by_cases h1 : k = 1
  · subst h1; rw [needN_one h]; omega
  · cases hv : vbrB k
    · by_cases h5 : k = 5
      · subst h5
        rw [needN_five h]
        have h2 := h
        rw [okB_iff, canB_plain hv] at h2
        refine ⟨(perN_bounds l).1, ?_⟩
        rcases h2.2.2.2.2.2 with rfl | ⟨_, h3, _⟩
        · rw [perN_no (by decide)]; omega
        · exact perN_anti hp.1 h3
      · rw [needN_other h1 h5 hv]; omega
    · rw [needN_vbr h hv]
      have hq := ok_pers h hv
      have := betN_bounds hq.1 hq.2.1 (ok_vbr h hv).2.2.1
      omega
theorem need_bounds (k p e w b l : Int) : 0 ≤ needN k p e w b l ∧ needN k p e w b l ≤ 1048576 := by
  cases h : okB k p e w b l
  · rw [needN_no h]; omega
  · have := need_le h
    have := perN_bounds p
    omega
theorem need_few {k p e w b l k2 p2 e2 w2 b2 l2 : Int} (h : fewB k p e w b l k2 p2 e2 w2 b2 l2 = true) : needN k p e w b l ≤ needN k2 p2 e2 w2 b2 l2 := by
  unfold fewB at h
  simp only [Bool.and_eq_true, beq_iff_eq, decide_eq_true_eq] at h
  obtain ⟨⟨⟨⟨⟨⟨⟨ho, ho2⟩, rfl⟩, rfl⟩, hp⟩, hw⟩, he⟩, hb⟩ := h
  have hc2 := can_bounds ho2
  by_cases h1 : k = 1
  · subst h1; rw [needN_one ho, needN_one ho2]; exact perN_anti hc2.1 hp
  · cases hv : vbrB k
    · by_cases h5 : k = 5
      · subst h5; rw [needN_five ho, needN_five ho2]; exact Int.le_refl _
      · rw [needN_other h1 h5 hv, needN_other h1 h5 hv]; exact Int.le_refl _
    · rw [needN_vbr ho hv, needN_vbr ho2 hv]
      have q := ok_pers ho hv
      have q2 := ok_pers ho2 hv
      have a := ok_vbr ho hv
      have a2 := ok_vbr ho2 hv
      exact betN_mono q.1 q.2.1 a.2.2.1 (perN_anti (by omega) hw) (perN_anti hc2.1 hp) q2.2.1 hb
end Go.Proofs.Ythmcnllkngheoaa
