/- Proved here: what the document's Next answers. Conditions: as each theorem states them. -/
import Derived.Test.YtfkikbnokjbnhaaNx
namespace Go.Proofs.Ytfkikbnokjbnhaa
set_option linter.unusedSimpArgs false
set_option linter.unusedVariables false
open Go.RowKit

theorem use_eq {α : Type} {a b : α} {G : Prop} (h : a = b) (k : a = b → G) : G := k h
/-- Where the document's search has come to. -/
def InX (x l h : Nat) : Prop := 16384 ≤ l ∧ l ≤ h ∧ h ≤ 32767 ∧ scN l ≤ x ∧ (h = 32767 ∨ x < scN (h + 1))

set_option maxHeartbeats 4000000 in
theorem refnext_calls (now peak least : Nat) (h1 : now < 65536) (h2 : peak < 65536) (h3 : least < 65536) (r : Rm) (h : r.Ok) (w : World) : Calls Try.prog 18 #[.int .u16 (now : Int), .int .u16 (peak : Int), .int .u16 (least : Int), .agg (rmV r)] w fun e w' => (∃ c : Nat, e = .returned (.int .i64 (c : Int)) ∧ IsN (nextN now peak least r) c) ∧ Below w.heap.size w w' := by
  have A0 : Below w.heap.size w (w.alloc (.cells (rmV r) 25)) := (Below.refl _ w).alloc (Nat.le_refl _) _
  have K0 := bk_new w (rmV r) 25
  obtain ⟨_, _, c2, c3, _, c5, _⟩ := K0.rm
  have S1 := fun w => refscaled_calls now h1 w
  have S2 := fun w => refscaled_calls peak h2 w
  have S3 := fun w => refscaled_calls least h3 w
  have S4 := fun w => refscaled_calls r.er h.er w
  have l1 := scN_le now
  have l2 := scN_le peak
  have l3 := scN_le least
  have l4 := scN_le r.er
  have HN : Hid (nextN now peak least r = max (min (min (if r.ci = true then scN now - scN now / 16 else if r.ni = true then scN now else scN now + scN peak / 16) (scN r.er)) (scN peak)) (scN least)) := rfl
  generalize nextN now peak least r = X at *
  generalize scN now = s1 at *
  generalize scN peak = s2 at *
  generalize scN least = s3 at *
  generalize scN r.er = s4 at *
  have h4 := h.er
  clear h K0
  generalize hW : w.alloc (.cells (rmV r) 25) = W at *
  have i1 : (s1 : Int) ≤ 2196875771904 := by omega
  have i2 : (s2 : Int) ≤ 2196875771904 := by omega
  have i3 : (s3 : Int) ≤ 2196875771904 := by omega
  have i4 : (s4 : Int) ≤ 2196875771904 := by omega
  clear l1 l2 l3 l4
  go_enter Try.func18, Try.ntmps18
  go_wp2_with fail
  refine (S1 _).mono ?_
  rintro e w1 ⟨rfl, rfl⟩
  go_wp2_with fail
  refine (S2 _).mono ?_
  rintro e w1 ⟨rfl, rfl⟩
  cases hci : r.ci with
  | true =>
    rw [hci] at c2 HN
    rw [if_pos rfl] at HN
    have e1 : (s1 : Int) - (s1 : Int) / 16 = ((s1 - s1 / 16 : Nat) : Int) := by omega
    have e2 : wrap64 ((s1 : Int) - (s1 : Int) / 16) = ((s1 - s1 / 16 : Nat) : Int) := by unfold wrap64; omega
    have l5 : ((s1 - s1 / 16 : Nat) : Int) ≤ 2196875771904 := by omega
    generalize s1 - s1 / 16 = y at *
    go_wp2_with fail
    clear i1 i2 i3 i4 l5
    refine (S4 _).mono ?_
    rintro e w1 ⟨rfl, rfl⟩
    go_wp2_with fail
    all_goals
      refine (S3 _).mono ?_
      rintro e w1 ⟨rfl, rfl⟩
      go_wp2
    all_goals first
      | (refine use_eq (a := X) (b := y) ?_ (fun hz => ?_); (have h5 := HN.out; omega); subst hz)
      | (refine use_eq (a := X) (b := s4) ?_ (fun hz => ?_); (have h5 := HN.out; omega); subst hz)
      | (refine use_eq (a := X) (b := s2) ?_ (fun hz => ?_); (have h5 := HN.out; omega); subst hz)
      | (refine use_eq (a := X) (b := s3) ?_ (fun hz => ?_); (have h5 := HN.out; omega); subst hz)
    all_goals clear HN S1 S2 S3 S4
    all_goals first
      | (go_ret; exact ⟨⟨0, rfl, .inl ⟨by omega, rfl⟩⟩, A0⟩)
      | skip
    all_goals
      have h512 : 512 ≤ X := by omega
      have HS : Hid (InX X 16384 32767) := ⟨by decide, by decide, by decide, by rw [show scN 16384 = 512 by decide]; exact h512, .inl rfl⟩
      have H5 : Hid (512 ≤ X) := h512
      clear h512
      go_loopw [12, 13] (fun lv hv wr => ∃ l h : Nat, lv = .int .i64 l ∧ hv = .int .i64 h ∧ l ≤ h ∧ h ≤ 32767 ∧ Hid (InX X l h) ∧ Below w.heap.size w wr) (fun lv hv _ => (intOf hv).toNat - (intOf lv).toNat)
      case atStart => exact ⟨16384, 32767, rfl, rfl, by decide, by decide, HS, A0⟩
      case round =>
        obtain ⟨lo, hi, rfl, rfl, g1, g2, hI, bel⟩ := hrel
        by_cases hlt : lo < hi
        · obtain ⟨m, hm⟩ : ∃ m, (lo + hi + 1) / 2 = m := ⟨_, rfl⟩
          have hmi : ((lo : Int) + (hi : Int) + 1) / 2 = (m : Int) := by omega
          have hml : lo < m ∧ m ≤ hi := by omega
          have HC := refscaled_calls m (by omega) wr
          by_cases hx : scN m ≤ X
          · have HI : Hid (InX X m hi) := by
              obtain ⟨q1, q2, q3, q4, q5⟩ := hI.out
              exact ⟨by omega, hml.2, q3, hx, q5⟩
            have hxi : decide ((scN m : Int) ≤ (X : Int)) = true := by simp; omega
            have hxj : (scN m : Int) ≤ (X : Int) := by omega
            generalize scN m = sm at *
            clear hx hI hm
            go_wp2_with fail
            refine HC.mono ?_
            rintro e w2 ⟨rfl, rfl⟩
            go_wp2
            go_roundw
            case rel => exact ⟨m, hi, rfl, rfl, hml.2, g2, HI, bel⟩
            case measure => simp [intOf]; omega
          · have HI : Hid (InX X lo (m - 1)) := by
              obtain ⟨q1, q2, q3, q4, q5⟩ := hI.out
              exact ⟨q1, by omega, by omega, q4, .inr (by rw [show m - 1 + 1 = m by omega]; omega)⟩
            have hxj : (X : Int) < (scN m : Int) := by omega
            have hm1 : (m : Int) - 1 = ((m - 1 : Nat) : Int) := by omega
            generalize scN m = sm at *
            clear hx hI hm
            go_wp2_with fail
            refine HC.mono ?_
            rintro e w2 ⟨rfl, rfl⟩
            go_wp2
            go_roundw
            case rel => exact ⟨lo, m - 1, rfl, by go_num, by omega, by omega, HI, bel⟩
            case measure => simp [intOf]; omega
        · obtain rfl : hi = lo := by omega
          have HC : Hid (IsN X hi) := by
            obtain ⟨q1, q2, q3, q4, q5⟩ := hI.out
            exact .inr ⟨H5.out, q1, by omega, q4, q5⟩
          clear hI
          go_wp2
          go_ret
          exact ⟨⟨hi, rfl, HC.out⟩, bel⟩
  | false =>
    rw [hci] at c2 HN
    rw [if_neg (by decide)] at HN
    cases hni : r.ni with
    | true =>
      rw [hni] at c3 HN
      rw [if_pos rfl] at HN
      have l5 := i1
      go_wp2_with fail
      clear i1 i2 i3 i4 l5
      refine (S4 _).mono ?_
      rintro e w1 ⟨rfl, rfl⟩
      go_wp2_with fail
      all_goals
        refine (S3 _).mono ?_
        rintro e w1 ⟨rfl, rfl⟩
        go_wp2
      all_goals first
        | (refine use_eq (a := X) (b := s1) ?_ (fun hz => ?_); (have h5 := HN.out; omega); subst hz)
        | (refine use_eq (a := X) (b := s4) ?_ (fun hz => ?_); (have h5 := HN.out; omega); subst hz)
        | (refine use_eq (a := X) (b := s2) ?_ (fun hz => ?_); (have h5 := HN.out; omega); subst hz)
        | (refine use_eq (a := X) (b := s3) ?_ (fun hz => ?_); (have h5 := HN.out; omega); subst hz)
      all_goals clear HN S1 S2 S3 S4
      all_goals first
        | (go_ret; exact ⟨⟨0, rfl, .inl ⟨by omega, rfl⟩⟩, A0⟩)
        | skip
      all_goals
        have h512 : 512 ≤ X := by omega
        have HS : Hid (InX X 16384 32767) := ⟨by decide, by decide, by decide, by rw [show scN 16384 = 512 by decide]; exact h512, .inl rfl⟩
        have H5 : Hid (512 ≤ X) := h512
        clear h512
        go_loopw [12, 13] (fun lv hv wr => ∃ l h : Nat, lv = .int .i64 l ∧ hv = .int .i64 h ∧ l ≤ h ∧ h ≤ 32767 ∧ Hid (InX X l h) ∧ Below w.heap.size w wr) (fun lv hv _ => (intOf hv).toNat - (intOf lv).toNat)
        case atStart => exact ⟨16384, 32767, rfl, rfl, by decide, by decide, HS, A0⟩
        case round =>
          obtain ⟨lo, hi, rfl, rfl, g1, g2, hI, bel⟩ := hrel
          by_cases hlt : lo < hi
          · obtain ⟨m, hm⟩ : ∃ m, (lo + hi + 1) / 2 = m := ⟨_, rfl⟩
            have hmi : ((lo : Int) + (hi : Int) + 1) / 2 = (m : Int) := by omega
            have hml : lo < m ∧ m ≤ hi := by omega
            have HC := refscaled_calls m (by omega) wr
            by_cases hx : scN m ≤ X
            · have HI : Hid (InX X m hi) := by
                obtain ⟨q1, q2, q3, q4, q5⟩ := hI.out
                exact ⟨by omega, hml.2, q3, hx, q5⟩
              have hxi : decide ((scN m : Int) ≤ (X : Int)) = true := by simp; omega
              have hxj : (scN m : Int) ≤ (X : Int) := by omega
              generalize scN m = sm at *
              clear hx hI hm
              go_wp2_with fail
              refine HC.mono ?_
              rintro e w2 ⟨rfl, rfl⟩
              go_wp2
              go_roundw
              case rel => exact ⟨m, hi, rfl, rfl, hml.2, g2, HI, bel⟩
              case measure => simp [intOf]; omega
            · have HI : Hid (InX X lo (m - 1)) := by
                obtain ⟨q1, q2, q3, q4, q5⟩ := hI.out
                exact ⟨q1, by omega, by omega, q4, .inr (by rw [show m - 1 + 1 = m by omega]; omega)⟩
              have hxj : (X : Int) < (scN m : Int) := by omega
              have hm1 : (m : Int) - 1 = ((m - 1 : Nat) : Int) := by omega
              generalize scN m = sm at *
              clear hx hI hm
              go_wp2_with fail
              refine HC.mono ?_
              rintro e w2 ⟨rfl, rfl⟩
              go_wp2
              go_roundw
              case rel => exact ⟨lo, m - 1, rfl, by go_num, by omega, by omega, HI, bel⟩
              case measure => simp [intOf]; omega
          · obtain rfl : hi = lo := by omega
            have HC : Hid (IsN X hi) := by
              obtain ⟨q1, q2, q3, q4, q5⟩ := hI.out
              exact .inr ⟨H5.out, q1, by omega, q4, q5⟩
            clear hI
            go_wp2
            go_ret
            exact ⟨⟨hi, rfl, HC.out⟩, bel⟩
    | false =>
      rw [hni] at c3 HN
      rw [if_neg (by decide)] at HN
      have e1 : (s1 : Int) + (s2 : Int) / 16 = ((s1 + s2 / 16 : Nat) : Int) := by omega
      have l5 : ((s1 + s2 / 16 : Nat) : Int) ≤ 4393751543808 := by omega
      generalize s1 + s2 / 16 = y at *
      go_wp2_with fail
      clear i1 i2 i3 i4 l5
      refine (S4 _).mono ?_
      rintro e w1 ⟨rfl, rfl⟩
      go_wp2_with fail
      all_goals
        refine (S3 _).mono ?_
        rintro e w1 ⟨rfl, rfl⟩
        go_wp2
      all_goals first
        | (refine use_eq (a := X) (b := y) ?_ (fun hz => ?_); (have h5 := HN.out; omega); subst hz)
        | (refine use_eq (a := X) (b := s4) ?_ (fun hz => ?_); (have h5 := HN.out; omega); subst hz)
        | (refine use_eq (a := X) (b := s2) ?_ (fun hz => ?_); (have h5 := HN.out; omega); subst hz)
        | (refine use_eq (a := X) (b := s3) ?_ (fun hz => ?_); (have h5 := HN.out; omega); subst hz)
      all_goals clear HN S1 S2 S3 S4
      all_goals first
        | (go_ret; exact ⟨⟨0, rfl, .inl ⟨by omega, rfl⟩⟩, A0⟩)
        | skip
      all_goals
        have h512 : 512 ≤ X := by omega
        have HS : Hid (InX X 16384 32767) := ⟨by decide, by decide, by decide, by rw [show scN 16384 = 512 by decide]; exact h512, .inl rfl⟩
        have H5 : Hid (512 ≤ X) := h512
        clear h512
        go_loopw [12, 13] (fun lv hv wr => ∃ l h : Nat, lv = .int .i64 l ∧ hv = .int .i64 h ∧ l ≤ h ∧ h ≤ 32767 ∧ Hid (InX X l h) ∧ Below w.heap.size w wr) (fun lv hv _ => (intOf hv).toNat - (intOf lv).toNat)
        case atStart => exact ⟨16384, 32767, rfl, rfl, by decide, by decide, HS, A0⟩
        case round =>
          obtain ⟨lo, hi, rfl, rfl, g1, g2, hI, bel⟩ := hrel
          by_cases hlt : lo < hi
          · obtain ⟨m, hm⟩ : ∃ m, (lo + hi + 1) / 2 = m := ⟨_, rfl⟩
            have hmi : ((lo : Int) + (hi : Int) + 1) / 2 = (m : Int) := by omega
            have hml : lo < m ∧ m ≤ hi := by omega
            have HC := refscaled_calls m (by omega) wr
            by_cases hx : scN m ≤ X
            · have HI : Hid (InX X m hi) := by
                obtain ⟨q1, q2, q3, q4, q5⟩ := hI.out
                exact ⟨by omega, hml.2, q3, hx, q5⟩
              have hxi : decide ((scN m : Int) ≤ (X : Int)) = true := by simp; omega
              have hxj : (scN m : Int) ≤ (X : Int) := by omega
              generalize scN m = sm at *
              clear hx hI hm
              go_wp2_with fail
              refine HC.mono ?_
              rintro e w2 ⟨rfl, rfl⟩
              go_wp2
              go_roundw
              case rel => exact ⟨m, hi, rfl, rfl, hml.2, g2, HI, bel⟩
              case measure => simp [intOf]; omega
            · have HI : Hid (InX X lo (m - 1)) := by
                obtain ⟨q1, q2, q3, q4, q5⟩ := hI.out
                exact ⟨q1, by omega, by omega, q4, .inr (by rw [show m - 1 + 1 = m by omega]; omega)⟩
              have hxj : (X : Int) < (scN m : Int) := by omega
              have hm1 : (m : Int) - 1 = ((m - 1 : Nat) : Int) := by omega
              generalize scN m = sm at *
              clear hx hI hm
              go_wp2_with fail
              refine HC.mono ?_
              rintro e w2 ⟨rfl, rfl⟩
              go_wp2
              go_roundw
              case rel => exact ⟨lo, m - 1, rfl, by go_num, by omega, by omega, HI, bel⟩
              case measure => simp [intOf]; omega
          · obtain rfl : hi = lo := by omega
            have HC : Hid (IsN X hi) := by
              obtain ⟨q1, q2, q3, q4, q5⟩ := hI.out
              exact .inr ⟨H5.out, q1, by omega, q4, q5⟩
            clear hI
            go_wp2
            go_ret
            exact ⟨⟨hi, rfl, HC.out⟩, bel⟩
end Go.Proofs.Ytfkikbnokjbnhaa
