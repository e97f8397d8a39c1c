/- Proved here: shaper.sorted, at the order that Step hands in. Conditions: as each theorem states them. -/
import Derived.Test.YtcenipihbmifpaaInsG
import Derived.Test.YtcenipihbmifpaaPl
namespace Go.Proofs.Ytcenipihbmifpaa
set_option linter.unusedSimpArgs false
set_option linter.unusedVariables false
open Go.RowKit Go.Shelf

theorem less_calls (w : World) (x y : Int × Int) : Calls Try.prog 29 #[.agg #[.int .i64 x.1, .int .i64 x.2], .agg #[.int .i64 y.1, .int .i64 y.2]] w fun e w' => e = .returned (.bool (decide (x.2 < y.2))) ∧ Below w.heap.size w w' := by
  go_enter Try.func29, Try.ntmps29
  go_wp2
  go_ret
  exact ⟨rfl, by first | exact ((Below.refl _ w).alloc (Nat.le_refl _) _).alloc (by simp) _ | exact (Below.refl _ w).alloc (Nat.le_refl _) _⟩

set_option maxHeartbeats 2000000 in
theorem sorted_calls (w : World) (a : Option Addr) (n c : Nat) (L : List (Int × Int)) (hv : CS 64 0 w a n c L) (hn : n ≤ 8) :
    Calls Try.prog 28 #[.slice a n c, .func (.func 29) #[] #[]] w fun e w' => ∃ a' c', e = .returned (.slice a' n c') ∧ CS 64 w.heap.size w' a' n c' (sortC L) ∧ Below w.heap.size w w' := by
  have hnL : n = L.length := hv.1
  have HnL : Hid (n = L.length) := hnL
  clear hnL
  go_enter Try.func28, Try.ntmps28
  go_wp2
  go_step3
  go_wp2
  go_step3
  go_wp2
  go_loopw [5, 12] (fun ov iv wr => ∃ (k : Nat) (a' : Option Addr) (c' : Nat), k ≤ n ∧ iv = .int .i64 k ∧ ov = .slice a' k c' ∧ CS 64 w.heap.size wr a' k c' (sortC (L.take k)) ∧ Below w.heap.size w wr) (fun _ iv _ => n - (intOf iv).toNat)
  case atStart => exact ⟨0, none, 0, Nat.zero_le _, rfl, rfl, cs_nil _ _ _, Below.refl _ _⟩
  case round =>
    obtain ⟨k, a', c', hk, rfl, rfl, o1, b1⟩ := hrel
    by_cases hlt : k < n
    · obtain ⟨x, hx⟩ : ∃ x, L[k]? = some x := ⟨_, List.getElem?_eq_getElem (by have := HnL.out; omega)⟩
      obtain ⟨g, rfl, c1, c2⟩ := (hv.below b1 (Nat.le_refl _)).cell hx
      have hS1 : sortC (L.take (k + 1)) = insC x (sortC (L.take k)) := by rw [List.take_add_one, hx]; exact sortC_snoc _ _
      have HS1 : Hid (sortC (L.take (k + 1)) = insC x (sortC (L.take k))) := hS1
      have Hk : Hid (k ≤ n) := hk
      have hlS : (sortC (L.take k)).length = k := o1.1.symm
      obtain ⟨S, hS⟩ : ∃ S, sortC (L.take k) = S := ⟨_, rfl⟩
      rw [hS] at o1 hlS
      rw [hS] at HS1
      clear hx hS1 hk hS
      go_wp2
      go_loopw [5, 18] (fun ov iv wr' => ∃ (i : Nat), i ≤ k ∧ ov = .slice a' k c' ∧ iv = .int .i64 i ∧ BK wr' wr.heap.size #[.int .i64 x.1, .int .i64 x.2] 64 ∧ CS 64 w.heap.size wr' a' k c' S ∧ (∀ j y, j < i → S[j]? = some y → y.2 ≤ x.2) ∧ Below w.heap.size w wr') (fun _ iv _ => k - (intOf iv).toNat)
      case atStart => exact ⟨0, Nat.zero_le _, rfl, rfl, bk_new _ _ _, o1.below ((Below.refl _ wr).alloc (Nat.le_refl _) _) (Nat.le_refl _), fun j y hj => absurd hj (Nat.not_lt_zero _), b1.alloc b1.size _⟩
      case round =>
        obtain ⟨i, hi, rfl, rfl, K2, o2, hb2, b2⟩ := hrel
        have HB2 : Hid (∀ j y, j < i → S[j]? = some y → y.2 ≤ x.2) := hb2
        clear o1 b1 c1 c2 hb2
        by_cases hil : i < k
        · obtain ⟨o, ho⟩ : ∃ o, S[i]? = some o := ⟨_, List.getElem?_eq_getElem (by omega)⟩
          have HO : Hid (S[i]? = some o) := ho
          obtain ⟨g', rfl, d1, d2⟩ := o2.cell ho
          have k1 := K2.cell 0 _ rfl
          have k2 := K2.cell 1 _ rfl
          have kl := K2.lt
          clear ho
          go_wp2_with fail
          refine (less_calls _ x o).mono ?_
          rintro e w3 ⟨rfl, b3⟩
          have K3 := (BK.alloc K2 (.cells #[.int .i64 o.1, .int .i64 o.2] 64)).below b3 (BK.alloc K2 _).lt
          have o3 := (o2.below ((Below.refl _ wr).alloc (Nat.le_refl _) (.cells #[.int .i64 o.1, .int .i64 o.2] 64)) (Nat.le_refl _)).below b3 (Nat.le_refl _)
          have B3 : Below w.heap.size w w3 := (b2.alloc b2.size _).trans (b3.mono (by have := b2.size; simp; omega))
          clear K2 o2 b2 b3 d1 d2 k1 k2 kl
          have k1 := K3.cell 0 _ rfl
          have k2 := K3.cell 1 _ rfl
          have kl := K3.lt
          by_cases hxo : x.2 < o.2
          · have hdx : decide (x.2 < o.2) = true := decide_eq_true hxo
            have HX : Hid (x.2 < o.2) := hxo
            clear hxo
            rw [hdx]
            go_wp2_with fail
            refine (insert_calls _ w.heap.size (by have := B3.size; simp; omega) g' k c' S (o3.below ((Below.refl _ w3).alloc (Nat.le_refl _) _) (Nat.le_refl _)) (by omega) i hil x w3.heap.size (bk_new _ _ _) (by have := o3.lt.2; simp at this; omega)).mono ?_
            rintro e w4 ⟨g4, c4, rfl, o4, b4⟩
            have B4 : Below w.heap.size w w4 := (B3.alloc B3.size _).trans b4
            clear o3 B3 b4 k1 k2 kl K3
            go_wp2
            go_roundw
            case rel => exact ⟨k + 1, some ⟨g4, 0, none⟩, c4, by omega, by go_num, rfl, by rw [HS1.out, insC_at HO.out HX.out HB2.out]; exact o4, B4⟩
            case measure => simp [intOf]; omega
          · have hdx : decide (x.2 < o.2) = false := decide_eq_false hxo
            have HX : Hid (¬ x.2 < o.2) := hxo
            clear hxo
            rw [hdx]
            go_wp2
            go_roundw
            case rel => exact ⟨i + 1, by omega, rfl, by go_num, K3, o3, fun j y hj hy => by
              rcases Nat.lt_or_ge j i with h | h
              · exact HB2.out j y h hy
              · obtain rfl : j = i := (by omega)
                have := HO.out.symm.trans hy
                cases this
                have := HX.out
                omega, B3⟩
            case measure => simp [intOf]; omega
        · obtain rfl : i = k := by omega
          have k1 := K2.cell 0 _ rfl
          have k2 := K2.cell 1 _ rfl
          have kl := K2.lt
          have o2a := o2.below ((Below.refl _ wr).alloc (Nat.le_refl _) (.cells #[.int .i64 x.1, .int .i64 x.2] 64)) (Nat.le_refl _)
          obtain ⟨g4, c4, w4, hap, o4, gr4, _⟩ := run_app_c Try.underlying57 info_c (wr.alloc (.cells #[.int .i64 x.1, .int .i64 x.2] 64)) w.heap.size (by have := b2.size; simp; omega) a' i c' S o2a (by omega) 57 x wr.heap.size (bk_new _ _ _)
          have B4 : Below w.heap.size w w4 := (b2.alloc b2.size _).grown gr4 (by have := b2.size; simp; omega) (fun k e => (o2a.2.lt k e).1)
          clear o2a gr4
          go_wp2_with (at_builtin; refine wpList_app hap _ _ rfl rfl rfl rfl rfl ?_)
          go_roundw
          case rel => exact ⟨i + 1, some ⟨g4, 0, none⟩, c4, by omega, by go_num, rfl, by rw [HS1.out, insC_end (fun y hy => by obtain ⟨j, hj⟩ := List.getElem?_of_mem hy; exact HB2.out j y (by have := (List.getElem?_eq_some_iff.1 hj).1; omega) hj)]; exact o4, B4⟩
          case measure => simp [intOf]; omega
    · obtain rfl : k = n := by omega
      go_wp2
      rw [Exit.noGoto_ret]
      go_ret
      exact ⟨a', c', rfl, by have := o1; rw [HnL.out, List.take_length] at this; rw [HnL.out]; exact this, b1⟩
end Go.Proofs.Ytcenipihbmifpaa
