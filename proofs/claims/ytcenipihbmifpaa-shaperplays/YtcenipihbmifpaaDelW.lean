/- Proved here: slices.DeleteFunc at slices of changes, with the function that come hands in. Conditions: as each theorem states them. -/
import Derived.Test.YtcenipihbmifpaaDel
namespace Go.Proofs.Ytcenipihbmifpaa
set_option linter.unusedSimpArgs false
set_option linter.unusedVariables false
open Go.RowKit Go.Shelf

set_option maxHeartbeats 2000000 in
theorem delete_calls (w : World) (a : Option Addr) (n c : Nat) (L : List (Int × Int)) (hv : CS 64 0 w a n c L) (hn : n ≤ 8) (b : Nat) (t : Int) (hb : BK w b #[.int .i64 t] 3) :
    Calls Try.prog 33 #[.slice a n c, .func (.func 34) #[] #[.pointer (some ⟨b, 0, none⟩)]] w fun e w' => ∃ m, e = .returned (.slice a m c) ∧ CS 64 0 w' a m c (lfN L t) ∧ w.grownBy w' (Value.slice a n c).ownBlock := by
  have HnL : Hid (n = L.length) := hv.1
  have hIF := index_calls w a n c L hv hn b t hb
  go_enter Try.func33, Try.ntmps33
  go_wp2_with fail
  refine hIF.mono ?_
  rintro e w1 ⟨b1, ⟨rfl, hall⟩ | ⟨k, x, rfl, hx, hxt, hall⟩⟩
  · have HA : Hid (∀ (j : Nat) (y : Int × Int), L[j]? = some y → t < y.2) := hall
    clear hall hIF
    go_wp2
    go_ret
    refine ⟨n, rfl, ?_, gb_below b1 (Nat.le_refl _)⟩
    rw [lfN_all (fun y hy => by obtain ⟨j, hj⟩ := List.getElem?_of_mem hy; exact HA.out j y hj)]
    exact hv.below b1 (Nat.le_refl _)
  · have hkn : k < n := by have := (List.getElem?_eq_some_iff.1 hx).1; have := HnL.out; omega
    have hne1 : ((k : Int) == -1) = false := beq_eq_false_iff_ne.2 (by omega)
    obtain ⟨g, rfl, _⟩ := hv.cell hx
    have hbg : b ≠ g := fun e => by
      subst e
      obtain ⟨g', cur, e1, _, hh, _⟩ := hv.block
      cases e1
      have := (show w.heap[b]? = _ from hb).symm.trans hh
      simp at this
    have HST : Hid (L.take k = lfN (L.take (k + 1)) t) := by
      show L.take k = _
      rw [List.take_add_one, hx, show (some x).toList = [x] from rfl, lfN_snoc, if_neg (by omega), List.append_nil, lfN_all (fun y hy => ?_)]
      obtain ⟨j, hj⟩ := List.getElem?_of_mem hy
      rw [List.getElem?_take] at hj
      split at hj
      · exact hall j y (by assumption) hj
      · cases hj
    have HV : Hid (CS 64 0 w1 (some ⟨g, 0, none⟩) n c L) := hv.below b1 (Nat.le_refl _)
    have HBK := hb.below b1 hb.lt
    have HG : w.grownBy w1 (some g) := gb_below b1 (Nat.le_refl _)
    clear hall hx hxt hIF hv hb b1
    go_wp2
    go_loopw [5, 6] (fun iv jv wr => ∃ (i j : Nat) (X : List (Int × Int)), i < j ∧ j ≤ n ∧ iv = .int .i64 i ∧ jv = .int .i64 j ∧ CS 64 0 wr (some ⟨g, 0, none⟩) n c X ∧ X.take i = lfN (L.take j) t ∧ (∀ m, j ≤ m → X[m]? = L[m]?) ∧ BK wr b #[.int .i64 t] 3 ∧ w.grownBy wr (some g)) (fun _ jv _ => n - (intOf jv).toNat)
    case atStart => exact ⟨k, k + 1, L, by omega, by omega, rfl, by go_num, HV.out, HST.out, fun _ _ => rfl, HBK, HG⟩
    case round =>
      obtain ⟨i, j, X, hij, hj, rfl, rfl, o2, hX, hL, K2, g2⟩ := hrel
      have HX : Hid (X.take i = lfN (L.take j) t) := hX
      have HL : Hid (∀ m, j ≤ m → X[m]? = L[m]?) := hL
      clear hX hL HBK HG
      by_cases hlt : j < n
      · obtain ⟨x, hx⟩ : ∃ x, X[j]? = some x := ⟨_, List.getElem?_eq_getElem (by have := o2.1; omega)⟩
        have HXj : Hid (X[j]? = some x) := hx
        obtain ⟨y, hy⟩ : ∃ y, X[i]? = some y := ⟨_, List.getElem?_eq_getElem (by have := o2.1; omega)⟩
        obtain ⟨g', e1, c1, c2⟩ := o2.cell hx
        cases e1
        obtain ⟨g', e1, c3, c4⟩ := o2.cell hy
        cases e1
        have HXl : Hid (n = X.length) := o2.1
        have HLj : Hid (L.take (j + 1) = L.take j ++ [x]) := by show L.take (j + 1) = _; rw [List.take_add_one, ← HL.out j (Nat.le_refl _), hx]; rfl
        have gl := o2.lt.2
        have f0 : ∀ m, wr.frozen? ⟨g, m, none⟩ = false := fun m => o2.frozen
        clear hx hy
        go_wp2_with fail
        refine (gone_calls _ x b t (BK.alloc K2 _)).mono ?_
        rintro e w3 ⟨rfl, b3⟩
        have K3 := (BK.alloc K2 (.cells #[.int .i64 x.1, .int .i64 x.2] 64)).below b3 (BK.alloc K2 _).lt
        have E3 := (bk_new wr #[.int .i64 x.1, .int .i64 x.2] 64).below b3 (by simp)
        have G3 := gb_trans (gb_alloc wr (some g) (.cells #[.int .i64 x.1, .int .i64 x.2] 64)) (gb_below b3 (Nat.le_refl _))
        have o3 := (o2.below ((Below.refl _ wr).alloc (Nat.le_refl _) (.cells #[.int .i64 x.1, .int .i64 x.2] 64)) (Nat.le_refl _)).below b3 (Nat.le_refl _)
        have GW := gb_trans g2 G3
        clear c1 c2 c3 c4 o2 f0 K2 b3 g2 G3
        by_cases hxt : x.2 ≤ t
        · have hdx : decide (x.2 ≤ t) = true := decide_eq_true hxt
          have HT : Hid (x.2 ≤ t) := hxt
          clear hxt
          rw [hdx]
          go_wp2
          go_roundw
          case rel => exact ⟨i, j + 1, X, by omega, by omega, rfl, by go_num, o3, by rw [HX.out, HLj.out, lfN_snoc, if_neg (by have := HT.out; omega), List.append_nil], fun m hm => HL.out m (by omega), K3, GW⟩
          case measure => simp [intOf]; omega
        · have hdx : decide (x.2 ≤ t) = false := decide_eq_false hxt
          have HT : Hid (¬ x.2 ≤ t) := hxt
          clear hxt
          rw [hdx]
          obtain ⟨y, hy⟩ : ∃ y, X[i]? = some y := ⟨_, List.getElem?_eq_getElem (by have := HXl.out; omega)⟩
          obtain ⟨g', e1, c3, c4⟩ := o3.cell hy
          cases e1
          have f0 : ∀ m, w3.frozen? ⟨g, m, none⟩ = false := fun m => o3.frozen
          have e1 := E3.cell 0 _ rfl
          have e2 := E3.cell 1 _ rfl
          clear hy E3
          go_wp2
          go_roundw
          case rel => exact ⟨i + 1, j + 1, X.set i x, by omega, by omega, by go_num, by go_num, o3.store i x, by rw [take_set_snoc X i x (by have := HXl.out; omega), HX.out, HLj.out, lfN_snoc, if_pos (by have := HT.out; omega)], fun m hm => by rw [List.getElem?_set_ne (by omega)]; exact HL.out m (by omega), BK.gb (BK.gb K3 (gb_set _ rfl _) (by simp; exact hbg)) (gb_set _ rfl _) (by simp; exact hbg), gb_trans (gb_trans GW (gb_set _ rfl _)) (gb_set _ rfl _)⟩
          case measure => simp [intOf]; omega
      · obtain rfl : j = n := by omega
        obtain ⟨w4, hcl, o4, g4⟩ := cs_clear o2 (i := i) (by omega)
        have ⟨hjc, hcm⟩ : j ≤ c ∧ c ≤ maxLen := by obtain ⟨_, _, _, _, _, h1, h2, _⟩ := o2.block; exact ⟨h1, h2⟩
        have hc63 : c ≤ 9223372036854775807 := by unfold maxLen at hcm; omega
        have hci : ¬ (c = i) := by omega
        clear hcm
        go_wp2
        go_ret
        refine ⟨i, rfl, ?_, gb_trans g2 g4⟩
        have h := HX.out
        rw [HnL.out, List.take_length] at h
        rw [← h]
        exact o4
end Go.Proofs.Ytcenipihbmifpaa
