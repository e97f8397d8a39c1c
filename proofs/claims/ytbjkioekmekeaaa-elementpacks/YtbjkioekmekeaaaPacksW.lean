/- Proved here: the walk of ElementPacks. Conditions: as the theorem states them. -/
import Derived.Test.YtbjkioekmekeaaaAw
import Derived.Test.YtbjkioekmekeaaaAny
import Derived.Test.YtbjkioekmekeaaaFd
namespace Go.Proofs.Ytbjkioekmekeaaa
set_option linter.unusedSimpArgs false
set_option linter.unusedVariables false
open Go.RowKit Go.Shelf

theorem pkB_len (L : List El) (h : ∀ x ∈ L, x.body.length ≤ 300) : (pkB L).length ≤ L.length * 304 := by
  unfold pkB
  split
  · exact bytesE_length_le L h
  · simp
theorem idB_nat (id : UInt8) (x : El) : ((x.id.toNat : Int) == (id.toNat : Int)) = idB id x := by
  unfold idB
  rw [Bool.eq_iff_iff, beq_iff_eq, beq_iff_eq, ← UInt8.toNat_inj]
  omega

set_option maxHeartbeats 4000000 in
theorem packs_walk (W : World) (a0 : Option Addr) (l0 k0 : Nat) (L : List El) (I0 : IsI W.heap.size W a0 l0 L) (m0 : l0 ≤ maxLen) (c0 : l0 ≤ k0) (a1 : Option Addr) (l1 k1 : Nat) (bs : List UInt8) (I1 : IsB W.heap.size W a1 l1 bs) (c1 : l1 ≤ k1) (id : UInt8) :
    Calls Try.prog 3 #[.slice a0 l0 k0, .slice a1 l1 k1, .int .u8 (id.toNat : Int)] W fun e w' => e = .returned (.bool true) ∧ Below W.heap.size W w' := by
  have HA := fun w => awake_calls w
  go_enter Try.func3, Try.ntmps3
  go_wp2_with fail
  refine (HA _).mono ?_
  rintro e w1 ⟨rfl, b1⟩
  have HF := few_calls a0 l0 k0 L w1 (I0.below b1 (Nat.le_refl _)) b1.size m0
  cases hf : fewB L
  · rw [hf] at HF
    have h6 := True.intro
    clear h6
    go_wp2_with fail
    refine HF.mono ?_
    rintro e w2 ⟨rfl, b2⟩
    have B2 := b1.trans (b2.mono b1.size)
    go_wp2_with fail
    refine (HA _).mono ?_
    rintro e w3 ⟨rfl, b3⟩
    go_wp2
    go_ret
    exact ⟨rfl, B2.trans (b3.mono B2.size)⟩
  rw [hf] at HF
  obtain ⟨h300, h20⟩ := fewB_iff.1 hf
  clear hf
  by_cases h6 : 600 < l1
  · have q1 : decide (600 < (l1 : Int)) = true := by simp; omega
    clear h6
    go_wp2_with fail
    refine HF.mono ?_
    rintro e w2 ⟨rfl, b2⟩
    have B2 := b1.trans (b2.mono b1.size)
    go_wp2_with fail
    refine (HA _).mono ?_
    rintro e w3 ⟨rfl, b3⟩
    go_wp2
    go_ret
    exact ⟨rfl, B2.trans (b3.mono B2.size)⟩
  have q1 : decide (600 < (l1 : Int)) = false := by simp; omega
  have h6' : l1 ≤ 600 := Nat.not_lt.1 h6
  clear h6 HA
  go_wp2_with fail
  refine HF.mono ?_
  rintro e w2 ⟨rfl, b2⟩
  have B2 := b1.trans (b2.mono b1.size)
  have hl0 : Hid (l0 = L.length) := I0.1
  have H300 : Hid (∀ x ∈ L, x.body.length ≤ 300) := h300
  have hl20 : l0 ≤ 20 := by have := I0.1; omega
  clear HF b1 b2 h300 h20
  have HP := pack_all a0 l0 k0 L w2 (I0.below B2 (Nat.le_refl _)) B2.size (by omega)
  go_wp2_with fail
  refine HP.mono ?_
  rintro e w3 ⟨a3, n3, c3, rfl, o3, b3⟩
  have B3 := B2.trans (b3.mono B2.size)
  clear HP b3 B2
  have HP := refpack_all a0 l0 k0 L w3 (I0.below B3 (Nat.le_refl _)) B3.size (by omega)
  go_wp2_with fail
  refine HP.mono ?_
  rintro e w4 ⟨a4, n4, c4, rfl, o4, b4⟩
  have B4 := B3.trans (b4.mono B3.size)
  have o3 := o3.below b4 (Nat.le_refl _)
  have s34 := b4.size
  clear HP b4 B3
  have HP := unpack_all a1 l1 k1 bs w4 (I1.below B4 (Nat.le_refl _)) B4.size c1 (by omega)
  go_wp2_with fail
  refine HP.mono ?_
  rintro e w5 ⟨a5, n5, c5, rfl, o5, h5, b5⟩
  have B5 := B4.trans (b5.mono B4.size)
  have o3 := o3.below b5 s34
  have o4 := o4.below b5 (Nat.le_refl _)
  have s45 := b5.size
  clear HP b5 B4
  have HP := refunpack_all a1 l1 k1 bs w5 (I1.below B5 (Nat.le_refl _)) B5.size c1 (by omega)
  go_wp2_with fail
  refine HP.mono ?_
  rintro e w6 ⟨a6, n6, c6, rfl, o6, h6, b6⟩
  have B6 := B5.trans (b6.mono B5.size)
  have o3 := o3.below b6 (Nat.le_trans s34 s45)
  have o4 := o4.below b6 s45
  have o5 := o5.below b6 (Nat.le_refl _)
  have s56 := b6.size
  clear HP b6 B5
  have HP := fd_calls a0 l0 k0 L id w6 (I0.below B6 (Nat.le_refl _)) B6.size (by omega)
  go_wp2_with fail
  refine HP.mono ?_
  rintro e w7 ⟨b7, h7⟩
  have B7 := B6.trans (b7.mono B6.size)
  have o3 := o3.below b7 (Nat.le_trans s34 (Nat.le_trans s45 s56))
  have o4 := o4.below b7 (Nat.le_trans s45 s56)
  have o5 := o5.below b7 s56
  have o6 := o6.below b7 (Nat.le_refl _)
  have s67 := b7.size
  have hl3 : Hid (n3 = (pkB L).length) := o3.1
  have hn3 : n3 ≤ 100000 := by
    have h1 := o3.1
    have h2 := pkB_len L H300.out
    have := hl0.out
    omega
  clear HP B6
  rcases h7 with ⟨hall, rfl⟩ | ⟨k, x, ai, li, ci, hx, hp, hj, rfl, IX, hn0, hlc⟩
  · have HN : Hid (∀ x ∈ L, idB id x = false) := hall
    have A8 : Below w7.heap.size w7 (w7.alloc (.cells #[.int .u8 0, .slice none 0 0] 36)) := (Below.refl _ w7).alloc (Nat.le_refl _) _
    have K8 := bk_new w7 #[.int .u8 0, .slice none 0 0] 36
    go_wp2
    generalize w7.alloc (.cells #[.int .u8 0, .slice none 0 0] 36) = w8 at *
    have B8 := B7.trans (A8.mono B7.size)
    have o3 := o3.below A8 (Nat.le_trans s34 (Nat.le_trans s45 (Nat.le_trans s56 s67)))
    have o4 := o4.below A8 (Nat.le_trans s45 (Nat.le_trans s56 s67))
    have o5 := o5.below A8 (Nat.le_trans s56 s67)
    have o6 := o6.below A8 s67
    have s78 := A8.size
    clear hall A8 b7 B7
    generalize pkE L = E1 at *
    generalize unX bs = E2 at *
    go_loopw [17, 60] (fun wv iv wr => ∃ k : Nat, k ≤ l0 ∧ iv = .int .i64 k ∧ wv = .slice none 0 0 ∧ wr = w8) (fun _ iv _ => l0 - (intOf iv).toNat)
    case atStart => exact ⟨0, Nat.zero_le _, rfl, rfl, rfl⟩
    case round =>
      obtain ⟨k, hk, rfl, rfl, rfl⟩ := hrel
      by_cases hlt : k < l0
      · obtain ⟨b, off, x, ai, li, ci, rfl, _, hx, _, _, _, F⟩ := I0.atF hlt
        obtain ⟨_, d1, _⟩ := F _ B8
        have q2 := idB_nat id x
        rw [HN.out x (List.mem_of_getElem? hx)] at q2
        clear F hx
        go_wp2
        go_roundw
        case rel => exact ⟨k + 1, by omega, by go_num, rfl, by first | rfl | trivial⟩
        case measure => simp [intOf]; omega
      · obtain rfl : k = l0 := by omega
        have HS1 := same_calls a3 a4 n3 c3 n4 c4 _ _ _ o3 o4 (by omega) (by omega) hn3
        rw [beq_self_eq_true] at HS1
        go_wp2_with fail
        refine HS1.mono ?_
        rintro e w9 ⟨rfl, b9⟩
        have HS2 := same15_calls a5 a6 n5 c5 n6 c6 _ _ w9 (o5.below b9 (by omega)) (o6.below b9 (by omega)) (Nat.le_trans (by omega) b9.size) (Nat.le_trans (by omega) b9.size) (by omega) (by omega) (fun x hx => by have := (unL_small bs).2 x hx; omega)
        rw [sameL_self] at HS2
        have K9 := K8.below b9 K8.lt
        have B9 := B8.trans (b9.mono B8.size)
        clear HS1 b9 o3 o4 o5 o6 K8 B8
        go_wp2_with fail
        refine HS2.mono ?_
        rintro e w10 ⟨rfl, b10⟩
        have K10 := K9.below b10 K9.lt
        have B10 := B9.trans (b10.mono B9.size)
        have p0 := K10.cell 0 _ rfl
        have p1 := K10.cell 1 _ rfl
        have kl := K10.lt
        clear HS2 b10 K9 B9
        go_wp2
        go_ret
        exact ⟨rfl, B10⟩
  · have HX : Hid (L[k]? = some x ∧ idB id x = true ∧ (∀ (j : Nat) (y : El), j < k → L[j]? = some y → idB id y = false)) := ⟨hx, hp, hj⟩
    have A8 : Below w7.heap.size w7 (w7.alloc (.cells #[.int .u8 (x.id.toNat : Int), .slice ai li ci] 36)) := (Below.refl _ w7).alloc (Nat.le_refl _) _
    have K8 := bk_new w7 #[.int .u8 (x.id.toNat : Int), .slice ai li ci] 36
    have hk0 : k < l0 := by have := (List.getElem?_eq_some_iff.1 hx).1; have := hl0.out; omega
    obtain ⟨b, off, _, _, _, _, ea0, -⟩ := I0.atF hk0
    subst ea0
    have IW1 : IsI W.heap.size W (some ⟨b, off + k * 2, none⟩) 1 [x] := I0.one hx
    go_wp2
    generalize w7.alloc (.cells #[.int .u8 (x.id.toNat : Int), .slice ai li ci] 36) = w8 at *
    have B8 := B7.trans (A8.mono B7.size)
    have o3 := o3.below A8 (Nat.le_trans s34 (Nat.le_trans s45 (Nat.le_trans s56 s67)))
    have o4 := o4.below A8 (Nat.le_trans s45 (Nat.le_trans s56 s67))
    have o5 := o5.below A8 (Nat.le_trans s56 s67)
    have o6 := o6.below A8 s67
    have IX8 := IX.below A8 B7.size
    have s78 := A8.size
    clear hx hp hj A8 b7 B7 IX
    generalize pkE L = E1 at *
    generalize unX bs = E2 at *
    go_loopw [17, 60] (fun wv iv wr => ∃ i : Nat, i ≤ l0 ∧ iv = .int .i64 i ∧ ((i ≤ k ∧ wv = .slice none 0 0) ∨ (k < i ∧ ∃ cw : Nat, wv = .slice (some ⟨b, off + k * 2, none⟩) 1 cw)) ∧ wr = w8) (fun _ iv _ => l0 - (intOf iv).toNat)
    case atStart => exact ⟨0, Nat.zero_le _, rfl, .inl ⟨Nat.zero_le _, rfl⟩, rfl⟩
    case round =>
      obtain ⟨i, hi, rfl, hor, rfl⟩ := hrel
      by_cases hlt : i < l0
      · obtain ⟨b', off', y, aj, lj, cj, e', _, hy, _, _, _, F⟩ := I0.atF hlt
        cases e'
        obtain ⟨_, d1, _⟩ := F _ B8
        have q2 := idB_nat id y
        rcases Nat.lt_trichotomy i k with hik | hik | hik
        · rw [HX.out.2.2 i y hik hy] at q2
          have hle : i + 1 ≤ k := hik
          rcases hor with ⟨_, rfl⟩ | ⟨h, _⟩
          · clear F hy hik
            go_wp2
            go_roundw
            case rel => exact ⟨i + 1, by omega, by go_num, .inl ⟨hle, rfl⟩, by first | rfl | trivial⟩
            case measure => simp [intOf]; omega
          · omega
        · subst hik
          rw [HX.out.1] at hy
          cases hy
          rw [HX.out.2.1] at q2
          rcases hor with ⟨_, rfl⟩ | ⟨h, _⟩
          · clear F
            go_wp2
            go_roundw
            case rel => exact ⟨i + 1, by omega, by go_num, .inr ⟨by omega, _, rfl⟩, by first | rfl | trivial⟩
            case measure => simp [intOf]; omega
          · omega
        · rcases hor with ⟨h, _⟩ | ⟨_, cw, rfl⟩
          · omega
          · cases hb : idB id y <;> rw [hb] at q2 <;> clear hb F hy <;> (
              go_wp2
              go_roundw
              case rel => exact ⟨i + 1, by omega, by go_num, .inr ⟨by omega, cw, rfl⟩, by first | rfl | trivial⟩
              case measure => simp [intOf]; omega)
      · obtain rfl : i = l0 := by omega
        rcases hor with ⟨h, _⟩ | ⟨_, cw, rfl⟩
        · omega
        have HS1 := same_calls a3 a4 n3 c3 n4 c4 _ _ _ o3 o4 (by omega) (by omega) hn3
        rw [beq_self_eq_true] at HS1
        go_wp2_with fail
        refine HS1.mono ?_
        rintro e w9 ⟨rfl, b9⟩
        have HS2 := same15_calls a5 a6 n5 c5 n6 c6 _ _ w9 (o5.below b9 (by omega)) (o6.below b9 (by omega)) (Nat.le_trans (by omega) b9.size) (Nat.le_trans (by omega) b9.size) (by omega) (by omega) (fun x hx => by have := (unL_small bs).2 x hx; omega)
        rw [sameL_self] at HS2
        have K9 := K8.below b9 K8.lt
        have IX9 := IX8.below b9 B8.size
        have B9 := B8.trans (b9.mono B8.size)
        clear HS1 b9 o3 o4 o5 o6 K8 B8 IX8
        go_wp2_with fail
        refine HS2.mono ?_
        rintro e w10 ⟨rfl, b10⟩
        have K10 := K9.below b10 K9.lt
        have IX10 := IX9.below b10 B9.size
        have B10 := B9.trans (b10.mono B9.size)
        have p0 := K10.cell 0 _ rfl
        have p1 := K10.cell 1 _ rfl
        have kl := K10.lt
        clear HS2 b10 K9 B9 IX9
        go_wp2_with (with_reducible show wpList _ _ _ (Oper.mk _ (Op.buildSlice _ _ _) _ _ _ _ :: _) _ _; refine stop_here ?_)
        refine ⟨?_⟩
        refine wpList_slI (i := x.id) (by rfl) (by rfl) (by rfl) ?_
        intro b11 w11 hb11 K11 b11'
        have B11 := B10.trans (b11'.mono B10.size)
        have I11 : IsI w11.heap.size w11 (some ⟨b11, 0, none⟩) 1 [x] := isI_bk K11 ((IX10.below b11' B10.size).mono B11.size) hn0 hlc
        have HS3 := same15_calls (some ⟨b11, 0, none⟩) (some ⟨b, off + k * 2, none⟩) 1 1 1 cw _ _ w11 I11 (IW1.below B11 (Nat.le_refl _)) (Nat.le_refl _) B11.size (by decide) (by decide) (fun y hy => by
          have := H300.out x (List.mem_of_getElem? HX.out.1)
          obtain rfl := List.mem_singleton.1 hy
          omega)
        rw [sameL_self] at HS3
        clear I11 K11 b11' K10 B10 IX10 p0 p1
        go_wp2_with fail
        refine HS3.mono ?_
        rintro e w12 ⟨rfl, b12⟩
        go_wp2
        go_ret
        exact ⟨rfl, B11.trans (b12.mono B11.size)⟩
end Go.Proofs.Ytbjkioekmekeaaa
