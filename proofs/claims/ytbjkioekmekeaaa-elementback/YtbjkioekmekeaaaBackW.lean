/- Proved here: the walk of ElementBack. Conditions: as the theorem states them. -/
import Derived.Test.YtbjkioekmekeaaaAw
namespace Go.Proofs.Ytbjkioekmekeaaa
set_option linter.unusedSimpArgs false
set_option linter.unusedVariables false
open Go.RowKit Go.Shelf

set_option maxHeartbeats 4000000 in
theorem back_walk (W : World) (a0 : Option Addr) (l0 k0 : Nat) (L : List El) (I0 : IsI W.heap.size W a0 l0 L) (m0 : l0 ≤ maxLen) (a1 : Option Addr) (l1 k1 : Nat) (bs : List UInt8) (I1 : IsB W.heap.size W a1 l1 bs) (c1 : l1 ≤ k1) :
    Calls Try.prog 5 #[.slice a0 l0 k0, .slice a1 l1 k1] W fun e w' => e = .returned (.bool true) ∧ Below W.heap.size W w' := by
  have HA := fun w => awake_calls w
  go_enter Try.func5, Try.ntmps5
  go_wp2_with fail
  refine (HA _).mono ?_
  rintro e w1 ⟨rfl, b1⟩
  have HF := few_calls a0 l0 k0 L w1 (I0.below b1 (Nat.le_refl _)) b1.size m0
  cases hf : fewB L
  · rw [hf] at HF
    go_wp2_with fail
    refine HF.mono ?_
    rintro e w2 ⟨rfl, b2⟩
    have B2 := b1.trans (b2.mono b1.size)
    go_wp2_with fail
    refine (HA _).mono ?_
    rintro e w3 ⟨rfl, b3⟩
    go_wp2
    go_ret
    exact ⟨rfl, B2.trans (b3.mono B2.size)⟩
  rw [hf] at HF
  obtain ⟨h300, h20⟩ := fewB_iff.1 hf
  clear hf
  by_cases h6 : 600 < l1
  · have q1 : decide (600 < (l1 : Int)) = true := by simp; omega
    clear h6
    go_wp2_with fail
    refine HF.mono ?_
    rintro e w2 ⟨rfl, b2⟩
    have B2 := b1.trans (b2.mono b1.size)
    go_wp2_with fail
    refine (HA _).mono ?_
    rintro e w3 ⟨rfl, b3⟩
    go_wp2
    go_ret
    exact ⟨rfl, B2.trans (b3.mono B2.size)⟩
  have q1 : decide (600 < (l1 : Int)) = false := by simp; omega
  have h6' : l1 ≤ 600 := Nat.not_lt.1 h6
  clear h6 HA
  go_wp2_with fail
  refine HF.mono ?_
  rintro e w2 ⟨rfl, b2⟩
  have B2 := b1.trans (b2.mono b1.size)
  have hl0 : Hid (l0 = L.length) := I0.1
  have H300 : Hid (∀ x ∈ L, x.body.length ≤ 300) := h300
  have hl20 : l0 ≤ 20 := by have := I0.1; omega
  clear HF b1 b2 h300 h20
  cases hok : okL L
  · have HP := pack_no a0 l0 k0 L w2 (I0.below B2 (Nat.le_refl _)) B2.size (by omega) hok
    clear hok
    go_wp2_with fail
    refine HP.mono ?_
    rintro e w3 ⟨rfl, b3⟩
    have B3 := B2.trans (b3.mono B2.size)
    clear HP b3 B2
    have HU := unpack_calls a1 l1 k1 bs w3 (I1.below B3 (Nat.le_refl _)) B3.size c1 (by omega)
    go_wp2_with fail
    refine HU.mono ?_
    rintro e u1 ⟨d1, h1⟩
    have D1 := B3.trans (d1.mono B3.size)
    clear HU
    rcases h1 with ⟨M, aM, cM, hM, rfl, oM⟩ | ⟨E, hE, rfl⟩
    · obtain ⟨hb, hl, h2⟩ := bytes_unE 16 bs M hM
      have HP := pack_ok aM M.length cM M u1 oM.isI.1 (Nat.le_refl _) (okL_iff.2 ⟨hl, h2⟩)
      rw [hb] at HP
      clear hM hb hl h2 oM
      go_wp2_with fail
      refine HP.mono ?_
      rintro e u2 ⟨a2, c2, rfl, o2, d2⟩
      have D2 := D1.trans (d2.mono D1.size)
      have HS := same_calls a2 a1 bs.length c2 l1 k1 bs bs u2 o2.isB.1 (I1.below D2 (Nat.le_refl _)) (Nat.le_refl _) D2.size (by have := I1.1; omega)
      rw [beq_self_eq_true] at HS
      clear HP o2 D1 d1 d2
      go_wp2_with fail
      refine HS.mono ?_
      rintro e u3 ⟨rfl, d3⟩
      go_wp2
      go_ret
      exact ⟨rfl, D2.trans (d3.mono D2.size)⟩
    · have qE : (E != 0) = true := by
        have := unE_err_of hE
        rw [bne_iff_ne]; omega
      clear hE d1
      go_wp2
      go_ret
      exact ⟨rfl, D1⟩
  · have HP := pack_ok a0 l0 k0 L w2 (I0.below B2 (Nat.le_refl _)) B2.size hok
    have hlen : (bytesE L).length ≤ 10000 := by
      have := bytesE_length_le L H300.out
      have := hl0.out
      omega
    have hun := unE_bytes L 16 (okL_iff.1 hok).2
    rw [if_pos (okL_iff.1 hok).1] at hun
    have HL : Hid (unE 16 (bytesE L) = .ok L) := hun
    clear hok hun
    go_wp2_with fail
    refine HP.mono ?_
    rintro e w3 ⟨a3, c3, rfl, o3, b3⟩
    have B3 := B2.trans (b3.mono B2.size)
    have HU := unpack_calls a3 (bytesE L).length c3 (bytesE L) w3 o3.isB.1 (Nat.le_refl _) o3.isB.2.2 hlen
    clear HP b3 B2 o3
    go_wp2_with fail
    refine HU.mono ?_
    rintro e w4 ⟨b4, h4⟩
    have B4 := B3.trans (b4.mono B3.size)
    clear HU B3 b4
    rcases h4 with ⟨M, aM, cM, hM, rfl, oM⟩ | ⟨E, hE, rfl⟩
    · rw [HL.out] at hM
      cases hM
      have HS := same15_calls aM a0 L.length cM l0 k0 L L w4 oM.isI.1 (I0.below B4 (Nat.le_refl _)) (Nat.le_refl _) B4.size (by have := hl0.out; omega) (by omega) (fun x hx => by have := H300.out x hx; omega)
      rw [sameL_self] at HS
      clear oM
      go_wp2_with fail
      refine HS.mono ?_
      rintro e w5 ⟨rfl, b5⟩
      have B5 := B4.trans (b5.mono B4.size)
      clear HS b5 B4
      have HU := unpack_calls a1 l1 k1 bs w5 (I1.below B5 (Nat.le_refl _)) B5.size c1 (by omega)
      go_wp2_with fail
      refine HU.mono ?_
      rintro e u1 ⟨d1, h1⟩
      have D1 := B5.trans (d1.mono B5.size)
      clear HU
      rcases h1 with ⟨M, aM, cM, hM, rfl, oM⟩ | ⟨E, hE, rfl⟩
      · obtain ⟨hb, hl, h2⟩ := bytes_unE 16 bs M hM
        have HP := pack_ok aM M.length cM M u1 oM.isI.1 (Nat.le_refl _) (okL_iff.2 ⟨hl, h2⟩)
        rw [hb] at HP
        clear hM hb hl h2 oM
        go_wp2_with fail
        refine HP.mono ?_
        rintro e u2 ⟨a2, c2, rfl, o2, d2⟩
        have D2 := D1.trans (d2.mono D1.size)
        have HS := same_calls a2 a1 bs.length c2 l1 k1 bs bs u2 o2.isB.1 (I1.below D2 (Nat.le_refl _)) (Nat.le_refl _) D2.size (by have := I1.1; omega)
        rw [beq_self_eq_true] at HS
        clear HP o2 D1 d1 d2
        go_wp2_with fail
        refine HS.mono ?_
        rintro e u3 ⟨rfl, d3⟩
        go_wp2
        go_ret
        exact ⟨rfl, D2.trans (d3.mono D2.size)⟩
      · have qE : (E != 0) = true := by
          have := unE_err_of hE
          rw [bne_iff_ne]; omega
        clear hE d1
        go_wp2
        go_ret
        exact ⟨rfl, D1⟩
    · rw [HL.out] at hE
      cases hE
end Go.Proofs.Ytbjkioekmekeaaa
