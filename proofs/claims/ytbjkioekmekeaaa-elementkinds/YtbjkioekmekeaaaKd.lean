/- Proved here: what is read of what was made. Conditions: as each theorem states them. -/
import Derived.Test.YtbjkioekmekeaaaRt
import Derived.Test.YtbjkioekmekeaaaRk
namespace Go.Proofs.Ytbjkioekmekeaaa
set_option linter.unusedSimpArgs false
set_option linter.unusedVariables false
open Go.RowKit Go.Shelf

theorem trX_yes {k p e v b l : Int} (h : errN k p e v b l = 0) : ∃ k' p' e' v' b' l' : Nat, k = k' ∧ p = p' ∧ e = e' ∧ v = v' ∧ b = b' ∧ l = l' ∧ trX k p e v b l = trafE k' p' e' v' b' l' ∧ kd (trafB k' [p', e', v', b', l']) = k' ∧ sp (trafB k' [p', e', v', b', l']) 0 = p' ∧ sp (trafB k' [p', e', v', b', l']) 1 = e' ∧ sp (trafB k' [p', e', v', b', l']) 2 = v' ∧ sp (trafB k' [p', e', v', b', l']) 3 = b' ∧ sp (trafB k' [p', e', v', b', l']) 4 = l' := by
  obtain ⟨k', p', e', v', b', l', rfl, rfl, rfl, rfl, rfl, rfl, h0, h1, h2, h3, h4, h5⟩ := errN_nats h
  have key : ∀ x : Nat, x ≤ 1099511627776 → numN (beN 6 x) = x := fun x hx => by rw [numN_beN, Nat.mod_eq_of_lt (by omega)]
  have fl := trafB_flat k' p' e' v' b' l'
  have l6 := beN_length 6
  have tk : ∀ (x : Nat) (ys : List UInt8), (beN 6 x ++ ys).take 6 = beN 6 x := fun x ys => List.take_left' (l6 x)
  have dr : ∀ (x : Nat) (ys : List UInt8), (beN 6 x ++ ys).drop 6 = ys := fun x ys => List.drop_left' (l6 x)
  have d1 : (trafB k' [p', e', v', b', l']).drop 1 = beN 6 p' ++ (beN 6 e' ++ (beN 6 v' ++ (beN 6 b' ++ beN 6 l'))) := by rw [fl]; rfl
  have d7 : (trafB k' [p', e', v', b', l']).drop 7 = beN 6 e' ++ (beN 6 v' ++ (beN 6 b' ++ beN 6 l')) := by rw [show 7 = 1 + 6 from rfl, ← List.drop_drop, d1, dr]
  have d13 : (trafB k' [p', e', v', b', l']).drop 13 = beN 6 v' ++ (beN 6 b' ++ beN 6 l') := by rw [show 13 = 7 + 6 from rfl, ← List.drop_drop, d7, dr]
  have d19 : (trafB k' [p', e', v', b', l']).drop 19 = beN 6 b' ++ beN 6 l' := by rw [show 19 = 13 + 6 from rfl, ← List.drop_drop, d13, dr]
  have d25 : (trafB k' [p', e', v', b', l']).drop 25 = beN 6 l' ++ [] := by rw [show 25 = 19 + 6 from rfl, ← List.drop_drop, d19, dr, List.append_nil]
  refine ⟨k', p', e', v', b', l', rfl, rfl, rfl, rfl, rfl, rfl, ?_, ?_, ?_, ?_, ?_, ?_, ?_⟩
  · unfold trX; rw [if_pos h]; simp
  · rw [fl]
    show (UInt8.ofNat k').toNat = k'
    rw [byteN]; omega
  · show numN (((trafB k' [p', e', v', b', l']).drop 1).take 6) = p'
    rw [d1, tk, key p' h1]
  · show numN (((trafB k' [p', e', v', b', l']).drop 7).take 6) = e'
    rw [d7, tk, key e' h2]
  · show numN (((trafB k' [p', e', v', b', l']).drop 13).take 6) = v'
    rw [d13, tk, key v' h3]
  · show numN (((trafB k' [p', e', v', b', l']).drop 19).take 6) = b'
    rw [d19, tk, key b' h4]
  · show numN (((trafB k' [p', e', v', b', l']).drop 25).take 6) = l'
    rw [d25, tk, key l' h5]
/-- A contract is read as what it was, and as nothing else. -/
theorem tr_reads {k p e v b l : Int} (h : errN k p e v b l = 0) : rtE (trX k p e v b l) = 0 ∧ rtC (trX k p e v b l) = cC k p e v b l ∧ rkN (trX k p e v b l) = ((0, 0, 0), 12) ∧ rcN (trX k p e v b l) = (0, 12) := by
  obtain ⟨k', p', e', v', b', l', rfl, rfl, rfl, rfl, rfl, rfl, hx, q0, q1, q2, q3, q4, q5⟩ := trX_yes h
  have hl : (trafB k' [p', e', v', b', l']).length = 31 := by rw [trafB_length]; rfl
  have hE : rtE (trafE k' p' e' v' b' l') = 0 := by
    unfold rtE
    rw [if_neg (by simp [trafE]), if_neg (by simp [trafE, hl])]
    show spE (trafB k' [p', e', v', b', l']) = 0
    unfold spE
    rw [q0, q1, q2, q3, q4, q5]
    exact h
  rw [hx]
  refine ⟨hE, ?_, rk_kind (by simp [trafE]), rc_kind (by simp [trafE])⟩
  rw [rtC_yes hE]
  show spC (trafB k' [p', e', v', b', l']) = _
  unfold spC
  rw [q0, q1, q2, q3, q4, q5]
/-- A key is read as what it was, and as no contract. -/
theorem ke_reads {k : Ky} (h : rightK k = true) : rkN (keX k) = (k, 0) ∧ rtE (keX k) = 12 ∧ rtC (keX k) = cC 0 0 0 0 0 0 := by
  obtain ⟨p, v, c, rfl, h1, h2, h3⟩ := key_nats h
  have hx : keX ((p : Int), (v : Int), (c : Int)) = keyE p v c := by unfold keX; rw [h]; simp
  have hE : rtE (keyE p v c) = 12 := by unfold rtE; rw [if_pos (by simp [keyE])]
  rw [hx]
  refine ⟨?_, hE, rtC_no hE (by decide)⟩
  have n1 : numN [UInt8.ofNat (v / 256 ^ 1), UInt8.ofNat (v / 256 ^ 0)] = v := by
    have := numN_beN 2 v
    rw [Nat.mod_eq_of_lt (by omega)] at this
    exact this
  have n2 : numN [UInt8.ofNat (c / 256 ^ 1), UInt8.ofNat (c / 256 ^ 0)] = c := by
    have := numN_beN 2 c
    rw [Nat.mod_eq_of_lt (by omega)] at this
    exact this
  have n0 : (UInt8.ofNat p).toNat = p := by rw [byteN]; omega
  rw [rk_five (a := UInt8.ofNat p) (b := UInt8.ofNat (v / 256 ^ 1)) (c := UInt8.ofNat (v / 256 ^ 0)) (d := UInt8.ofNat (c / 256 ^ 1)) (e := UInt8.ofNat (c / 256 ^ 0)) rfl rfl, n0, n1, n2, if_pos h]
/-- A cause is read as what it was. -/
theorem ca_reads {c : Nat} (h : c ≤ 127) : rcN (causeE c) = ((c : Int), 0) := by
  have n0 : (UInt8.ofNat c).toNat = c := by rw [byteN]; omega
  rw [rc_two (a := 0) (b := UInt8.ofNat c) rfl rfl, n0, if_pos ⟨rfl, h⟩]
end Go.Proofs.Ytbjkioekmekeaaa
