/- Proved here: a frame of which a part is left out, and a part that is laid behind itself. Conditions: as each theorem states them. -/
import Derived.Test.YtfmicnjijcmjaaaFS
namespace Go.Proofs.Ytfmicnjijcmjaaa
set_option linter.unusedSimpArgs false
set_option linter.unusedVariables false
open Go.RowKit

/-- A part is left out. -/
def cutN (fr : List UInt8) (k : Nat) : List UInt8 := fr.take (48 * k) ++ fr.drop (48 * (k + 1))
theorem cut_len {fr : List UInt8} {k M : Nat} (h : fr.length = 48 * M) (hk : k < M) : (cutN fr k).length = 48 * (M - 1) := by
  simp only [cutN, List.length_append, List.length_take, List.length_drop, h]; omega
theorem chunk_cut_lt {fr : List UInt8} {k i M : Nat} (h : fr.length = 48 * M) (hk : k < M) (hi : i < k) : chunk (cutN fr k) i = chunk fr i := by
  unfold chunk cutN
  rw [List.drop_append_of_le_length (by rw [List.length_take]; omega), List.take_append_of_le_length (by rw [List.length_drop, List.length_take]; omega), List.drop_take, List.take_take, Nat.min_eq_left (by omega)]
theorem chunk_cut_ge {fr : List UInt8} {k i M : Nat} (h : fr.length = 48 * M) (hk : k < M) (hi : k ≤ i) : chunk (cutN fr k) i = chunk fr (i + 1) := by
  unfold chunk cutN
  have e : 48 * i = (fr.take (48 * k)).length + (48 * i - 48 * k) := by rw [List.length_take]; omega
  rw [e, List.drop_append, List.drop_eq_nil_of_le (by rw [List.length_take]; omega), List.nil_append, List.drop_drop]
  congr 2
  rw [List.length_take]; omega
theorem unpack_cut {t : List UInt8} (m : UInt8) {k : Nat} (h1 : 1 ≤ t.length) (h2 : t.length ≤ 65535) (hk : k + 1 < manyN t.length) : ∃ e, unpackN (cutN (frameN t m) k) = ([], 0, e) ∧ e ≠ 0 := by
  have hm := many_eq h1
  have hb := body_len h1
  have e1 : cutN (frameN t m) k = ((bodyN t).take (48 * k) ++ (bodyN t).drop (48 * (k + 1))) ++ (m :: 0 :: UInt8.ofNat (t.length / 256) :: UInt8.ofNat t.length :: be4 (longN (aheadN t m))) := by
    rw [frame_flat, cutN, List.take_append_of_le_length (by omega), List.drop_append_of_le_length (by omega), List.append_assoc]
  have hl : ((bodyN t).take (48 * k) ++ (bodyN t).drop (48 * (k + 1))).length + 8 = 48 * (manyN t.length - 1) := by
    rw [List.length_append, List.length_take, List.length_drop]; omega
  rw [e1, be4_list, unpack8 _ _ _ _ _ _ _ _ _ (by omega)]
  unfold up8
  split
  · exact ⟨4, rfl, by decide⟩
  · rw [if_pos]
    · exact ⟨5, rfl, by decide⟩
    · right; left
      have hn : (UInt8.ofNat (t.length / 256)).toNat * 256 + (UInt8.ofNat t.length).toNat = t.length % 65536 := by rw [byteN, byteN]; omega
      rw [hn, hl, Nat.mod_eq_of_lt (by omega)]
      omega
theorem run_ldG {w : World} {b : Nat} {v : Value} (h : w.cell? ⟨b, 0, none⟩ = some v) : (Instr.loadAt 24 (.pointer (some ⟨b, 0, none⟩))).run Try.prog w = .ok v w := by
  simp [Instr.loadAt, Instr.sureAddr, loadVar, run_underlying Try.underlying24, h]
end Go.Proofs.Ytfmicnjijcmjaaa
