/- Proved here: a tag's number, and what is lifted off a payload. Conditions: as each theorem states them. -/
import Derived.Test.YtpjlcmdidhdbcaaTo
namespace Go.Proofs.Ytpjlcmdidhdbcaa
set_option linter.unusedSimpArgs false
set_option linter.unusedVariables false
open Go.RowKit

theorem g_cell {w : World} {b : Nat} {ps : List UInt8} {t : TypeId} (h : BK w b (payV ps) t) (hl : ps.length = 48) (k : Nat) (hk : k < 48) : w.cell? ⟨b, k, none⟩ = some (.int .u8 (gN ps k : Nat)) := by
  have hx : ps[k]? = some (ps[k]'(by omega)) := by rw [List.getElem?_eq_getElem]
  have := h.payCell hx
  rw [this]; unfold gN; rw [hx]; rfl
theorem wraps_u32 (n : Int) (h₀ : 0 ≤ n) (h₁ : n < 2 ^ 32) : IntKind.u32.wrap n = n := by rw [IntKind.wrap_u32]; omega
theorem or_num (x y e : Nat) (hx : x * 2 ^ e < 4294967296) (hy : y < 2 ^ e) (hy2 : y < 4294967296) : bits .or .u32 ((x * 2 ^ e : Nat) : Int) (y : Int) = ((x * 2 ^ e + y : Nat) : Int) := by
  rw [(bits_nat .u32 32 (by decide) wraps_u32 (x * 2 ^ e) y (by omega) (by omega)).2]
  congr 1
  rw [show x * 2 ^ e = 2 ^ e * x by rw [Nat.mul_comm], ← Nat.two_pow_add_eq_or_of_lt hy]
theorem or_three (y0 y1 y2 y3 : Nat) (x0 : y0 < 256) (x1 : y1 < 256) (x2 : y2 < 256) (x3 : y3 < 256) : ∃ n1 n2 : Nat,
    bits .or .u32 ((y0 : Int) * 16777216) ((y1 : Int) * 65536) = (n1 : Int) ∧ bits .or .u32 (n1 : Int) ((y2 : Int) * 256) = (n2 : Int) ∧ bits .or .u32 (n2 : Int) (y3 : Int) = ((((y0 * 256 + y1) * 256 + y2) * 256 + y3 : Nat) : Int) := by
  refine ⟨y0 * 2 ^ 24 + y1 * 2 ^ 16, y0 * 2 ^ 24 + y1 * 2 ^ 16 + y2 * 2 ^ 8, ?_, ?_, ?_⟩
  · have := or_num y0 (y1 * 2 ^ 16) 24 (by omega) (by omega) (by omega)
    rw [show ((y0 : Int) * 16777216) = ((y0 * 2 ^ 24 : Nat) : Int) by omega, show ((y1 : Int) * 65536) = ((y1 * 2 ^ 16 : Nat) : Int) by omega]
    exact this
  · have := or_num (y0 * 2 ^ 8 + y1) (y2 * 2 ^ 8) 16 (by omega) (by omega) (by omega)
    rw [show y0 * 2 ^ 24 + y1 * 2 ^ 16 = (y0 * 2 ^ 8 + y1) * 2 ^ 16 by omega, show ((y2 : Int) * 256) = ((y2 * 2 ^ 8 : Nat) : Int) by omega]
    exact this
  · have := or_num (y0 * 2 ^ 16 + y1 * 2 ^ 8 + y2) y3 8 (by omega) (by omega) (by omega)
    rw [show y0 * 2 ^ 24 + y1 * 2 ^ 16 + y2 * 2 ^ 8 = (y0 * 2 ^ 16 + y1 * 2 ^ 8 + y2) * 2 ^ 8 by omega, show ((y0 * 256 + y1) * 256 + y2) * 256 + y3 = (y0 * 2 ^ 16 + y1 * 2 ^ 8 + y2) * 2 ^ 8 + y3 by omega]
    exact this

theorem ret_u32 {a b : Int} (h : a = b) : Ending.returned (.int .u32 a) = .returned (.int .u32 b) := by rw [h]
set_option maxHeartbeats 2000000 in
theorem number_calls (p : List UInt8) (hl : p.length = 48) (b l c : Nat) (t : TypeId) (w : World) (hK : BK w b (payV p) t) (h4 : 4 ≤ l) :
    Calls Try.prog 34 #[.slice (some ⟨b, 2, none⟩) l c] w fun e w' => e = .returned (.int .u32 (nuN p : Nat)) ∧ Below w.heap.size w w' := by
  have c0 := g_cell hK hl 2 (by decide)
  have c1 := g_cell hK hl 3 (by decide)
  have c2 := g_cell hK hl 4 (by decide)
  have c3 := g_cell hK hl 5 (by decide)
  have x0 := gN_lt p 2
  have x1 := gN_lt p 3
  have x2 := gN_lt p 4
  have x3 := gN_lt p 5
  have HN : Hid (nuN p = ((gN p 2 * 256 + gN p 3) * 256 + gN p 4) * 256 + gN p 5) := rfl
  generalize nuN p = z at *
  generalize gN p 2 = y0 at *
  generalize gN p 3 = y1 at *
  generalize gN p 4 = y2 at *
  generalize gN p 5 = y3 at *
  obtain ⟨n1, n2, o1, o2, o3⟩ := or_three y0 y1 y2 y3 x0 x1 x2 x3
  rw [← HN.out] at o3
  have q0 : IntKind.u32.wrap ((y0 : Int) * 16777216) = (y0 : Int) * 16777216 := wraps_u32 _ (by omega) (by omega)
  have q1 : IntKind.u32.wrap ((y1 : Int) * 65536) = (y1 : Int) * 65536 := wraps_u32 _ (by omega) (by omega)
  have q2 : IntKind.u32.wrap ((y2 : Int) * 256) = (y2 : Int) * 256 := wraps_u32 _ (by omega) (by omega)
  have l0 : (0 : Nat) < l := by omega
  have l1 : 1 < l := by omega
  have l2 : 2 < l := by omega
  have l3 : 3 < l := by omega
  clear HN h4 hl
  go_enter Try.func34, Try.ntmps34
  go_wp2
  go_region
  go_wp2
  go_ret
  exact ⟨rfl, (Below.refl _ w).drew⟩
end Go.Proofs.Ytpjlcmdidhdbcaa
