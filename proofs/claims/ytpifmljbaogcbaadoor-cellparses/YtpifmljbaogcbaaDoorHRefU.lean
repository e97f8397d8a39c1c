/- Proved here: the document's Unpack. Conditions: as each theorem states them. -/
import Derived.Test.YtpifmljbaogcbaaDoorHMath
import Derived.Test.YtpifmljbaogcbaaDoorProg
import Derived.BigQuiet
import Derived.Deep.QuietTactic
namespace Go.Proofs.YtpifmljbaogcbaaDoor.H
open Go.RowKit

set_option maxHeartbeats 400000 in
theorem refunpack_short (nni : Bool) (a : Option Addr) (len cap : Nat) (hl : len < 4) (w : World) :
    Calls Tryd.prog 40 #[.slice a len cap, .bool nni] w fun e w' => e = .returned (.tuple #[.agg #[.int .i64 0, .int .i64 0, .int .i64 0, .int .i64 0, .int .i64 0], .int .i64 2]) ∧ Below w.heap.size w w' := by
  go_enter Tryd.func40, Tryd.ntmps40
  go_wp2
  go_returns
  exact ⟨rfl, by go_grown⟩
set_option maxHeartbeats 400000 in
theorem refunpack_long (nni : Bool) (a : Option Addr) (len cap : Nat) (hl : 4 < len) (w : World) :
    Calls Tryd.prog 40 #[.slice a len cap, .bool nni] w fun e w' => e = .returned (.tuple #[.agg #[.int .i64 0, .int .i64 0, .int .i64 0, .int .i64 0, .int .i64 0], .int .i64 3]) ∧ Below w.heap.size w w' := by
  have h4 : ¬ len < 4 := by omega
  go_enter Tryd.func40, Tryd.ntmps40
  go_wp2
  go_returns
  exact ⟨rfl, by go_grown⟩

theorem below_drewN {B : Nat} {a w : World} (h : Below B a w) (n : Nat) : Below B a (w.drewN n) := ⟨h.os, h.tape, h.output, h.size, h.block⟩
theorem ret_hdr {g p v t c g' p' v' t' c' : Int} (h : g = g' ∧ p = p' ∧ v = v' ∧ t = t' ∧ c = c') :
    Ending.returned (.tuple #[.agg #[.int .i64 g, .int .i64 p, .int .i64 v, .int .i64 t, .int .i64 c], .int .i64 0]) = .returned (.tuple #[.agg #[.int .i64 g', .int .i64 p', .int .i64 v', .int .i64 t', .int .i64 c'], .int .i64 0]) := by
  obtain ⟨rfl, rfl, rfl, rfl, rfl⟩ := h; rfl

set_option maxHeartbeats 1000000 in
theorem refunpack_four (nni : Bool) (a : Option Addr) (cap : Nat) (x0 x1 x2 x3 : UInt8) (w : World) {n1 : Nat} (h1 : IsB n1 w a 4 [x0, x1, x2, x3]) (hn1 : n1 ≤ w.heap.size) :
    Calls Tryd.prog 40 #[.slice a 4 cap, .bool nni] w fun e w' => e = .returned (.tuple #[.agg #[.int .i64 (dG nni (numN x0 x1 x2 x3)), .int .i64 (dP nni (numN x0 x1 x2 x3)), .int .i64 (dV (numN x0 x1 x2 x3)), .int .i64 (dT (numN x0 x1 x2 x3)), .int .i64 (dC (numN x0 x1 x2 x3))], .int .i64 0]) ∧ Below w.heap.size w w' := by
  obtain ⟨b, o, rfl, hb, c⟩ := h1.cell (k := 0) (x := x0) rfl
  have c0 := c 0 x0 rfl
  have c1 := c 1 x1 rfl
  have c2 := c 2 x2 rfl
  have c3 := c 3 x3 rfl
  rw [Nat.add_zero] at c0
  obtain ⟨y0, hy0⟩ : ∃ y, x0.toNat = y := ⟨_, rfl⟩
  obtain ⟨y1, hy1⟩ : ∃ y, x1.toNat = y := ⟨_, rfl⟩
  obtain ⟨y2, hy2⟩ : ∃ y, x2.toNat = y := ⟨_, rfl⟩
  obtain ⟨y3, hy3⟩ : ∃ y, x3.toNat = y := ⟨_, rfl⟩
  have r0 : y0 < 256 := by rw [← hy0]; exact x0.toNat_lt
  have r1 : y1 < 256 := by rw [← hy1]; exact x1.toNat_lt
  have r2 : y2 < 256 := by rw [← hy2]; exact x2.toNat_lt
  have r3 : y3 < 256 := by rw [← hy3]; exact x3.toNat_lt
  have hn : numN x0 x1 x2 x3 = y0 * 16777216 + y1 * 65536 + y2 * 256 + y3 := by unfold numN; rw [hy0, hy1, hy2, hy3]
  obtain ⟨n, hnn⟩ : ∃ n, numN x0 x1 x2 x3 = n := ⟨_, rfl⟩
  rw [hnn] at hn ⊢
  rw [hy0] at c0
  rw [hy1] at c1
  rw [hy2] at c2
  rw [hy3] at c3
  have hlt : n < 4294967296 := by omega
  have hbs : b < w.heap.size := by omega
  have HN : Hid (n = y0 * 16777216 + y1 * 65536 + y2 * 256 + y3) := hn
  clear hn hnn hy0 hy1 hy2 hy3 c h1
  cases nni
  · skip
    go_enter Tryd.func40, Tryd.ntmps40
    go_wp2
    go_quiet (fail)
    go_wp2
    refine bodyPost_ret (v := .tuple #[.agg #[.int .i64 (((y0 : Int) * 16777216 + (y1 : Int) * 65536 + (y2 : Int) * 256 + (y3 : Int)) / 1048576 / 256), .int .i64 (((y0 : Int) * 16777216 + (y1 : Int) * 65536 + (y2 : Int) * 256 + (y3 : Int)) / 1048576 % 256), .int .i64 (((y0 : Int) * 16777216 + (y1 : Int) * 65536 + (y2 : Int) * 256 + (y3 : Int)) / 16 % 65536), .int .i64 (((y0 : Int) * 16777216 + (y1 : Int) * 65536 + (y2 : Int) * 256 + (y3 : Int)) / 2 % 8), .int .i64 (((y0 : Int) * 16777216 + (y1 : Int) * 65536 + (y2 : Int) * 256 + (y3 : Int)) % 2)], .int .i64 0]) (by simp [results, Tryd.results40, go_sem]) rfl ⟨ret_hdr ?_, ?_⟩
    · have := HN.out
      simp [dG, dP, dV, dT, dC]
      omega
    · repeat' (first | (with_reducible exact Below.refl _ _) | (with_reducible refine Below.alloc ?_ ?_ _) | (with_reducible refine below_drewN ?_ _) | (with_reducible refine Below.setCell ?_ ?_ _) | go_size | (simp [World.drewN]; done))
  · skip
    go_enter Tryd.func40, Tryd.ntmps40
    go_wp2
    go_quiet (fail)
    go_wp2
    refine bodyPost_ret (v := .tuple #[.agg #[.int .i64 0, .int .i64 (((y0 : Int) * 16777216 + (y1 : Int) * 65536 + (y2 : Int) * 256 + (y3 : Int)) / 1048576), .int .i64 (((y0 : Int) * 16777216 + (y1 : Int) * 65536 + (y2 : Int) * 256 + (y3 : Int)) / 16 % 65536), .int .i64 (((y0 : Int) * 16777216 + (y1 : Int) * 65536 + (y2 : Int) * 256 + (y3 : Int)) / 2 % 8), .int .i64 (((y0 : Int) * 16777216 + (y1 : Int) * 65536 + (y2 : Int) * 256 + (y3 : Int)) % 2)], .int .i64 0]) (by simp [results, Tryd.results40, go_sem]) rfl ⟨ret_hdr ?_, ?_⟩
    · have := HN.out
      simp [dG, dP, dV, dT, dC]
      omega
    · repeat' (first | (with_reducible exact Below.refl _ _) | (with_reducible refine Below.alloc ?_ ?_ _) | (with_reducible refine below_drewN ?_ _) | (with_reducible refine Below.setCell ?_ ?_ _) | go_size | (simp [World.drewN]; done))
end Go.Proofs.YtpifmljbaogcbaaDoor.H
