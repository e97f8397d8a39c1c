/- Proved here: the walk of FrameCells, all of it. Conditions: as each theorem states them. -/
import Derived.Test.YtdipffgmjmhjaaaCellsW
namespace Go.Proofs.Ytdipffgmjmhjaaa
set_option linter.unusedSimpArgs false
set_option linter.unusedVariables false
open Go.RowKit

set_option maxHeartbeats 2000000 in
set_option maxRecDepth 20000 in
theorem cells_walk (a : Option Addr) (len cap stop : Nat) (zs : List UInt8) (hst : stop < 256) (w : World) (h1 : IsB w.heap.size w a len zs) (n1 : a = none → cap = 0) (c1 : len ≤ cap) :
    Calls Try.prog 7 #[.slice a len cap, .int .u8 stop] w fun e w' => e = .returned (.bool true) ∧ Below w.heap.size w w' := by
  by_cases hl : 400 < len
  · have q1 : decide (400 < (len : Int)) = true := by simp; omega
    have k1 := Boxed.new w 22 (.slice a len cap)
    have k3 := Boxed.new ((w.alloc (.cells #[.slice a len cap] 22)).alloc (.cells #[.int .u8 stop] 5)) 4 (.bool false)
    rw [World.size_alloc, World.size_alloc] at k3
    replace k1 := (k1.alloc (.cells #[.int .u8 stop] 5)).alloc (.cells #[.bool false] 4)
    have B0 : Below w.heap.size w (((w.alloc (.cells #[.slice a len cap] 22)).alloc (.cells #[.int .u8 stop] 5)).alloc (.cells #[.bool false] 4)) := (((Below.refl _ w).alloc (Nat.le_refl _) _).alloc (by simp) _).alloc (by simp; omega) _
    clear hl h1
    go_enter Try.func7, Try.ntmps7
    go_wp2_with fail
    generalize ((w.alloc (.cells #[.slice a len cap] 22)).alloc (.cells #[.int .u8 stop] 5)).alloc (.cells #[.bool false] 4) = W0 at *
    refine (awake_calls _).mono ?_
    rintro e w1 ⟨rfl, b1⟩
    replace k1 := boxed_below k1 b1 k1.lt
    replace k3 := boxed_below k3 b1 k3.lt
    have B1 := B0.trans (b1.mono B0.size)
    have c0 := k1.cell
    clear b1 B0
    go_wp2_with fail
    refine (awake_calls _).mono ?_
    rintro e w2 ⟨rfl, b2⟩
    replace k3 := boxed_below k3 b2 k3.lt
    have B2 := B1.trans (b2.mono B1.size)
    have c2 := k3.cell
    have f2 := k3.frozen
    have c3 := (k3.set (.bool true)).cell
    clear k1 c0 b2 B1
    go_wp2
    refine bodyPost_ret (v := .bool true) (by simp [results, Try.results7, go_sem, c3]) rfl ?_
    exact ⟨rfl, B2.setCell (p := ⟨w.heap.size + 1 + 1, 0, none⟩) (by show w.heap.size ≤ w.heap.size + 1 + 1; omega) _⟩
  · exact callsIn_wide.1 (cellsw_in a len cap stop zs (by omega) hst w h1 n1 c1)
end Go.Proofs.Ytdipffgmjmhjaaa
