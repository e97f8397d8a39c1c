/- Proved here: ConnsOrder answers true. Conditions: as the theorem states them. -/
import Derived.Test.YtgimmaancnlbcaaOrdW
namespace Go.Proofs.Ytgimmaancnlbcaa
set_option linter.unusedSimpArgs false
set_option linter.unusedVariables false
open Go.RowKit Go.Shelf

set_option maxHeartbeats 2000000 in
set_option maxRecDepth 20000 in
theorem order_walk (s : Option Addr) (len cap : Nat) (M : List En) (a b c : Ky) (st : Int) (hs0 : 0 ≤ st) (hs1 : st < 256) (w : World) (hL : IsE w.heap.size w s len M) :
    Calls Try.prog 5 #[.slice s len cap, keyV a, keyV b, keyV c, .int .u8 st] w fun e w' => e = .returned (.bool true) ∧ Below w.heap.size w w' := by
  by_cases hl1 : 200 < len
  · have q1 : decide (200 < (len : Int)) = true := by simp; omega
    have H0 := o5_new a b c st w
    have B0 := below5 (w := w) (.cells #[.int .i64 a.1, .int .i64 a.2.1, .int .i64 a.2.2] 24) (.cells #[.int .i64 b.1, .int .i64 b.2.1, .int .i64 b.2.2] 24) (.cells #[.int .i64 c.1, .int .i64 c.2.1, .int .i64 c.2.2] 24) (.cells #[.int .u8 st] 5) (.cells #[.bool false] 4)
    clear hL
    go_enter Try.func5, Try.ntmps5
    go_wp2_with fail
    refine (awake_calls _).mono ?_
    rintro e w1 ⟨rfl, b1⟩
    have H1 := H0.below b1 (Nat.le_refl _)
    have B1 := B0.trans (b1.mono B0.size)
    clear H0 B0 b1
    go_wp2_with fail
    refine (awake_calls _).mono ?_
    rintro e w2 ⟨rfl, b2⟩
    have H2 := H1.below b2 (Nat.le_refl _)
    have B2 := B1.trans (b2.mono B1.size)
    have c2 := H2.hrs.cell 0 _ rfl
    have f2 := H2.hrs.frozen 0
    have K3 := H2.hrs.set 0 (.bool true)
    have c3 := BK.cell K3 0 (.bool true) rfl
    go_wp2
    refine bodyPost_ret (v := .bool true) (by simp [results, Try.results5, go_sem, c3]) rfl ?_
    exact ⟨rfl, B2.setCell (p := ⟨w.heap.size + 1 + 1 + 1 + 1, 0, none⟩) (by show w.heap.size ≤ w.heap.size + 1 + 1 + 1 + 1; omega) _⟩
  · exact callsIn_wide.1 (order_in s len cap M a b c st hs0 hs1 (by omega) w hL)
end Go.Proofs.Ytgimmaancnlbcaa
