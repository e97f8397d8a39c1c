/- Proved here: the walk of HeaderShort. Conditions: as each theorem states them. -/
import Derived.Test.YtehkcdnblhfnaaaDoorAwake
import Derived.Test.YtehkcdnblhfnaaaDoorUnpack
namespace Go.Proofs.YtehkcdnblhfnaaaDoor
open Go.RowKit

theorem list4 {α : Type} : ∀ {l : List α}, l.length = 4 → ∃ y0 y1 y2 y3, l = [y0, y1, y2, y3]
  | [y0, y1, y2, y3], _ => ⟨y0, y1, y2, y3, rfl⟩

set_option maxHeartbeats 1000000 in
theorem short_walk (nni : Bool) (a1 : Option Addr) (len cap1 : Nat) (xs : List UInt8) (w : World) (tab : Tab w) (h1 : IsB w.heap.size w a1 len xs) :
    Calls Tryd.prog 7 #[.slice a1 len cap1, .bool nni] w fun e w' => e = .returned (.bool true) ∧ Below w.heap.size w w' := by
  by_cases hl1 : 50 < len
  · go_enter Tryd.func7, Tryd.ntmps7
    go_wp2_with fail
    refine (awake_calls _ tab).mono ?_
    rintro e w1 ⟨rfl, b1⟩
    go_wp2_with fail
    refine (awake_calls _ (tab.below b1 tab.1)).mono ?_
    rintro e w2 ⟨rfl, b2⟩
    go_wp2
    go_ret
    exact ⟨rfl, b1.trans (b2.mono b1.size)⟩
  by_cases hs : len < 4
  · go_enter Tryd.func7, Tryd.ntmps7
    go_wp2_with fail
    refine (awake_calls _ tab).mono ?_
    rintro e w1 ⟨rfl, b1⟩
    go_wp2_with fail
    refine (unpack_short nni a1 len cap1 hs _).mono ?_
    rintro e w2 ⟨rfl, b2⟩
    go_wp2
    go_ret
    exact ⟨rfl, (b1.trans (b2.mono b1.size)).alloc (Nat.le_trans b1.size b2.size) _⟩
  by_cases hg : 4 < len
  · go_enter Tryd.func7, Tryd.ntmps7
    go_wp2_with fail
    refine (awake_calls _ tab).mono ?_
    rintro e w1 ⟨rfl, b1⟩
    go_wp2_with fail
    refine (unpack_long nni a1 len cap1 hg _).mono ?_
    rintro e w2 ⟨rfl, b2⟩
    go_wp2
    go_ret
    exact ⟨rfl, (b1.trans (b2.mono b1.size)).alloc (Nat.le_trans b1.size b2.size) _⟩
  · obtain rfl : len = 4 := by omega
    obtain ⟨x0, x1, x2, x3, rfl⟩ := list4 h1.1.symm
    go_enter Tryd.func7, Tryd.ntmps7
    go_wp2_with fail
    refine (awake_calls _ tab).mono ?_
    rintro e w1 ⟨rfl, b1⟩
    go_wp2_with fail
    refine (unpack_four nni a1 cap1 x0 x1 x2 x3 _ (h1.below b1 (Nat.le_refl _)) b1.size (tab.below b1 tab.1)).mono ?_
    rintro e w2 ⟨rfl, b2⟩
    go_wp2
    go_ret
    exact ⟨rfl, (b1.trans (b2.mono b1.size)).alloc (Nat.le_trans b1.size b2.size) _⟩
end Go.Proofs.YtehkcdnblhfnaaaDoor
