/- Proved here: a copy of bytes, and what bytes come to. Conditions: as each theorem states them. -/
import Derived.OwnWalk
import Derived.Laws.Cover3
import Derived.Test.YtbjeljmnknibnaaDoorSame
import Derived.Test.YtbjeljmnknibnaaDoorBut
import Derived.Test.YtbjeljmnknibnaaDoorPl
namespace Go.Proofs.YtbjeljmnknibnaaDoor
set_option linter.unusedSimpArgs false
set_option linter.unusedVariables false
open Go.RowKit

theorem run_eql_slice_nil (t e : TypeId) (a : Option Addr) (l c : Nat) (h : Tryd.prog.underlying t = some (.slice e)) (w : World) : (binOp .eql t (.slice a l c) (.slice none 0 0)).run Tryd.prog w = .ok (.bool a.isNone) w := by
  simp only [binOp]
  simp [run_equal_slice_nil w t e a l c h]
set_option maxHeartbeats 1000000 in
theorem clone_calls (a : Option Addr) (len cap : Nat) (xs : List UInt8) (w : World) {n : Nat} (h : IsB n w a len xs) (hn : n ≤ w.heap.size) (nn : a = none → cap = 0) (hm : len ≤ 90000) :
    Calls Tryd.prog 51 #[.slice a len cap] w fun e w' => ∃ a' c', e = .returned (.slice a' len c') ∧ OwnB w.heap.size w' a' len c' xs ∧ Below w.heap.size w w' := by
  have hnil : ∀ w, (binOp .eql 25 (.slice a len cap) (.slice none 0 0)).run Tryd.prog w = .ok (.bool a.isNone) w := run_eql_slice_nil _ _ _ _ _ Tryd.underlying25
  cases a with
  | none =>
    have hx : xs = [] := by
      rcases h.2 with e | ⟨b, off, e, _⟩
      · exact e
      · cases e
    have hl : len = 0 := by rw [h.1, hx]; rfl
    obtain rfl := nn rfl
    subst hx hl
    have hnil' : ∀ w, (binOp .eql 25 (.slice none 0 0) (.slice none 0 0)).run Tryd.prog w = .ok (.bool true) w := hnil
    go_enter Tryd.func51, Tryd.ntmps51
    go_wp2
    go_ret
    exact ⟨none, 0, rfl, ⟨rfl, World.ownsRow_nil _ _ _ _⟩, Below.refl _ _⟩
  | some ad =>
    have hnil' : ∀ w, (binOp .eql 25 (.slice (some ad) len cap) (.slice none 0 0)).run Tryd.prog w = .ok (.bool false) w := hnil
    clear hnil
    have b2 : Below w.heap.size w (w.alloc (.cells #[] 5)) := (Below.refl _ w).alloc (Nat.le_refl _) _
    obtain ⟨a4, c4, w4, hap4, o4, b4⟩ := run_app (w.alloc (.cells #[] 5)) w.heap.size 25 _ 0 0 _ (ownB_new w.heap.size w (Nat.le_refl _)) (some ad) len cap xs (h.below b2 hn) (by intro h; cases h) (by omega) (by simp)
    simp only [Nat.zero_add, List.nil_append] at hap4 o4
    clear h nn
    go_enter Tryd.func51, Tryd.ntmps51
    go_wp2_with (at_builtin; refine wpList_app hap4 _ _ rfl rfl rfl rfl rfl ?_)
    go_ret
    exact ⟨_, _, rfl, o4, b2.trans b4⟩
end Go.Proofs.YtbjeljmnknibnaaDoor
