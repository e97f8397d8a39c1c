/- Proved here: two gatherers side by side: the project's and the document's, or two of the project's. Conditions: as each theorem states them. -/
import Derived.Test.YtfmicnjijcmjaaaRg
import Derived.Test.YtfmicnjijcmjaaaAw
import Derived.Test.YtfmicnjijcmjaaaPt
namespace Go.Proofs.Ytfmicnjijcmjaaa
set_option linter.unusedSimpArgs false
set_option linter.unusedVariables false
open Go.RowKit

/-- The project's and the document's, side by side. -/
structure TI (n q p : Nat) (w0 w : World) (F G : Nat → Prop) (S T : Ga) : Prop where
  g : GV w F q S
  r : RV w G p T
  sep : ∀ k, F k → ¬ G k
  f : ∀ k, F k → n ≤ k
  gg : ∀ k, G k → n ≤ k
  b : Below n w0 w
theorem TI.below {n q p : Nat} {w0 w w' : World} {F G : Nat → Prop} {S T : Ga} (h : TI n q p w0 w F G S T) {m : Nat} (hb : Below m w w') (hm : w.heap.size ≤ m) (hn : n ≤ w0.heap.size) : TI n q p w0 w' F G S T :=
  ⟨h.g.below hb hm, h.r.below hb hm, h.sep, h.f, h.gg, h.b.trans (hb.mono (Nat.le_trans (Nat.le_trans hn h.b.size) hm))⟩
theorem TI.left {n q p : Nat} {w0 w w' : World} {F F' G : Nat → Prop} {S S' T : Ga} (h : TI n q p w0 w F G S T) (hn : n ≤ w0.heap.size) (hg : GV w' F' q S') (k : Ft F F' w w') : TI n q p w0 w' F' G S' T :=
  ⟨hg, h.r.frame k h.sep, k.sep h.sep h.r.lt, k.from h.f (Nat.le_trans hn h.b.size), h.gg, h.b.trans (k.below h.f (Nat.le_trans hn h.b.size))⟩
theorem TI.right {n q p : Nat} {w0 w w' : World} {F G G' : Nat → Prop} {S T T' : Ga} (h : TI n q p w0 w F G S T) (hn : n ≤ w0.heap.size) (hr : RV w' G' p T') (k : Ft G G' w w') : TI n q p w0 w' F G' S T' :=
  ⟨h.g.frame k (fun j hG hF => h.sep j hF hG), hr, fun j hF hG' => k.sep (G := F) (fun i hG hF => h.sep i hF hG) h.g.x.lt j hG' hF, h.f, k.from h.gg (Nat.le_trans hn h.b.size), h.b.trans (k.below h.gg (Nat.le_trans hn h.b.size))⟩
/-- Two of the project's, side by side. -/
structure UI (n q p : Nat) (w0 w : World) (F G : Nat → Prop) (S T : Ga) : Prop where
  g : GV w F q S
  r : GV w G p T
  sep : ∀ k, F k → ¬ G k
  f : ∀ k, F k → n ≤ k
  gg : ∀ k, G k → n ≤ k
  b : Below n w0 w
theorem UI.below {n q p : Nat} {w0 w w' : World} {F G : Nat → Prop} {S T : Ga} (h : UI n q p w0 w F G S T) {m : Nat} (hb : Below m w w') (hm : w.heap.size ≤ m) (hn : n ≤ w0.heap.size) : UI n q p w0 w' F G S T :=
  ⟨h.g.below hb hm, h.r.below hb hm, h.sep, h.f, h.gg, h.b.trans (hb.mono (Nat.le_trans (Nat.le_trans hn h.b.size) hm))⟩
theorem UI.left {n q p : Nat} {w0 w w' : World} {F F' G : Nat → Prop} {S S' T : Ga} (h : UI n q p w0 w F G S T) (hn : n ≤ w0.heap.size) (hg : GV w' F' q S') (k : Ft F F' w w') : UI n q p w0 w' F' G S' T :=
  ⟨hg, h.r.frame k h.sep, k.sep h.sep h.r.x.lt, k.from h.f (Nat.le_trans hn h.b.size), h.gg, h.b.trans (k.below h.f (Nat.le_trans hn h.b.size))⟩
theorem UI.right {n q p : Nat} {w0 w w' : World} {F G G' : Nat → Prop} {S T T' : Ga} (h : UI n q p w0 w F G S T) (hn : n ≤ w0.heap.size) (hr : GV w' G' p T') (k : Ft G G' w w') : UI n q p w0 w' F G' S T' :=
  ⟨h.g.frame k (fun j hG hF => h.sep j hF hG), hr, fun j hF hG' => k.sep (G := F) (fun i hG hF => h.sep i hF hG) h.g.x.lt j hG' hF, h.f, k.from h.gg (Nat.le_trans hn h.b.size), h.b.trans (k.below h.gg (Nat.le_trans hn h.b.size))⟩
end Go.Proofs.Ytfmicnjijcmjaaa
