/- Proved here: lists of five. No condition. -/
import Derived.Test.YtpjlcmdidhdbcaaOpen
namespace Go.Proofs.Ytpjlcmdidhdbcaa
theorem list5 {α : Type} : ∀ {l : List α}, l.length = 5 → ∃ y0 y1 y2 y3 y4, l = [y0, y1, y2, y3, y4]
  | [y0, y1, y2, y3, y4], _ => ⟨y0, y1, y2, y3, y4, rfl⟩
end Go.Proofs.Ytpjlcmdidhdbcaa
