/- Proved here: an array of bytes that came in, as one letter. Conditions: as each theorem states them. -/
import Derived.Test.YtpjlcmdidhdbcaaWhole
namespace Go.Proofs.Ytpjlcmdidhdbcaa
set_option linter.unusedSimpArgs false
set_option linter.unusedVariables false
open Go.RowKit

theorem pay_of {zs : List Int} (hw : ∀ z ∈ zs, (Lit.int .u8 z).wf = true) : ∃ ps : List UInt8, ps.length = zs.length ∧ (zs.map fun z => Value.int .u8 z).toArray = payV ps := by
  have key : ∀ zs : List Int, (∀ z ∈ zs, (Lit.int .u8 z).wf = true) → ∃ ps : List UInt8, ps.length = zs.length ∧ (zs.map fun z => Value.int .u8 z) = vals ps := by
    intro zs
    induction zs with
    | nil => intro _; exact ⟨[], rfl, rfl⟩
    | cons z zs ih =>
      intro h
      obtain ⟨ps, hl, he⟩ := ih (fun x hx => h x (List.mem_cons_of_mem _ hx))
      obtain ⟨x, rfl⟩ := byte_of_wf (h z (List.mem_cons_self ..))
      exact ⟨x :: ps, by simp [hl], by simp [he, vals]⟩
  obtain ⟨ps, hl, he⟩ := key zs hw
  exact ⟨ps, hl, by rw [he]; rfl⟩

end Go.Proofs.Ytpjlcmdidhdbcaa
