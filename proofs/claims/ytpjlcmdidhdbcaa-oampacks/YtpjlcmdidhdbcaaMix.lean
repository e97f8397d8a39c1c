/- Proved here: a list whose first elements come from another one. No condition but those stated. -/
import Derived.Test.YtpjlcmdidhdbcaaApp
namespace Go.Proofs.Ytpjlcmdidhdbcaa
set_option linter.unusedSimpArgs false
set_option linter.unusedVariables false

def mix (s t : List UInt8) (k : Nat) : List UInt8 := t.take k ++ s.drop k
theorem mix_zero (s t : List UInt8) : mix s t 0 = s := by simp [mix]
theorem mix_all (s t : List UInt8) (h : t.length = s.length) : mix s t s.length = t := by simp [mix, ← h]
theorem mix_get (s t : List UInt8) (k : Nat) (h : t.length = s.length) (hk : k < s.length) : (mix s t k)[k]? = s[k]? := by
  rw [mix, List.getElem?_append_right (by simp; omega)]; simp [show min k t.length = k from by omega]
theorem mix_set (s t : List UInt8) (k : Nat) (h : t.length = s.length) (y : UInt8) (hy : t[k]? = some y) : (mix s t k).set k y = mix s t (k + 1) := by
  have hk : k < t.length := (List.getElem?_eq_some_iff.1 hy).1
  unfold mix
  rw [List.set_append_right _ _ (by simp; omega), List.take_add_one, hy]
  have e : (List.drop k s).set (k - (List.take k t).length) y = y :: List.drop (k + 1) s := by
    rw [List.length_take, show k - min k t.length = 0 from by omega, List.drop_eq_getElem_cons (show k < s.length by omega)]; rfl
  rw [e]; simp
end Go.Proofs.Ytpjlcmdidhdbcaa
