/- Proved here: two bits that are turned over tell none. No condition. -/
import Derived.Test.YtcehhldeocpanaaMathC
namespace Go.Proofs.Ytcehhldeocpanaa

/-- The differences that the forty bits make. -/
def synTab : List Nat := (List.range 40).map fun n => synN (dam n)
theorem synTab_get (n : Nat) (h : n < 40) : synTab[n]? = some (synN (dam n)) := by simp [synTab, h]
theorem tab_two : ((List.range 40).all fun p => (List.range 40).all fun q => p == q || synTab.all fun s => s != (synTab.getD p 0 ^^^ synTab.getD q 0)) = true := by decide +kernel
theorem two_none (p q : Nat) (hp : p < 40) (hq : q < 40) (h : p ≠ q) : bitN (synN (dam p) ^^^ synN (dam q)) = none := by
  have a := List.all_eq_true.1 (List.all_eq_true.1 tab_two p (List.mem_range.2 hp)) q (List.mem_range.2 hq)
  have e : (p == q) = false := beq_eq_false_iff_ne.2 h
  rw [e, Bool.false_or] at a
  apply bitN_none
  intro j hj ej
  have b := List.all_eq_true.1 a (synN (dam j)) (List.mem_of_getElem? (synTab_get j hj))
  rw [List.getD_eq_getElem?_getD, List.getD_eq_getElem?_getD, synTab_get p hp, synTab_get q hq] at b
  simp [ej] at b
end Go.Proofs.Ytcehhldeocpanaa
