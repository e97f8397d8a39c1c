/- Proved here: frame.Cells, and what its iterator keeps its word on; the parts side by side. Conditions: as each theorem states them. -/
import Derived.Test.YtfmicnjijcmjaaaItc
import Derived.Test.YtfmicnjijcmjaaaPk
namespace Go.Proofs.Ytfmicnjijcmjaaa
set_option linter.unusedSimpArgs false
set_option linter.unusedVariables false
open Go.RowKit Go.Shelf
attribute [local go_sem] Oper.semAt_some

/-- Parts, side by side. -/
def catN (zs : List UInt8) (l : List Nat) : List UInt8 := l.flatMap (chunk zs)
theorem catN_snoc (zs : List UInt8) (l : List Nat) (i : Nat) : catN zs (l ++ [i]) = catN zs l ++ chunk zs i := by simp [catN]
theorem catN_range (zs : List UInt8) : ∀ j, catN zs (List.range j) = zs.take (48 * j)
  | 0 => rfl
  | j + 1 => by
    rw [List.range_succ, catN_snoc, catN_range zs j, chunk, show 48 * (j + 1) = 48 * j + 48 from by omega, List.take_add]
theorem catN_len {zs : List UInt8} : ∀ (l : List (Ix48 zs)), (catN zs (l.map (·.1))).length = 48 * l.length
  | [] => rfl
  | x :: l => by
    have h := catN_len l
    simp only [catN] at h
    simp only [catN, List.map_cons, List.flatMap_cons, List.length_append, chunk_len x.2, List.length_cons, h]; omega

theorem OwnB.inG {base : Nat} {w : World} {a : Option Addr} {n c : Nat} {zs : List UInt8} (h : OwnB base w a n c zs) {B : Nat} (hb : base ≤ B) (hB : B < w.heap.size) : ∃ g, base ≤ g ∧ g < w.heap.size ∧ InG g w a n zs := by
  have hI := h.isB.1
  by_cases hn : 0 < n
  · obtain ⟨g, cur, rfl, h1, h2, _⟩ := h.block hn
    refine ⟨g, h1, h2, h.1, ?_⟩
    rcases hI.2 with e | ⟨b, off, e, _, hc⟩
    · exact .inl e
    · cases e; exact .inr ⟨0, rfl, hc⟩
  · refine ⟨B, hb, hB, h.1, .inl ?_⟩
    have := h.1
    exact List.eq_nil_of_length_eq_zero (by omega)

set_option maxHeartbeats 1000000 in
theorem cells_calls (a : Option Addr) (len cap : Nat) (zs : List UInt8) (w : World) {n : Nat} (h : IsB n w a len zs) (hn : n ≤ w.heap.size) (nn : a = none → cap = 0) (hl : len ≤ 3000) :
    Calls Try.prog 21 #[.slice a len cap] w fun e w' => ∃ (Bp g : Nat) (a' : Option Addr) (c' : Nat), e = .returned (.func (.func 30) #[] #[.pointer (some ⟨Bp, 0, none⟩)]) ∧ Boxed w' Bp 32 (.slice a' len c') ∧ len ≤ c' ∧
      w.heap.size ≤ g ∧ g < w'.heap.size ∧ InG g w' a' len zs ∧ Below w.heap.size w w' := by
  go_enter Try.func21, Try.ntmps21
  go_wp2_with fail
  refine (clone_calls _ _ _ _ _ h hn nn (by omega)).mono ?_
  rintro e w1 ⟨a1, c1, rfl, o1, b1⟩
  have K1 := Boxed.new w1 32 (.slice a1 len c1)
  have B1 : Below w.heap.size w (w1.alloc (.cells #[.slice a1 len c1] 32)) := b1.alloc b1.size _
  have O1 := o1.below (m := w1.heap.size) ((Below.refl w1.heap.size w1).alloc (Nat.le_refl _) (.cells #[.slice a1 len c1] 32)) (Nat.le_refl _)
  obtain ⟨g, hg1, hg2, hG⟩ := O1.inG (B := w1.heap.size) b1.size (by simp)
  have hc := o1.isB.2.2
  have hlt : w1.heap.size < (w1.alloc (.cells #[.slice a1 len c1] 32)).heap.size := by simp
  clear o1 O1 b1 h
  go_wp2
  go_ret
  exact ⟨_, g, a1, c1, rfl, K1, hc, hg1, hg2, hG, B1⟩

theorem cells_stops (n : Nat) (hn : 1 ≤ n) (Bp g len cap : Nat) (a : Option Addr) (zs : List UInt8) (hl : len ≤ 3000) (w : World) (hB : Boxed w Bp 32 (.slice a len cap)) (hI : InG g w a len zs) (hcap : len ≤ cap) (hg : g < w.heap.size) :
    SeqStopsK Fence.wide n Try.prog 30 #[.pointer (some ⟨Bp, 0, none⟩)] (encC zs) (Kq g) (fun ys => ys.map (·.1) = List.range (zs.length / 48)) (fun pre => ∃ j, j ≤ zs.length / 48 ∧ pre.map (·.1) = List.range j) (zs.length / 48) w := fun l J Jx W hW hJ _ hY h0 =>
  cells1_in n hn l Bp g len cap a zs hl W J Jx hJ hY ((hW.cell (p := ⟨Bp, 0, none⟩) hB.lt).trans hB.cell) (hI.kq (Kq.of hW hg)) hcap (Nat.lt_of_lt_of_le hg hW.size) h0
end Go.Proofs.Ytfmicnjijcmjaaa
