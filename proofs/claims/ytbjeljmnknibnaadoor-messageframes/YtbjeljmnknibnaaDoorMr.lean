/- Proved here: whether a message can be, told by the code and by the document. Conditions: as each theorem states them. -/
import Derived.Test.YtbjeljmnknibnaaDoorAny
import Derived.Test.YtbjeljmnknibnaaDoorKn
import Derived.Test.YtbjeljmnknibnaaDoorSt
namespace Go.Proofs.YtbjeljmnknibnaaDoor
set_option linter.unusedSimpArgs false
set_option linter.unusedVariables false
open Go.RowKit Go.Shelf

/-- A message as it lies: its cells. -/
abbrev meC (r : Int) (b : Bool) (k : Int) (a : Option Addr) (n c : Nat) : Array Value := #[.int .i64 r, .bool b, .int .i64 k, .slice a n c]
abbrev meV (r : Int) (b : Bool) (k : Int) (a : Option Addr) (n c : Nat) : Value := .agg (meC r b k a n c)
theorem size_M : (Tryd.prog.info? 24).map (·.size) = some 4 := by kernel_rfl
theorem zero_M (w : World) : (zeroValue 24).run Tryd.prog w = .ok (.agg (meC 0 false 0 none 0 0)) w := by kernel_rfl
theorem one_M (r : Int) (b : Bool) (k : Int) (a : Option Addr) (n c : Nat) : (meC r b k a n c).all (·.oneCell') = true := by simp [Value.oneCell']
theorem run_ldM {w : World} {g : Nat} {r : Int} {b : Bool} {k : Int} {a : Option Addr} {n c : Nat} (h : BK w g (meC r b k a n c) 24) : (Instr.loadAt 24 (.pointer (some ⟨g, 0, none⟩))).run Tryd.prog w = .ok (meV r b k a n c) w := run_ldw h Tryd.underlying24 (by kernel_rfl)
theorem me_box {w : World} {r : Int} {b : Bool} {k : Int} {a : Option Addr} {n c : Nat} : BK (w.alloc (.cells (meC r b k a n c) 24)) w.heap.size (meC r b k a n c) 24 := bk_new w _ _
theorem me_below {w : World} {r : Int} {b : Bool} {k : Int} {a : Option Addr} {n c : Nat} : Below w.heap.size w (w.alloc (.cells (meC r b k a n c) 24)) := (Below.refl _ w).alloc (Nat.le_refl _) _
/-- The message of these. -/
abbrev mk (r : Int) (b : Bool) (k : Int) (L : List El) : Me := ⟨r, b, k, L⟩
theorem right_of (r : Int) (b : Bool) (k : Int) (L : List El) : rightM (mk r b k L) = (okL L && (decide (1 ≤ r) && (decide (r ≤ 8388607) && knownB k))) := by
  simp [rightM, knownB]

set_option maxHeartbeats 1000000 in
theorem mright_calls (r : Int) (b : Bool) (k : Int) (a : Option Addr) (n c : Nat) (L : List El) (w : World) {m0 : Nat} (hv : IsI m0 w a n L) (hm0 : m0 ≤ w.heap.size) (hn : n ≤ 1000) (ht : Tab w) :
    Calls Tryd.prog 17 #[meV r b k a n c] w fun e w' => e = .returned (.bool (rightM (mk r b k L))) ∧ Below w.heap.size w w' := by
  have A0 := me_below (w := w) (r := r) (b := b) (k := k) (a := a) (n := n) (c := c)
  have K0 := me_box (w := w) (r := r) (b := b) (k := k) (a := a) (n := n) (c := c)
  have HR : Hid (rightM (mk r b k L) = (okL L && (decide (1 ≤ r) && (decide (r ≤ 8388607) && knownB k)))) := right_of r b k L
  have HP := pack_all a n c L (w.alloc (.cells (meC r b k a n c) 24)) (hv.below A0 hm0) (Nat.le_trans hm0 A0.size) hn
  clear hv
  cases hok : okL L
  · have he : pkE L = 6 := by simp [pkE, hok]
    rw [hok] at HR
    go_enter Tryd.func17, Tryd.ntmps17
    go_wp2_with fail
    refine HP.mono ?_
    rintro e w1 ⟨a1, n1, c1, rfl, i1, b1⟩
    have B1 := A0.trans (b1.mono A0.size)
    rw [he]
    clear HP
    go_wp2
    go_ret
    exact ⟨ret_bool (by rw [HR.out]; simp), B1⟩
  · have he : pkE L = 0 := by simp [pkE, hok]
    rw [hok] at HR
    go_enter Tryd.func17, Tryd.ntmps17
    go_wp2_with fail
    refine HP.mono ?_
    rintro e w1 ⟨a1, n1, c1, rfl, i1, b1⟩
    have B1 := A0.trans (b1.mono A0.size)
    have K1 := K0.below b1 K0.lt
    have p0 := K1.cell 0 _ rfl
    have p2 := K1.cell 2 _ rfl
    have T1 := ht.on B1
    rw [he]
    clear HP i1 b1 K0 K1 A0 hok he
    by_cases h1 : 1 ≤ r
    · have q1 : decide (1 ≤ r) = true := by simpa using h1
      by_cases h2 : r ≤ 8388607
      · have q2 : decide (r ≤ 8388607) = true := by simpa using h2
        have HE : Hid (rightM (mk r b k L) = knownB k) := by show _ = _; rw [HR.out, q1, q2]; simp
        clear h1 h2 HR
        go_wp2_with fail
        refine (known_calls k w1 T1).mono ?_
        rintro e w2 ⟨rfl, b2⟩
        go_wp2
        go_ret
        exact ⟨ret_bool HE.out.symm, B1.trans (b2.mono B1.size)⟩
      · have q2 : decide (r ≤ 8388607) = false := by simpa using h2
        have HE : Hid (rightM (mk r b k L) = false) := by show _ = _; rw [HR.out, q2]; simp
        clear h1 h2 HR
        go_wp2
        go_ret
        exact ⟨ret_bool HE.out.symm, B1⟩
    · have q1 : decide (1 ≤ r) = false := by simpa using h1
      have HE : Hid (rightM (mk r b k L) = false) := by show _ = _; rw [HR.out, q1]; simp
      clear h1 HR
      go_wp2
      go_ret
      exact ⟨ret_bool HE.out.symm, B1⟩

set_option maxHeartbeats 1000000 in
theorem refmright_calls (r : Int) (b : Bool) (k : Int) (a : Option Addr) (n c : Nat) (L : List El) (w : World) {m0 : Nat} (hv : IsI m0 w a n L) (hm0 : m0 ≤ w.heap.size) (hn : n ≤ 1000) :
    Calls Tryd.prog 18 #[meV r b k a n c] w fun e w' => e = .returned (.bool (rightM (mk r b k L))) ∧ Below w.heap.size w w' := by
  have A0 := me_below (w := w) (r := r) (b := b) (k := k) (a := a) (n := n) (c := c)
  have K0 := me_box (w := w) (r := r) (b := b) (k := k) (a := a) (n := n) (c := c)
  have HR : Hid (rightM (mk r b k L) = (okL L && (decide (1 ≤ r) && (decide (r ≤ 8388607) && knownB k)))) := right_of r b k L
  have HP := refpack_all a n c L (w.alloc (.cells (meC r b k a n c) 24)) (hv.below A0 hm0) (Nat.le_trans hm0 A0.size) hn
  clear hv
  obtain ⟨E, hE⟩ : ∃ E, pkE L = E := ⟨_, rfl⟩
  have HEE : Hid ((E == 0) = okL L) := by
    show _ = _
    rw [← hE]
    unfold pkE
    cases okL L <;> rfl
  go_enter Tryd.func18, Tryd.ntmps18
  go_wp2_with fail
  refine HP.mono ?_
  rintro e w1 ⟨a1, n1, c1, rfl, i1, b1⟩
  have B1 := A0.trans (b1.mono A0.size)
  have K1 := K0.below b1 K0.lt
  have p0 := K1.cell 0 _ rfl
  have p2 := K1.cell 2 _ rfl
  rw [hE]
  clear HP i1 b1 K0 K1 A0 hE
  by_cases h1 : 1 ≤ r
  · have q1 : decide (1 ≤ r) = true := by simpa using h1
    by_cases h2 : r ≤ 8388607
    · have q2 : decide (r ≤ 8388607) = true := by simpa using h2
      have HE : Hid (rightM (mk r b k L) = (okL L && knownB k)) := by show _ = _; rw [HR.out, q1, q2]; simp
      clear h1 h2 HR
      go_wp2_with fail
      refine (refknown_calls k w1).mono ?_
      rintro e w2 ⟨rfl, rfl⟩
      cases hk : knownB k
      · rw [hk] at HE
        clear hk
        go_wp2
        go_ret
        exact ⟨ret_bool (by rw [HE.out]; simp), B1⟩
      · rw [hk] at HE
        clear hk
        go_wp2
        go_ret
        exact ⟨ret_bool (by rw [HE.out, HEE.out]; simp), B1⟩
    · have q2 : decide (r ≤ 8388607) = false := by simpa using h2
      have HE : Hid (rightM (mk r b k L) = false) := by show _ = _; rw [HR.out, q2]; simp
      clear h1 h2 HR
      go_wp2
      go_ret
      exact ⟨ret_bool HE.out.symm, B1⟩
  · have q1 : decide (1 ≤ r) = false := by simpa using h1
    have HE : Hid (rightM (mk r b k L) = false) := by show _ = _; rw [HR.out, q1]; simp
    clear h1 HR
    go_wp2
    go_ret
    exact ⟨ret_bool HE.out.symm, B1⟩
end Go.Proofs.YtbjeljmnknibnaaDoor
