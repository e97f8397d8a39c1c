/- Proved here: header.Right, header.Pack. Conditions: as each theorem states them. -/
import Derived.Test.YtpifmljbaogcbaaDoorHLay
namespace Go.Proofs.YtpifmljbaogcbaaDoor.H
open Go.RowKit

theorem lay_yes (nni : Bool) (g p v t c : Int) (w : World) (ht : Tab w) (h : rightB nni g p v t c = true) :
    Calls Tryd.prog 41 #[.agg #[.int .i64 g, .int .i64 p, .int .i64 v, .int .i64 t, .int .i64 c], .bool nni] w fun e w' => e = .returned (.tuple #[.int .u32 (word g p v t c), .bool true]) ∧ Below w.heap.size w w' := by
  cases nni
  · obtain ⟨⟨g0, g1⟩, ⟨p0, p1⟩, ⟨v0, v1⟩, ⟨t0, t1⟩, c0, c1⟩ := right_user.1 h
    exact lay_user g p v t c w ht g0 g1 p0 p1 v0 v1 t0 t1 c0 c1
  · obtain ⟨rfl, ⟨p0, p1⟩, ⟨v0, v1⟩, ⟨t0, t1⟩, c0, c1⟩ := right_nni.1 h
    exact lay_nni p v t c w ht p0 p1 v0 v1 t0 t1 c0 c1

theorem lay_no (nni : Bool) (g p v t c : Int) (w : World) (ht : Tab w) (h : rightB nni g p v t c = false) :
    Calls Tryd.prog 41 #[.agg #[.int .i64 g, .int .i64 p, .int .i64 v, .int .i64 t, .int .i64 c], .bool nni] w fun e w' => (∃ x, e = .returned (.tuple #[.int .u32 x, .bool false])) ∧ Below w.heap.size w w' := by
  cases nni
  · have hh := wrong_user.1 h
    by_cases a0 : 0 ≤ g ∧ g < 16
    · by_cases a1 : 0 ≤ p ∧ p < 256
      · by_cases a2 : 0 ≤ v ∧ v < 65536
        · by_cases a3 : 0 ≤ t ∧ t < 8
          · exact lay_user4 g p v t c w ht a0.1 a0.2 a1.1 a1.2 a2.1 a2.2 a3.1 a3.2 (by simp; omega)
          · exact lay_user3 g p v t c w ht a0.1 a0.2 a1.1 a1.2 a2.1 a2.2 (by simp; omega)
        · exact lay_user2 g p v t c w ht a0.1 a0.2 a1.1 a1.2 (by simp; omega)
      · exact lay_user1 g p v t c w ht a0.1 a0.2 (by simp; omega)
    · exact lay_user0 g p v t c w ht (by simp; omega)
  · have hh := wrong_nni.1 h
    by_cases a0 : g = 0
    · subst a0
      by_cases a1 : 0 ≤ p ∧ p < 4096
      · by_cases a2 : 0 ≤ v ∧ v < 65536
        · by_cases a3 : 0 ≤ t ∧ t < 8
          · exact lay_nni4 p v t c w ht a1.1 a1.2 a2.1 a2.2 a3.1 a3.2 (by simp; omega)
          · exact lay_nni3 p v t c w ht a1.1 a1.2 a2.1 a2.2 (by simp; omega)
        · exact lay_nni2 p v t c w ht a1.1 a1.2 (by simp; omega)
      · exact lay_nni1 p v t c w ht (by simp; omega)
    · exact lay_nni0 g p v t c w ht (by simpa using a0)

set_option maxHeartbeats 400000 in
theorem pack_no (nni : Bool) (g p v t c : Int) (w : World) (ht : Tab w) (h : rightB nni g p v t c = false) :
    Calls Tryd.prog 27 #[.agg #[.int .i64 g, .int .i64 p, .int .i64 v, .int .i64 t, .int .i64 c], .bool nni] w fun e w' => e = .returned (.tuple #[.slice none 0 0, .int .i64 1]) ∧ Below w.heap.size w w' := by
  have tab := ht.below ((Below.refl w.heap.size w).alloc (Nat.le_refl _) (.cells #[.int .i64 g, .int .i64 p, .int .i64 v, .int .i64 t, .int .i64 c] 23)) ht.1
  have H : Hid (rightB nni g p v t c = false) := h
  clear h
  go_enter Tryd.func27, Tryd.ntmps27
  go_wp2_with fail
  refine (lay_no nni g p v t c _ tab H.out).mono ?_
  rintro e w1 ⟨⟨x, rfl⟩, b1⟩
  go_wp2
  go_ret2
  exact ⟨rfl, ((Below.refl _ w).alloc (Nat.le_refl _) _).trans (b1.mono (by simp))⟩

set_option maxHeartbeats 400000 in
theorem pack_yes (nni : Bool) (g p v t c : Int) (n : Nat) (w : World) (ht : Tab w) (h : rightB nni g p v t c = true) (hn : word g p v t c = (n : Int)) :
    Calls Tryd.prog 27 #[.agg #[.int .i64 g, .int .i64 p, .int .i64 v, .int .i64 t, .int .i64 c], .bool nni] w fun e w' => ∃ a, e = .returned (.tuple #[.slice a 4 4, .int .i64 0]) ∧ IsB w'.heap.size w' a 4 (bytesN n) ∧ Below w.heap.size w w' := by
  have tab := ht.below ((Below.refl w.heap.size w).alloc (Nat.le_refl _) (.cells #[.int .i64 g, .int .i64 p, .int .i64 v, .int .i64 t, .int .i64 c] 23)) ht.1
  have hlt : n < 4294967296 := by have := word_lt h; omega
  have H : Hid (rightB nni g p v t c = true) := h
  have HN : Hid (word g p v t c = (n : Int)) := hn
  clear h hn
  go_enter Tryd.func27, Tryd.ntmps27
  go_wp2_with fail
  refine (lay_yes nni g p v t c _ tab H.out).mono ?_
  rintro e w1 ⟨rfl, b1⟩
  rw [HN.out]
  go_wp2
  go_ret2
  refine ⟨_, rfl, ?_, ((((Below.refl _ w).alloc (Nat.le_refl _) _).trans (b1.mono (by simp))).alloc (by have := b1.size; simp at this; omega) _)⟩
  rw [World.size_alloc]
  exact isB_bytes w1 n hlt 5 (0, 0)
end Go.Proofs.YtpifmljbaogcbaaDoor.H
