/- Proved here: the walk of HeaderSides. Conditions: as each theorem states them. -/
import Derived.Test.YtehkcdnblhfnaaaDoorAwake
namespace Go.Proofs.YtehkcdnblhfnaaaDoor
open Go.RowKit

/-- The five cells of a header that was boxed, behind a call. -/
theorem box_cells (w w1 : World) (g p v t c : Int) (ty : TypeId) (b1 : Below (w.alloc (.cells #[.int .i64 g, .int .i64 p, .int .i64 v, .int .i64 t, .int .i64 c] ty)).heap.size (w.alloc (.cells #[.int .i64 g, .int .i64 p, .int .i64 v, .int .i64 t, .int .i64 c] ty)) w1) :
    (w1.cell? ⟨w.heap.size, 0, none⟩ = some (.int .i64 g) ∧ w1.cell? ⟨w.heap.size, 1, none⟩ = some (.int .i64 p) ∧ w1.cell? ⟨w.heap.size, 2, none⟩ = some (.int .i64 v) ∧ w1.cell? ⟨w.heap.size, 3, none⟩ = some (.int .i64 t) ∧ w1.cell? ⟨w.heap.size, 4, none⟩ = some (.int .i64 c)) ∧ w.heap.size < w1.heap.size := by
  have hc : ∀ k, w1.cell? ⟨w.heap.size, k, none⟩ = (w.alloc (.cells #[.int .i64 g, .int .i64 p, .int .i64 v, .int .i64 t, .int .i64 c] ty)).cell? ⟨w.heap.size, k, none⟩ := fun k => b1.cell (p := ⟨w.heap.size, k, none⟩) (by simp)
  refine ⟨⟨?_, ?_, ?_, ?_, ?_⟩, ?_⟩
  · rw [hc]; exact cell_new_any w _ ty (0, 0) 0 _ rfl
  · rw [hc]; exact cell_new_any w _ ty (0, 0) 1 _ rfl
  · rw [hc]; exact cell_new_any w _ ty (0, 0) 2 _ rfl
  · rw [hc]; exact cell_new_any w _ ty (0, 0) 3 _ rfl
  · rw [hc]; exact cell_new_any w _ ty (0, 0) 4 _ rfl
  · have := b1.size; simp at this; omega
/-- The same, behind one call more. -/
theorem cells_later {w1 w2 : World} {n b : Nat} (b2 : Below n w1 w2) (hb : b < n) {x0 x1 x2 x3 x4 : Value}
    (h : w1.cell? ⟨b, 0, none⟩ = some x0 ∧ w1.cell? ⟨b, 1, none⟩ = some x1 ∧ w1.cell? ⟨b, 2, none⟩ = some x2 ∧ w1.cell? ⟨b, 3, none⟩ = some x3 ∧ w1.cell? ⟨b, 4, none⟩ = some x4) :
    w2.cell? ⟨b, 0, none⟩ = some x0 ∧ w2.cell? ⟨b, 1, none⟩ = some x1 ∧ w2.cell? ⟨b, 2, none⟩ = some x2 ∧ w2.cell? ⟨b, 3, none⟩ = some x3 ∧ w2.cell? ⟨b, 4, none⟩ = some x4 := by
  have hc : ∀ k, w2.cell? ⟨b, k, none⟩ = w1.cell? ⟨b, k, none⟩ := fun k => b2.cell (p := ⟨b, k, none⟩) hb
  exact ⟨(hc 0).trans h.1, (hc 1).trans h.2.1, (hc 2).trans h.2.2.1, (hc 3).trans h.2.2.2.1, (hc 4).trans h.2.2.2.2⟩

/-- Pack, both ways in one: what it answers, and whether. -/
theorem pack_any (nni : Bool) (g p v t c : Int) (w : World) (tab : Tab w) :
    Calls Tryd.prog 10 #[.agg #[.int .i64 g, .int .i64 p, .int .i64 v, .int .i64 t, .int .i64 c], .bool nni] w fun e w' => ∃ a n cp er, e = .returned (.tuple #[.slice a n cp, .int .i64 er]) ∧
      ((rightB nni g p v t c = true ∧ n = 4 ∧ er = 0 ∧ IsB w'.heap.size w' a n (bytesN (word g p v t c).toNat)) ∨ (rightB nni g p v t c = false ∧ n = 0 ∧ er = 1 ∧ IsB w'.heap.size w' a n [])) ∧ Below w.heap.size w w' := by
  cases h : rightB nni g p v t c
  · refine (pack_no nni g p v t c w tab h).mono ?_
    rintro e w1 ⟨rfl, b1⟩
    exact ⟨none, 0, 0, 1, rfl, .inr ⟨rfl, rfl, rfl, rfl, .inl rfl⟩, b1⟩
  · have hw := word_lt h
    refine (pack_yes nni g p v t c (word g p v t c).toNat w tab h (by omega)).mono ?_
    rintro e w1 ⟨a, rfl, I, b1⟩
    exact ⟨a, 4, 4, 0, rfl, .inl ⟨rfl, rfl, rfl, I⟩, b1⟩

set_option maxHeartbeats 1000000 in
theorem sides_walk (g p v t c : Int) (w : World) (tab : Tab w) :
    Calls Tryd.prog 6 #[.agg #[.int .i64 g, .int .i64 p, .int .i64 v, .int .i64 t, .int .i64 c]] w fun e w' => e = .returned (.bool true) ∧ Below w.heap.size w w' := by
  have A0 : Below w.heap.size w (w.alloc (.cells #[.int .i64 g, .int .i64 p, .int .i64 v, .int .i64 t, .int .i64 c] 23)) := (Below.refl _ w).alloc (Nat.le_refl _) _
  have key1 : Hid (g = 0 → rightB false g p v t c = true → rightB true g p v t c = true) := by
    intro e h
    rw [right_user] at h
    rw [right_nni]
    omega
  have key2 : Hid (g ≠ 0 → rightB true g p v t c = false) := by
    intro e
    rw [wrong_nni]
    omega
  have key3 : Hid (g = 0 → rightB false g p v t c = false → rightB true g p v t c = true → 255 < p) := by
    intro e h h2
    rw [wrong_user] at h
    rw [right_nni] at h2
    omega
  go_enter Tryd.func6, Tryd.ntmps6
  go_wp2_with fail
  refine (awake_calls _ (tab.below A0 tab.1)).mono ?_
  rintro e w1 ⟨rfl, b1⟩
  have B1 := A0.trans (b1.mono (by simp))
  obtain ⟨C1, z1⟩ := box_cells w w1 g p v t c 23 b1
  clear b1
  have C1H := C1
  obtain ⟨k0, k1, k2, k3, k4⟩ := C1
  go_wp2_with fail
  refine (pack_any false g p v t c _ (tab.below B1 tab.1)).mono ?_
  rintro e w2 ⟨a2, n2, cp2, er2, rfl, h2, b2⟩
  have B2 := B1.trans (b2.mono B1.size)
  have C2 := cells_later b2 z1 C1H
  clear k0 k1 k2 k3 k4
  obtain ⟨k0, k1, k2, k3, k4⟩ := C2
  have C2H : Hid (w2.cell? ⟨w.heap.size, 0, none⟩ = some (.int .i64 g) ∧ w2.cell? ⟨w.heap.size, 1, none⟩ = some (.int .i64 p) ∧ w2.cell? ⟨w.heap.size, 2, none⟩ = some (.int .i64 v) ∧ w2.cell? ⟨w.heap.size, 3, none⟩ = some (.int .i64 t) ∧ w2.cell? ⟨w.heap.size, 4, none⟩ = some (.int .i64 c)) := ⟨k0, k1, k2, k3, k4⟩
  have H2 : Hid ((rightB false g p v t c = true ∧ n2 = 4 ∧ er2 = 0 ∧ IsB w2.heap.size w2 a2 n2 (bytesN (word g p v t c).toNat)) ∨ (rightB false g p v t c = false ∧ n2 = 0 ∧ er2 = 1 ∧ IsB w2.heap.size w2 a2 n2 [])) := h2
  clear h2 C1H
  go_wp2_with fail
  refine (pack_any true g p v t c _ (tab.below B2 tab.1)).mono ?_
  rintro e w3 ⟨a3, n3, cp3, er3, rfl, h3, b3⟩
  have B3 := B2.trans (b3.mono B2.size)
  have C3 := cells_later b3 (Nat.lt_of_lt_of_le z1 b2.size) C2H.out
  clear k0 k1 k2 k3 k4
  obtain ⟨k0, k1, k2, k3, k4⟩ := C3
  by_cases g0 : g = 0
  · subst g0
    rcases H2.out with ⟨r2, rfl, rfl, I2⟩ | ⟨r2, rfl, rfl, I2⟩
    · rcases h3 with ⟨r3, rfl, rfl, I3⟩ | ⟨r3, rfl, rfl, I3⟩
      · clear r2 r3 H2 key1 key2 key3
        go_wp2_with fail
        refine (same_calls _ _ _ _ _ _ _ _ _ (I2.below b3 (Nat.le_refl _)) I3 b3.size (Nat.le_refl _) (by decide)).mono ?_
        rintro e w4 ⟨rfl, b4⟩
        rw [beq_self_eq_true]
        go_wp2
        go_ret
        exact ⟨rfl, B3.trans (b4.mono B3.size)⟩
      · rw [key1.out rfl r2] at r3
        cases r3
    · rcases h3 with ⟨r3, rfl, rfl, I3⟩ | ⟨r3, rfl, rfl, I3⟩
      · have hp := key3.out rfl r2 r3
        clear r2 r3 H2 key1 key2 key3 I2 I3
        go_wp2
        go_ret
        exact ⟨rfl, B3⟩
      · clear r2 r3 H2 key1 key2 key3 I2 I3
        go_wp2
        go_ret
        exact ⟨rfl, B3⟩
  · have gn : (g != 0) = true := by simpa using g0
    rcases h3 with ⟨r3, rfl, rfl, I3⟩ | ⟨r3, rfl, rfl, I3⟩
    · rw [key2.out g0] at r3
      cases r3
    · clear r3 H2 key1 key2 key3 I3 g0
      go_wp2
      go_ret
      exact ⟨rfl, B3⟩
end Go.Proofs.YtehkcdnblhfnaaaDoor
