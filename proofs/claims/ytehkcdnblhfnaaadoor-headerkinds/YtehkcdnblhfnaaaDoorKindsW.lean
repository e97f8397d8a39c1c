/- Proved here: the walk of HeaderKinds. Conditions: as each theorem states them. -/
import Derived.Test.YtehkcdnblhfnaaaDoorSidesW
namespace Go.Proofs.YtehkcdnblhfnaaaDoor
open Go.RowKit

theorem kindT_range (t : Int) : 1 ≤ kindT t ∧ kindT t ≤ 10 ∧ kindT t ≠ 2 ∧ kindT t ≠ 3 := by
  unfold kindT; split <;> (try split) <;> (try split) <;> (try split) <;> decide
theorem kindN_range (p v t c : Int) : 1 ≤ kindN p v t c ∧ kindN p v t c ≤ 10 := by
  have := kindT_range t
  unfold kindN
  repeat' split
  all_goals omega
theorem kindN_clp (p v t c c' : Int) (hv : v ≠ 0) : kindN p v t c' = kindN p v t c := by simp [kindN, hv]
theorem kindN_none (p v t c : Int) : (kindN p v t c = 2 ∨ kindN p v t c = 3) ↔ (p = 0 ∧ v = 0 ∧ (c = 0 ∨ c = 1 ∧ t = 0)) := by
  have := kindT_range t
  unfold kindN
  repeat' split
  all_goals omega

set_option maxHeartbeats 2000000 in
theorem kinds_walk (g p v t c gf cl : Int) (w : World) (tab : Tab w) :
    Calls Tryd.prog 5 #[.agg #[.int .i64 g, .int .i64 p, .int .i64 v, .int .i64 t, .int .i64 c], .int .i64 gf, .int .i64 cl] w fun e w' => e = .returned (.bool true) ∧ Below w.heap.size w w' := by
  have A0 : Below w.heap.size w (w.alloc (.cells #[.int .i64 g, .int .i64 p, .int .i64 v, .int .i64 t, .int .i64 c] 23)) := (Below.refl _ w).alloc (Nat.le_refl _) _
  have kr := kindN_range p v t c
  have kn := kindN_none p v t c
  have kc : Hid (v ≠ 0 → kindN p v t cl = kindN p v t c) := fun h => kindN_clp p v t c cl h
  obtain ⟨k, hk⟩ : ∃ k, kindN p v t c = k := ⟨_, rfl⟩
  rw [hk] at kr kn
  have HK : Hid (kindN p v t c = k) := hk
  have KN : Hid ((k = 2 ∨ k = 3) ↔ (p = 0 ∧ v = 0 ∧ (c = 0 ∨ c = 1 ∧ t = 0))) := kn
  obtain ⟨kr1, kr2⟩ := kr
  clear hk kn
  go_enter Tryd.func5, Tryd.ntmps5
  go_wp2_with fail
  refine (awake_calls _ (tab.below A0 tab.1)).mono ?_
  rintro e w1 ⟨rfl, b1⟩
  have B1 := A0.trans (b1.mono (by simp))
  obtain ⟨C1, z1⟩ := box_cells w w1 g p v t c 23 b1
  clear b1
  have C1H : Hid (w1.cell? ⟨w.heap.size, 0, none⟩ = some (.int .i64 g) ∧ w1.cell? ⟨w.heap.size, 1, none⟩ = some (.int .i64 p) ∧ w1.cell? ⟨w.heap.size, 2, none⟩ = some (.int .i64 v) ∧ w1.cell? ⟨w.heap.size, 3, none⟩ = some (.int .i64 t) ∧ w1.cell? ⟨w.heap.size, 4, none⟩ = some (.int .i64 c)) := C1
  obtain ⟨k0, k1, k2, k3, k4⟩ := C1
  go_wp2_with fail
  refine (kind_calls g p v t c _).mono ?_
  rintro e w2 ⟨rfl, b2⟩
  rw [HK.out]
  have B2 := B1.trans (b2.mono B1.size)
  have z2 : w.heap.size < w2.heap.size := Nat.lt_of_lt_of_le z1 b2.size
  have C2 := cells_later b2 z1 C1H.out
  clear k0 k1 k2 k3 k4 C1H b2
  have C2H : Hid (w2.cell? ⟨w.heap.size, 0, none⟩ = some (.int .i64 g) ∧ w2.cell? ⟨w.heap.size, 1, none⟩ = some (.int .i64 p) ∧ w2.cell? ⟨w.heap.size, 2, none⟩ = some (.int .i64 v) ∧ w2.cell? ⟨w.heap.size, 3, none⟩ = some (.int .i64 t) ∧ w2.cell? ⟨w.heap.size, 4, none⟩ = some (.int .i64 c)) := C2
  obtain ⟨k0, k1, k2, k3, k4⟩ := C2
  by_cases v0 : v = 0
  · subst v0
    by_cases hh : p = 0 ∧ (c = 0 ∨ c = 1 ∧ t = 0)
    · obtain ⟨rfl, hc⟩ := hh
      have hk23 : k = 2 ∨ k = 3 := KN.out.2 ⟨rfl, rfl, hc⟩
      clear KN HK kc
      rcases hk23 with rfl | rfl
      · rcases hc with rfl | ⟨rfl, rfl⟩
        · go_wp2
          go_ret
          exact ⟨rfl, B2.alloc B2.size _⟩
        · go_wp2
          go_ret
          exact ⟨rfl, B2.alloc B2.size _⟩
      · rcases hc with rfl | ⟨rfl, rfl⟩
        · go_wp2
          go_ret
          exact ⟨rfl, B2.alloc B2.size _⟩
        · go_wp2
          go_ret
          exact ⟨rfl, B2.alloc B2.size _⟩
    · have hk2 : (k == 2) = false := beq_eq_false_iff_ne.2 fun e => hh (by have := KN.out.1 (.inl e); exact ⟨this.1, this.2.2⟩)
      have hk3 : (k == 3) = false := beq_eq_false_iff_ne.2 fun e => hh (by have := KN.out.1 (.inr e); exact ⟨this.1, this.2.2⟩)
      clear KN HK kc
      by_cases p0 : p = 0
      · subst p0
        have c0 : (c == 0) = false := beq_eq_false_iff_ne.2 fun e => hh ⟨rfl, .inl e⟩
        by_cases c1 : c = 1
        · subst c1
          have t0 : (t == 0) = false := beq_eq_false_iff_ne.2 fun e => hh ⟨rfl, .inr ⟨rfl, e⟩⟩
          clear hh
          go_wp2
          go_ret
          exact ⟨rfl, B2.alloc B2.size _⟩
        · have c1' : (c == 1) = false := beq_eq_false_iff_ne.2 c1
          clear hh c1
          go_wp2
          go_ret
          exact ⟨rfl, B2.alloc B2.size _⟩
      · have p0' : (p == 0) = false := beq_eq_false_iff_ne.2 p0
        clear hh p0
        go_wp2
        go_ret
        exact ⟨rfl, B2.alloc B2.size _⟩
  · have hk2 : (k == 2) = false := beq_eq_false_iff_ne.2 fun e => v0 (KN.out.1 (.inl e)).2.1
    have hk3 : (k == 3) = false := beq_eq_false_iff_ne.2 fun e => v0 (KN.out.1 (.inr e)).2.1
    have vv : (v == 0) = false := beq_eq_false_iff_ne.2 v0
    have vn : (v != 0) = true := by simpa using v0
    have KK : Hid (kindN p v t cl = k) := (kc.out v0).trans HK.out
    clear KN HK kc v0
    go_wp2_with fail
    refine (kind_calls gf p v t cl _).mono ?_
    rintro e w3 ⟨rfl, b3⟩
    rw [KK.out]
    have B3 : Below w.heap.size w w3 := (B2.alloc B2.size _).trans (b3.mono (by have := B2.size; simp; omega))
    have b23 : Below w2.heap.size w2 w3 := ((Below.refl _ w2).alloc (Nat.le_refl _) _).trans (b3.mono (by simp))
    have C3 := cells_later b23 z2 C2H.out
    clear k0 k1 k2 k3 k4 b3 b23
    obtain ⟨k0, k1, k2, k3, k4⟩ := C3
    by_cases p0 : p = 0
    · subst p0
      go_wp2
      go_ret
      exact ⟨rfl, B3⟩
    · have p0' : (p == 0) = false := beq_eq_false_iff_ne.2 p0
      clear p0
      go_wp2
      go_ret
      exact ⟨rfl, B3⟩
end Go.Proofs.YtehkcdnblhfnaaaDoor
