/- Proved here: the document's fields and Right. Conditions: as each theorem states them. -/
import Derived.Test.YtpifmljbaogcbaaDoorHRefU
namespace Go.Proofs.YtpifmljbaogcbaaDoor.H
open Go.RowKit

/-- How many bits, in the document's list. -/
def tbI (nni : Bool) (j : Nat) : Int := match j with
  | 0 => if nni then 0 else 4
  | 1 => if nni then 12 else 8
  | 2 => 16
  | 3 => 3
  | _ => 1
def nm (g p v t c : Int) (j : Nat) : Int := match j with
  | 0 => g
  | 1 => p
  | 2 => v
  | 3 => t
  | _ => c
/-- The two lists lie in memory. -/
structure FL (nni : Bool) (g p v t c : Int) (B : Nat) (w : World) : Prop where
  num : ∀ j, j < 5 → w.cell? ⟨B, j, none⟩ = some (.int .i64 (nm g p v t c j))
  tab : ∀ j, j < 5 → w.cell? ⟨B + 1, j, none⟩ = some (.int .i64 (tbI nni j))
  size : B + 1 < w.heap.size
theorem FL.below {nni : Bool} {g p v t c : Int} {B n : Nat} {w w' : World} (h : FL nni g p v t c B w) (hb : Below n w w') (hn : B + 1 < n) : FL nni g p v t c B w' :=
  ⟨fun j hj => (hb.cell (p := ⟨B, j, none⟩) (by show B < n; omega)).trans (h.num j hj), fun j hj => (hb.cell (p := ⟨B + 1, j, none⟩) hn).trans (h.tab j hj), Nat.lt_of_lt_of_le h.size hb.size⟩

set_option maxHeartbeats 400000 in
theorem fields_calls (nni : Bool) (g p v t c : Int) (w : World) :
    Calls Tryd.prog 29 #[.agg #[.int .i64 g, .int .i64 p, .int .i64 v, .int .i64 t, .int .i64 c], .bool nni] w fun e w' => e = .returned (.tuple #[.slice (some ⟨w.heap.size + 1, 0, none⟩) 5 5, .slice (some ⟨w.heap.size + 2, 0, none⟩) 5 5]) ∧ FL nni g p v t c (w.heap.size + 1) w' ∧ Below w.heap.size w w' := by
  cases nni
  · go_enter Tryd.func29, Tryd.ntmps29
    go_wp2
    go_ret2
    refine ⟨rfl, ⟨fun j hj => ?_, fun j hj => ?_, by simp⟩, by go_grown⟩
    · have e := cell_new_any (w.alloc (.cells #[.int .i64 g, .int .i64 p, .int .i64 v, .int .i64 t, .int .i64 c] 23)) #[.int .i64 g, .int .i64 p, .int .i64 v, .int .i64 t, .int .i64 c] 3 (0, 0) j (.int .i64 (nm g p v t c j)) (by
        have : j = 0 ∨ j = 1 ∨ j = 2 ∨ j = 3 ∨ j = 4 := by omega
        rcases this with rfl | rfl | rfl | rfl | rfl <;> rfl)
      rw [World.size_alloc] at e
      exact (((Below.refl (w.heap.size + 2) ((w.alloc (.cells #[.int .i64 g, .int .i64 p, .int .i64 v, .int .i64 t, .int .i64 c] 23)).alloc (.cells #[.int .i64 g, .int .i64 p, .int .i64 v, .int .i64 t, .int .i64 c] 3))).alloc (by simp) (.cells #[.int .i64 4, .int .i64 8, .int .i64 16, .int .i64 3, .int .i64 1] 3)).cell (p := ⟨w.heap.size + 1, j, none⟩) (by show w.heap.size + 1 < w.heap.size + 2; omega)).trans e
    · have e := cell_new_any ((w.alloc (.cells #[.int .i64 g, .int .i64 p, .int .i64 v, .int .i64 t, .int .i64 c] 23)).alloc (.cells #[.int .i64 g, .int .i64 p, .int .i64 v, .int .i64 t, .int .i64 c] 3)) #[.int .i64 4, .int .i64 8, .int .i64 16, .int .i64 3, .int .i64 1] 3 (0, 0) j (.int .i64 (tbI false j)) (by
        have : j = 0 ∨ j = 1 ∨ j = 2 ∨ j = 3 ∨ j = 4 := by omega
        rcases this with rfl | rfl | rfl | rfl | rfl <;> rfl)
      rw [World.size_alloc, World.size_alloc] at e
      exact e
  · go_enter Tryd.func29, Tryd.ntmps29
    go_wp2
    go_ret2
    refine ⟨rfl, ⟨fun j hj => ?_, fun j hj => ?_, by simp⟩, by go_grown⟩
    · have e := cell_new_any (w.alloc (.cells #[.int .i64 g, .int .i64 p, .int .i64 v, .int .i64 t, .int .i64 c] 23)) #[.int .i64 g, .int .i64 p, .int .i64 v, .int .i64 t, .int .i64 c] 3 (0, 0) j (.int .i64 (nm g p v t c j)) (by
        have : j = 0 ∨ j = 1 ∨ j = 2 ∨ j = 3 ∨ j = 4 := by omega
        rcases this with rfl | rfl | rfl | rfl | rfl <;> rfl)
      rw [World.size_alloc] at e
      exact (((Below.refl (w.heap.size + 2) ((w.alloc (.cells #[.int .i64 g, .int .i64 p, .int .i64 v, .int .i64 t, .int .i64 c] 23)).alloc (.cells #[.int .i64 g, .int .i64 p, .int .i64 v, .int .i64 t, .int .i64 c] 3))).alloc (by simp) (.cells #[.int .i64 0, .int .i64 12, .int .i64 16, .int .i64 3, .int .i64 1] 3)).cell (p := ⟨w.heap.size + 1, j, none⟩) (by show w.heap.size + 1 < w.heap.size + 2; omega)).trans e
    · have e := cell_new_any ((w.alloc (.cells #[.int .i64 g, .int .i64 p, .int .i64 v, .int .i64 t, .int .i64 c] 23)).alloc (.cells #[.int .i64 g, .int .i64 p, .int .i64 v, .int .i64 t, .int .i64 c] 3)) #[.int .i64 0, .int .i64 12, .int .i64 16, .int .i64 3, .int .i64 1] 3 (0, 0) j (.int .i64 (tbI true j)) (by
        have : j = 0 ∨ j = 1 ∨ j = 2 ∨ j = 3 ∨ j = 4 := by omega
        rcases this with rfl | rfl | rfl | rfl | rfl <;> rfl)
      rw [World.size_alloc, World.size_alloc] at e
      exact e

set_option maxHeartbeats 2000000 in
theorem refright_user (g p v t c : Int) (w : World) :
    Calls Tryd.prog 12 #[.agg #[.int .i64 g, .int .i64 p, .int .i64 v, .int .i64 t, .int .i64 c], .bool false] w fun e w' => e = .returned (.bool (rightB false g p v t c)) ∧ Below w.heap.size w w' := by
  go_enter Tryd.func12, Tryd.ntmps12
  go_wp2_with fail
  refine (fields_calls false g p v t c _).mono ?_
  rintro e w1 ⟨rfl, F1, b1⟩
  have B1 : Below w.heap.size w w1 := ((Below.refl _ w).alloc (Nat.le_refl _) _).trans (b1.mono (by simp))
  rw [World.size_alloc] at F1
  have z1 := F1.size
  clear b1
  go_wp2
  go_loopw [16] (fun i wr => ∃ k : Nat, k ≤ 5 ∧ i = .int .i64 k ∧ ((0 < k → (0 ≤ g ∧ g < 16)) ∧ (1 < k → (0 ≤ p ∧ p < 256)) ∧ (2 < k → (0 ≤ v ∧ v < 65536)) ∧ (3 < k → (0 ≤ t ∧ t < 8)) ∧ (4 < k → (0 ≤ c ∧ c < 2))) ∧ Below (w.heap.size + 4) w1 wr) (fun i _ => 5 - (intOf i).toNat)
  case atStart => exact ⟨0, by omega, rfl, by omega, Below.refl _ _⟩
  case round =>
    obtain ⟨k, hk, rfl, R, bel⟩ := hrel
    have F := F1.below bel (by omega)
    have BB : Below w.heap.size w wr := B1.trans (bel.mono (by omega))
    have hk6 : k = 0 ∨ k = 1 ∨ k = 2 ∨ k = 3 ∨ k = 4 ∨ k = 5 := by omega
    have RR : Hid ((0 < k → (0 ≤ g ∧ g < 16)) ∧ (1 < k → (0 ≤ p ∧ p < 256)) ∧ (2 < k → (0 ≤ v ∧ v < 65536)) ∧ (3 < k → (0 ≤ t ∧ t < 8)) ∧ (4 < k → (0 ≤ c ∧ c < 2))) := R
    clear R
    rcases hk6 with rfl | rfl | rfl | rfl | rfl | rfl
    · have q1 : wr.cell? ⟨w.heap.size + 2, 0, none⟩ = some (.int .i64 g) := F.num 0 (by decide)
      have q2 : wr.cell? ⟨w.heap.size + 3, 0, none⟩ = some (.int .i64 4) := F.tab 0 (by decide)
      have q3 := F.size
      clear F F1
      by_cases n0 : g < 0
      · have n1 : decide (g < 0) = true := by simpa using n0
        have HF : Hid (rightB false g p v t c = false) := by show rightB false g p v t c = false; rw [wrong_user]; omega
        clear n0
        go_wp2
        go_quiet (fail)
        go_wp2
        go_ret
        exact ⟨ret_bool HF.out.symm, below_drewN BB _⟩
      · have n1 : decide (g < 0) = false := by simpa using n0
        by_cases m0 : 16 ≤ g
        · have m1 : decide (16 ≤ g) = true := by simpa using m0
          have HF : Hid (rightB false g p v t c = false) := by show rightB false g p v t c = false; rw [wrong_user]; omega
          clear n0 m0
          go_wp2
          go_quiet (fail)
          go_wp2
          go_ret
          exact ⟨ret_bool HF.out.symm, below_drewN BB _⟩
        · have m1 : decide (16 ≤ g) = false := by simpa using m0
          have OK : Hid (0 ≤ g ∧ g < 16) := by show 0 ≤ g ∧ g < 16; omega
          clear n0 m0
          go_wp2
          go_quiet (fail)
          go_wp2
          go_roundw
          case rel => exact ⟨1, by omega, by go_num, by have := RR.out; have := OK.out; omega, below_drewN bel _⟩
          case measure => simp [intOf]
    · have q1 : wr.cell? ⟨w.heap.size + 2, 1, none⟩ = some (.int .i64 p) := F.num 1 (by decide)
      have q2 : wr.cell? ⟨w.heap.size + 3, 1, none⟩ = some (.int .i64 8) := F.tab 1 (by decide)
      have q3 := F.size
      clear F F1
      by_cases n0 : p < 0
      · have n1 : decide (p < 0) = true := by simpa using n0
        have HF : Hid (rightB false g p v t c = false) := by show rightB false g p v t c = false; rw [wrong_user]; omega
        clear n0
        go_wp2
        go_quiet (fail)
        go_wp2
        go_ret
        exact ⟨ret_bool HF.out.symm, below_drewN BB _⟩
      · have n1 : decide (p < 0) = false := by simpa using n0
        by_cases m0 : 256 ≤ p
        · have m1 : decide (256 ≤ p) = true := by simpa using m0
          have HF : Hid (rightB false g p v t c = false) := by show rightB false g p v t c = false; rw [wrong_user]; omega
          clear n0 m0
          go_wp2
          go_quiet (fail)
          go_wp2
          go_ret
          exact ⟨ret_bool HF.out.symm, below_drewN BB _⟩
        · have m1 : decide (256 ≤ p) = false := by simpa using m0
          have OK : Hid (0 ≤ p ∧ p < 256) := by show 0 ≤ p ∧ p < 256; omega
          clear n0 m0
          go_wp2
          go_quiet (fail)
          go_wp2
          go_roundw
          case rel => exact ⟨2, by omega, by go_num, by have := RR.out; have := OK.out; omega, below_drewN bel _⟩
          case measure => simp [intOf]
    · have q1 : wr.cell? ⟨w.heap.size + 2, 2, none⟩ = some (.int .i64 v) := F.num 2 (by decide)
      have q2 : wr.cell? ⟨w.heap.size + 3, 2, none⟩ = some (.int .i64 16) := F.tab 2 (by decide)
      have q3 := F.size
      clear F F1
      by_cases n0 : v < 0
      · have n1 : decide (v < 0) = true := by simpa using n0
        have HF : Hid (rightB false g p v t c = false) := by show rightB false g p v t c = false; rw [wrong_user]; omega
        clear n0
        go_wp2
        go_quiet (fail)
        go_wp2
        go_ret
        exact ⟨ret_bool HF.out.symm, below_drewN BB _⟩
      · have n1 : decide (v < 0) = false := by simpa using n0
        by_cases m0 : 65536 ≤ v
        · have m1 : decide (65536 ≤ v) = true := by simpa using m0
          have HF : Hid (rightB false g p v t c = false) := by show rightB false g p v t c = false; rw [wrong_user]; omega
          clear n0 m0
          go_wp2
          go_quiet (fail)
          go_wp2
          go_ret
          exact ⟨ret_bool HF.out.symm, below_drewN BB _⟩
        · have m1 : decide (65536 ≤ v) = false := by simpa using m0
          have OK : Hid (0 ≤ v ∧ v < 65536) := by show 0 ≤ v ∧ v < 65536; omega
          clear n0 m0
          go_wp2
          go_quiet (fail)
          go_wp2
          go_roundw
          case rel => exact ⟨3, by omega, by go_num, by have := RR.out; have := OK.out; omega, below_drewN bel _⟩
          case measure => simp [intOf]
    · have q1 : wr.cell? ⟨w.heap.size + 2, 3, none⟩ = some (.int .i64 t) := F.num 3 (by decide)
      have q2 : wr.cell? ⟨w.heap.size + 3, 3, none⟩ = some (.int .i64 3) := F.tab 3 (by decide)
      have q3 := F.size
      clear F F1
      by_cases n0 : t < 0
      · have n1 : decide (t < 0) = true := by simpa using n0
        have HF : Hid (rightB false g p v t c = false) := by show rightB false g p v t c = false; rw [wrong_user]; omega
        clear n0
        go_wp2
        go_quiet (fail)
        go_wp2
        go_ret
        exact ⟨ret_bool HF.out.symm, below_drewN BB _⟩
      · have n1 : decide (t < 0) = false := by simpa using n0
        by_cases m0 : 8 ≤ t
        · have m1 : decide (8 ≤ t) = true := by simpa using m0
          have HF : Hid (rightB false g p v t c = false) := by show rightB false g p v t c = false; rw [wrong_user]; omega
          clear n0 m0
          go_wp2
          go_quiet (fail)
          go_wp2
          go_ret
          exact ⟨ret_bool HF.out.symm, below_drewN BB _⟩
        · have m1 : decide (8 ≤ t) = false := by simpa using m0
          have OK : Hid (0 ≤ t ∧ t < 8) := by show 0 ≤ t ∧ t < 8; omega
          clear n0 m0
          go_wp2
          go_quiet (fail)
          go_wp2
          go_roundw
          case rel => exact ⟨4, by omega, by go_num, by have := RR.out; have := OK.out; omega, below_drewN bel _⟩
          case measure => simp [intOf]
    · have q1 : wr.cell? ⟨w.heap.size + 2, 4, none⟩ = some (.int .i64 c) := F.num 4 (by decide)
      have q2 : wr.cell? ⟨w.heap.size + 3, 4, none⟩ = some (.int .i64 1) := F.tab 4 (by decide)
      have q3 := F.size
      clear F F1
      by_cases n0 : c < 0
      · have n1 : decide (c < 0) = true := by simpa using n0
        have HF : Hid (rightB false g p v t c = false) := by show rightB false g p v t c = false; rw [wrong_user]; omega
        clear n0
        go_wp2
        go_quiet (fail)
        go_wp2
        go_ret
        exact ⟨ret_bool HF.out.symm, below_drewN BB _⟩
      · have n1 : decide (c < 0) = false := by simpa using n0
        by_cases m0 : 2 ≤ c
        · have m1 : decide (2 ≤ c) = true := by simpa using m0
          have HF : Hid (rightB false g p v t c = false) := by show rightB false g p v t c = false; rw [wrong_user]; omega
          clear n0 m0
          go_wp2
          go_quiet (fail)
          go_wp2
          go_ret
          exact ⟨ret_bool HF.out.symm, below_drewN BB _⟩
        · have m1 : decide (2 ≤ c) = false := by simpa using m0
          have OK : Hid (0 ≤ c ∧ c < 2) := by show 0 ≤ c ∧ c < 2; omega
          clear n0 m0
          go_wp2
          go_quiet (fail)
          go_wp2
          go_roundw
          case rel => exact ⟨5, by omega, by go_num, by have := RR.out; have := OK.out; omega, below_drewN bel _⟩
          case measure => simp [intOf]
    · have HF : Hid (rightB false g p v t c = true) := by show rightB false g p v t c = true; rw [right_user]; have := RR.out; omega
      clear F F1
      go_wp2
      go_ret
      exact ⟨ret_bool HF.out.symm, BB⟩

set_option maxHeartbeats 2000000 in
theorem refright_nni (g p v t c : Int) (w : World) :
    Calls Tryd.prog 12 #[.agg #[.int .i64 g, .int .i64 p, .int .i64 v, .int .i64 t, .int .i64 c], .bool true] w fun e w' => e = .returned (.bool (rightB true g p v t c)) ∧ Below w.heap.size w w' := by
  go_enter Tryd.func12, Tryd.ntmps12
  go_wp2_with fail
  refine (fields_calls true g p v t c _).mono ?_
  rintro e w1 ⟨rfl, F1, b1⟩
  have B1 : Below w.heap.size w w1 := ((Below.refl _ w).alloc (Nat.le_refl _) _).trans (b1.mono (by simp))
  rw [World.size_alloc] at F1
  have z1 := F1.size
  clear b1
  go_wp2
  go_loopw [16] (fun i wr => ∃ k : Nat, k ≤ 5 ∧ i = .int .i64 k ∧ ((0 < k → (0 ≤ g ∧ g < 1)) ∧ (1 < k → (0 ≤ p ∧ p < 4096)) ∧ (2 < k → (0 ≤ v ∧ v < 65536)) ∧ (3 < k → (0 ≤ t ∧ t < 8)) ∧ (4 < k → (0 ≤ c ∧ c < 2))) ∧ Below (w.heap.size + 4) w1 wr) (fun i _ => 5 - (intOf i).toNat)
  case atStart => exact ⟨0, by omega, rfl, by omega, Below.refl _ _⟩
  case round =>
    obtain ⟨k, hk, rfl, R, bel⟩ := hrel
    have F := F1.below bel (by omega)
    have BB : Below w.heap.size w wr := B1.trans (bel.mono (by omega))
    have hk6 : k = 0 ∨ k = 1 ∨ k = 2 ∨ k = 3 ∨ k = 4 ∨ k = 5 := by omega
    have RR : Hid ((0 < k → (0 ≤ g ∧ g < 1)) ∧ (1 < k → (0 ≤ p ∧ p < 4096)) ∧ (2 < k → (0 ≤ v ∧ v < 65536)) ∧ (3 < k → (0 ≤ t ∧ t < 8)) ∧ (4 < k → (0 ≤ c ∧ c < 2))) := R
    clear R
    rcases hk6 with rfl | rfl | rfl | rfl | rfl | rfl
    · have q1 : wr.cell? ⟨w.heap.size + 2, 0, none⟩ = some (.int .i64 g) := F.num 0 (by decide)
      have q2 : wr.cell? ⟨w.heap.size + 3, 0, none⟩ = some (.int .i64 0) := F.tab 0 (by decide)
      have q3 := F.size
      clear F F1
      by_cases n0 : g < 0
      · have n1 : decide (g < 0) = true := by simpa using n0
        have HF : Hid (rightB true g p v t c = false) := by show rightB true g p v t c = false; rw [wrong_nni]; omega
        clear n0
        go_wp2
        go_quiet (fail)
        go_wp2
        go_ret
        exact ⟨ret_bool HF.out.symm, below_drewN BB _⟩
      · have n1 : decide (g < 0) = false := by simpa using n0
        by_cases m0 : 1 ≤ g
        · have m1 : decide (1 ≤ g) = true := by simpa using m0
          have HF : Hid (rightB true g p v t c = false) := by show rightB true g p v t c = false; rw [wrong_nni]; omega
          clear n0 m0
          go_wp2
          go_quiet (fail)
          go_wp2
          go_ret
          exact ⟨ret_bool HF.out.symm, below_drewN BB _⟩
        · have m1 : decide (1 ≤ g) = false := by simpa using m0
          have OK : Hid (0 ≤ g ∧ g < 1) := by show 0 ≤ g ∧ g < 1; omega
          clear n0 m0
          go_wp2
          go_quiet (fail)
          go_wp2
          go_roundw
          case rel => exact ⟨1, by omega, by go_num, by have := RR.out; have := OK.out; omega, below_drewN bel _⟩
          case measure => simp [intOf]
    · have q1 : wr.cell? ⟨w.heap.size + 2, 1, none⟩ = some (.int .i64 p) := F.num 1 (by decide)
      have q2 : wr.cell? ⟨w.heap.size + 3, 1, none⟩ = some (.int .i64 12) := F.tab 1 (by decide)
      have q3 := F.size
      clear F F1
      by_cases n0 : p < 0
      · have n1 : decide (p < 0) = true := by simpa using n0
        have HF : Hid (rightB true g p v t c = false) := by show rightB true g p v t c = false; rw [wrong_nni]; omega
        clear n0
        go_wp2
        go_quiet (fail)
        go_wp2
        go_ret
        exact ⟨ret_bool HF.out.symm, below_drewN BB _⟩
      · have n1 : decide (p < 0) = false := by simpa using n0
        by_cases m0 : 4096 ≤ p
        · have m1 : decide (4096 ≤ p) = true := by simpa using m0
          have HF : Hid (rightB true g p v t c = false) := by show rightB true g p v t c = false; rw [wrong_nni]; omega
          clear n0 m0
          go_wp2
          go_quiet (fail)
          go_wp2
          go_ret
          exact ⟨ret_bool HF.out.symm, below_drewN BB _⟩
        · have m1 : decide (4096 ≤ p) = false := by simpa using m0
          have OK : Hid (0 ≤ p ∧ p < 4096) := by show 0 ≤ p ∧ p < 4096; omega
          clear n0 m0
          go_wp2
          go_quiet (fail)
          go_wp2
          go_roundw
          case rel => exact ⟨2, by omega, by go_num, by have := RR.out; have := OK.out; omega, below_drewN bel _⟩
          case measure => simp [intOf]
    · have q1 : wr.cell? ⟨w.heap.size + 2, 2, none⟩ = some (.int .i64 v) := F.num 2 (by decide)
      have q2 : wr.cell? ⟨w.heap.size + 3, 2, none⟩ = some (.int .i64 16) := F.tab 2 (by decide)
      have q3 := F.size
      clear F F1
      by_cases n0 : v < 0
      · have n1 : decide (v < 0) = true := by simpa using n0
        have HF : Hid (rightB true g p v t c = false) := by show rightB true g p v t c = false; rw [wrong_nni]; omega
        clear n0
        go_wp2
        go_quiet (fail)
        go_wp2
        go_ret
        exact ⟨ret_bool HF.out.symm, below_drewN BB _⟩
      · have n1 : decide (v < 0) = false := by simpa using n0
        by_cases m0 : 65536 ≤ v
        · have m1 : decide (65536 ≤ v) = true := by simpa using m0
          have HF : Hid (rightB true g p v t c = false) := by show rightB true g p v t c = false; rw [wrong_nni]; omega
          clear n0 m0
          go_wp2
          go_quiet (fail)
          go_wp2
          go_ret
          exact ⟨ret_bool HF.out.symm, below_drewN BB _⟩
        · have m1 : decide (65536 ≤ v) = false := by simpa using m0
          have OK : Hid (0 ≤ v ∧ v < 65536) := by show 0 ≤ v ∧ v < 65536; omega
          clear n0 m0
          go_wp2
          go_quiet (fail)
          go_wp2
          go_roundw
          case rel => exact ⟨3, by omega, by go_num, by have := RR.out; have := OK.out; omega, below_drewN bel _⟩
          case measure => simp [intOf]
    · have q1 : wr.cell? ⟨w.heap.size + 2, 3, none⟩ = some (.int .i64 t) := F.num 3 (by decide)
      have q2 : wr.cell? ⟨w.heap.size + 3, 3, none⟩ = some (.int .i64 3) := F.tab 3 (by decide)
      have q3 := F.size
      clear F F1
      by_cases n0 : t < 0
      · have n1 : decide (t < 0) = true := by simpa using n0
        have HF : Hid (rightB true g p v t c = false) := by show rightB true g p v t c = false; rw [wrong_nni]; omega
        clear n0
        go_wp2
        go_quiet (fail)
        go_wp2
        go_ret
        exact ⟨ret_bool HF.out.symm, below_drewN BB _⟩
      · have n1 : decide (t < 0) = false := by simpa using n0
        by_cases m0 : 8 ≤ t
        · have m1 : decide (8 ≤ t) = true := by simpa using m0
          have HF : Hid (rightB true g p v t c = false) := by show rightB true g p v t c = false; rw [wrong_nni]; omega
          clear n0 m0
          go_wp2
          go_quiet (fail)
          go_wp2
          go_ret
          exact ⟨ret_bool HF.out.symm, below_drewN BB _⟩
        · have m1 : decide (8 ≤ t) = false := by simpa using m0
          have OK : Hid (0 ≤ t ∧ t < 8) := by show 0 ≤ t ∧ t < 8; omega
          clear n0 m0
          go_wp2
          go_quiet (fail)
          go_wp2
          go_roundw
          case rel => exact ⟨4, by omega, by go_num, by have := RR.out; have := OK.out; omega, below_drewN bel _⟩
          case measure => simp [intOf]
    · have q1 : wr.cell? ⟨w.heap.size + 2, 4, none⟩ = some (.int .i64 c) := F.num 4 (by decide)
      have q2 : wr.cell? ⟨w.heap.size + 3, 4, none⟩ = some (.int .i64 1) := F.tab 4 (by decide)
      have q3 := F.size
      clear F F1
      by_cases n0 : c < 0
      · have n1 : decide (c < 0) = true := by simpa using n0
        have HF : Hid (rightB true g p v t c = false) := by show rightB true g p v t c = false; rw [wrong_nni]; omega
        clear n0
        go_wp2
        go_quiet (fail)
        go_wp2
        go_ret
        exact ⟨ret_bool HF.out.symm, below_drewN BB _⟩
      · have n1 : decide (c < 0) = false := by simpa using n0
        by_cases m0 : 2 ≤ c
        · have m1 : decide (2 ≤ c) = true := by simpa using m0
          have HF : Hid (rightB true g p v t c = false) := by show rightB true g p v t c = false; rw [wrong_nni]; omega
          clear n0 m0
          go_wp2
          go_quiet (fail)
          go_wp2
          go_ret
          exact ⟨ret_bool HF.out.symm, below_drewN BB _⟩
        · have m1 : decide (2 ≤ c) = false := by simpa using m0
          have OK : Hid (0 ≤ c ∧ c < 2) := by show 0 ≤ c ∧ c < 2; omega
          clear n0 m0
          go_wp2
          go_quiet (fail)
          go_wp2
          go_roundw
          case rel => exact ⟨5, by omega, by go_num, by have := RR.out; have := OK.out; omega, below_drewN bel _⟩
          case measure => simp [intOf]
    · have HF : Hid (rightB true g p v t c = true) := by show rightB true g p v t c = true; rw [right_nni]; have := RR.out; omega
      clear F F1
      go_wp2
      go_ret
      exact ⟨ret_bool HF.out.symm, BB⟩

theorem refright_calls (nni : Bool) (g p v t c : Int) (w : World) :
    Calls Tryd.prog 12 #[.agg #[.int .i64 g, .int .i64 p, .int .i64 v, .int .i64 t, .int .i64 c], .bool nni] w fun e w' => e = .returned (.bool (rightB nni g p v t c)) ∧ Below w.heap.size w w' := by
  cases nni
  · exact refright_user g p v t c w
  · exact refright_nni g p v t c w
end Go.Proofs.YtpifmljbaogcbaaDoor.H
