/- Proved here: the tables of package header, and lay. Conditions: as each theorem states them. -/
import Derived.Test.YtpifmljbaogcbaaDoorHMath
import Derived.Test.YtpifmljbaogcbaaDoorProg
import Derived.Laws.Rows
import Derived.LoopN
import Derived.WalkMore
namespace Go.Proofs.YtpifmljbaogcbaaDoor.H
open Go.RowKit

/-- The two tables lie in their variables. -/
def Tab (w : World) : Prop := 2 ≤ w.heap.size ∧
  (w.cell? ⟨0, 0, none⟩ = some (.int .u64 0) ∧ w.cell? ⟨0, 1, none⟩ = some (.int .u64 12) ∧ w.cell? ⟨0, 2, none⟩ = some (.int .u64 16) ∧ w.cell? ⟨0, 3, none⟩ = some (.int .u64 3) ∧ w.cell? ⟨0, 4, none⟩ = some (.int .u64 1)) ∧
  (w.cell? ⟨1, 0, none⟩ = some (.int .u64 4) ∧ w.cell? ⟨1, 1, none⟩ = some (.int .u64 8) ∧ w.cell? ⟨1, 2, none⟩ = some (.int .u64 16) ∧ w.cell? ⟨1, 3, none⟩ = some (.int .u64 3) ∧ w.cell? ⟨1, 4, none⟩ = some (.int .u64 1))
theorem Tab.below {w w' : World} {B : Nat} (h : Tab w) (hb : Below B w w') (hB : 2 ≤ B) : Tab w' := by
  obtain ⟨h2, ⟨a0, a1, a2, a3, a4⟩, b0, b1, b2, b3, b4⟩ := h
  have c : ∀ b o, b < 2 → w'.cell? ⟨b, o, none⟩ = w.cell? ⟨b, o, none⟩ := fun b o hlt => hb.cell (p := ⟨b, o, none⟩) (Nat.lt_of_lt_of_le hlt hB)
  exact ⟨Nat.le_trans h2 hb.size, ⟨(c 0 0 (by decide)).trans a0, (c 0 1 (by decide)).trans a1, (c 0 2 (by decide)).trans a2, (c 0 3 (by decide)).trans a3, (c 0 4 (by decide)).trans a4⟩,
    (c 1 0 (by decide)).trans b0, (c 1 1 (by decide)).trans b1, (c 1 2 (by decide)).trans b2, (c 1 3 (by decide)).trans b3, (c 1 4 (by decide)).trans b4⟩

/-- How many bits the numbers have. -/
def tabV (nni : Bool) : Value := if nni then .agg #[.int .u64 0, .int .u64 12, .int .u64 16, .int .u64 3, .int .u64 1] else .agg #[.int .u64 4, .int .u64 8, .int .u64 16, .int .u64 3, .int .u64 1]

set_option maxHeartbeats 400000 in
theorem bitsOf_calls (nni : Bool) (w : World) (ht : Tab w) : Calls Tryd.prog 53 #[.bool nni] w fun e w' => e = .returned (tabV nni) ∧ Below w.heap.size w w' := by
  obtain ⟨h2, ⟨a0, a1, a2, a3, a4⟩, b0, b1, b2, b3, b4⟩ := ht
  have h1 : 1 < w.heap.size := h2
  have h0 : 0 < w.heap.size := by omega
  cases nni
  · go_enter Tryd.func53, Tryd.ntmps53
    go_wp2
    go_returns
    exact ⟨rfl, by go_grown⟩
  · go_enter Tryd.func53, Tryd.ntmps53
    go_wp2
    go_returns
    exact ⟨rfl, by go_grown⟩

theorem idx (x0 x1 x2 x3 x4 : Value) : (∀ w, (Instr.index 97 (.agg #[x0, x1, x2, x3, x4]) (.int .i64 0)).run Tryd.prog w = .ok x0 w) ∧ (∀ w, (Instr.index 97 (.agg #[x0, x1, x2, x3, x4]) (.int .i64 1)).run Tryd.prog w = .ok x1 w) ∧
    (∀ w, (Instr.index 97 (.agg #[x0, x1, x2, x3, x4]) (.int .i64 2)).run Tryd.prog w = .ok x2 w) ∧ (∀ w, (Instr.index 97 (.agg #[x0, x1, x2, x3, x4]) (.int .i64 3)).run Tryd.prog w = .ok x3 w) ∧
    (∀ w, (Instr.index 97 (.agg #[x0, x1, x2, x3, x4]) (.int .i64 4)).run Tryd.prog w = .ok x4 w) :=
  ⟨fun _ => by kernel_rfl, fun _ => by kernel_rfl, fun _ => by kernel_rfl, fun _ => by kernel_rfl, fun _ => by kernel_rfl⟩


theorem ret_word {a b : Int} (h : a = b) : Ending.returned (.tuple #[.int .u32 a, .bool true]) = .returned (.tuple #[.int .u32 b, .bool true]) := by rw [h]

set_option maxHeartbeats 1000000 in
theorem lay_user (g p v t c : Int) (w : World) (ht : Tab w) (g0 : 0 ≤ g) (g1 : g < 16) (p0 : 0 ≤ p) (p1 : p < 256) (v0 : 0 ≤ v) (v1 : v < 65536) (t0 : 0 ≤ t) (t1 : t < 8) (c0 : 0 ≤ c) (c1 : c < 2)  :
    Calls Tryd.prog 41 #[.agg #[.int .i64 g, .int .i64 p, .int .i64 v, .int .i64 t, .int .i64 c], .bool false] w fun e w' => e = .returned (.tuple #[.int .u32 (word g p v t c), .bool true]) ∧ Below w.heap.size w w' := by
  obtain ⟨i0, i1, i2, i3, i4⟩ := idx (.int .u64 4) (.int .u64 8) (.int .u64 16) (.int .u64 3) (.int .u64 1)
  go_enter Tryd.func41, Tryd.ntmps41
  go_wp2
  go_step3
  go_wp2
  go_step3
  go_wp2_with fail
  refine (bitsOf_calls false _ (ht.below (((Below.refl _ w).alloc (Nat.le_refl _) _).alloc (by simp) _) ht.1)).mono ?_
  rintro e w1 ⟨rfl, b1⟩
  rw [show tabV false = .agg #[.int .u64 4, .int .u64 8, .int .u64 16, .int .u64 3, .int .u64 1] from rfl]
  have cs : ∀ k x, #[Value.int .i64 g, .int .i64 p, .int .i64 v, .int .i64 t, .int .i64 c][k]? = some x → w1.cell? ⟨w.heap.size + 1, k, none⟩ = some x := by
    intro k x hx
    rw [b1.cell (p := ⟨w.heap.size + 1, k, none⟩) (by simp)]
    have e := cell_new_any (w.alloc (.cells #[.int .i64 g, .int .i64 p, .int .i64 v, .int .i64 t, .int .i64 c] 23)) _ 96 (0, 0) k x hx
    rwa [World.size_alloc] at e
  have k0 := cs 0 _ rfl
  have k1 := cs 1 _ rfl
  have k2 := cs 2 _ rfl
  have k3 := cs 3 _ rfl
  have k4 := cs 4 _ rfl
  clear cs
  have B1 : Below w.heap.size w w1 := (((Below.refl _ w).alloc (Nat.le_refl _) _).alloc (by simp) _).trans (b1.mono (by simp; omega))
  clear b1
  go_wp2
  refine wp_loop_rounds 6 ?_
  rw [rounds_succ]
  go_wp2
  rw [rounds_succ]
  go_wp2
  rw [rounds_succ]
  go_wp2
  rw [rounds_succ]
  go_wp2
  rw [rounds_succ]
  go_wp2
  rw [rounds_succ]
  go_wp2
  rw [Exit.noGoto_ret]
  go_ret2
  exact ⟨ret_word (laid_user g p v t c g0 g1 p0 p1 v0 v1 t0 t1 c0 c1), B1⟩

set_option maxHeartbeats 1000000 in
theorem lay_user0 (g p v t c : Int) (w : World) (ht : Tab w)  (hb : (g / 16 != 0) = true) :
    Calls Tryd.prog 41 #[.agg #[.int .i64 g, .int .i64 p, .int .i64 v, .int .i64 t, .int .i64 c], .bool false] w fun e w' => (∃ x, e = .returned (.tuple #[.int .u32 x, .bool false])) ∧ Below w.heap.size w w' := by
  obtain ⟨i0, i1, i2, i3, i4⟩ := idx (.int .u64 4) (.int .u64 8) (.int .u64 16) (.int .u64 3) (.int .u64 1)
  go_enter Tryd.func41, Tryd.ntmps41
  go_wp2
  go_step3
  go_wp2
  go_step3
  go_wp2_with fail
  refine (bitsOf_calls false _ (ht.below (((Below.refl _ w).alloc (Nat.le_refl _) _).alloc (by simp) _) ht.1)).mono ?_
  rintro e w1 ⟨rfl, b1⟩
  rw [show tabV false = .agg #[.int .u64 4, .int .u64 8, .int .u64 16, .int .u64 3, .int .u64 1] from rfl]
  have cs : ∀ k x, #[Value.int .i64 g, .int .i64 p, .int .i64 v, .int .i64 t, .int .i64 c][k]? = some x → w1.cell? ⟨w.heap.size + 1, k, none⟩ = some x := by
    intro k x hx
    rw [b1.cell (p := ⟨w.heap.size + 1, k, none⟩) (by simp)]
    have e := cell_new_any (w.alloc (.cells #[.int .i64 g, .int .i64 p, .int .i64 v, .int .i64 t, .int .i64 c] 23)) _ 96 (0, 0) k x hx
    rwa [World.size_alloc] at e
  have k0 := cs 0 _ rfl
  have k1 := cs 1 _ rfl
  have k2 := cs 2 _ rfl
  have k3 := cs 3 _ rfl
  have k4 := cs 4 _ rfl
  clear cs
  have B1 : Below w.heap.size w w1 := (((Below.refl _ w).alloc (Nat.le_refl _) _).alloc (by simp) _).trans (b1.mono (by simp; omega))
  clear b1
  go_wp2
  refine wp_loop_rounds 6 ?_
  rw [rounds_succ]
  go_wp2
  rw [Exit.noGoto_ret]
  go_ret2
  exact ⟨⟨_, rfl⟩, B1⟩

set_option maxHeartbeats 1000000 in
theorem lay_user1 (g p v t c : Int) (w : World) (ht : Tab w) (g0 : 0 ≤ g) (g1 : g < 16) (hb : (p / 256 != 0) = true) :
    Calls Tryd.prog 41 #[.agg #[.int .i64 g, .int .i64 p, .int .i64 v, .int .i64 t, .int .i64 c], .bool false] w fun e w' => (∃ x, e = .returned (.tuple #[.int .u32 x, .bool false])) ∧ Below w.heap.size w w' := by
  obtain ⟨i0, i1, i2, i3, i4⟩ := idx (.int .u64 4) (.int .u64 8) (.int .u64 16) (.int .u64 3) (.int .u64 1)
  go_enter Tryd.func41, Tryd.ntmps41
  go_wp2
  go_step3
  go_wp2
  go_step3
  go_wp2_with fail
  refine (bitsOf_calls false _ (ht.below (((Below.refl _ w).alloc (Nat.le_refl _) _).alloc (by simp) _) ht.1)).mono ?_
  rintro e w1 ⟨rfl, b1⟩
  rw [show tabV false = .agg #[.int .u64 4, .int .u64 8, .int .u64 16, .int .u64 3, .int .u64 1] from rfl]
  have cs : ∀ k x, #[Value.int .i64 g, .int .i64 p, .int .i64 v, .int .i64 t, .int .i64 c][k]? = some x → w1.cell? ⟨w.heap.size + 1, k, none⟩ = some x := by
    intro k x hx
    rw [b1.cell (p := ⟨w.heap.size + 1, k, none⟩) (by simp)]
    have e := cell_new_any (w.alloc (.cells #[.int .i64 g, .int .i64 p, .int .i64 v, .int .i64 t, .int .i64 c] 23)) _ 96 (0, 0) k x hx
    rwa [World.size_alloc] at e
  have k0 := cs 0 _ rfl
  have k1 := cs 1 _ rfl
  have k2 := cs 2 _ rfl
  have k3 := cs 3 _ rfl
  have k4 := cs 4 _ rfl
  clear cs
  have B1 : Below w.heap.size w w1 := (((Below.refl _ w).alloc (Nat.le_refl _) _).alloc (by simp) _).trans (b1.mono (by simp; omega))
  clear b1
  go_wp2
  refine wp_loop_rounds 6 ?_
  rw [rounds_succ]
  go_wp2
  rw [rounds_succ]
  go_wp2
  rw [Exit.noGoto_ret]
  go_ret2
  exact ⟨⟨_, rfl⟩, B1⟩

set_option maxHeartbeats 1000000 in
theorem lay_user2 (g p v t c : Int) (w : World) (ht : Tab w) (g0 : 0 ≤ g) (g1 : g < 16) (p0 : 0 ≤ p) (p1 : p < 256) (hb : (v / 65536 != 0) = true) :
    Calls Tryd.prog 41 #[.agg #[.int .i64 g, .int .i64 p, .int .i64 v, .int .i64 t, .int .i64 c], .bool false] w fun e w' => (∃ x, e = .returned (.tuple #[.int .u32 x, .bool false])) ∧ Below w.heap.size w w' := by
  obtain ⟨i0, i1, i2, i3, i4⟩ := idx (.int .u64 4) (.int .u64 8) (.int .u64 16) (.int .u64 3) (.int .u64 1)
  go_enter Tryd.func41, Tryd.ntmps41
  go_wp2
  go_step3
  go_wp2
  go_step3
  go_wp2_with fail
  refine (bitsOf_calls false _ (ht.below (((Below.refl _ w).alloc (Nat.le_refl _) _).alloc (by simp) _) ht.1)).mono ?_
  rintro e w1 ⟨rfl, b1⟩
  rw [show tabV false = .agg #[.int .u64 4, .int .u64 8, .int .u64 16, .int .u64 3, .int .u64 1] from rfl]
  have cs : ∀ k x, #[Value.int .i64 g, .int .i64 p, .int .i64 v, .int .i64 t, .int .i64 c][k]? = some x → w1.cell? ⟨w.heap.size + 1, k, none⟩ = some x := by
    intro k x hx
    rw [b1.cell (p := ⟨w.heap.size + 1, k, none⟩) (by simp)]
    have e := cell_new_any (w.alloc (.cells #[.int .i64 g, .int .i64 p, .int .i64 v, .int .i64 t, .int .i64 c] 23)) _ 96 (0, 0) k x hx
    rwa [World.size_alloc] at e
  have k0 := cs 0 _ rfl
  have k1 := cs 1 _ rfl
  have k2 := cs 2 _ rfl
  have k3 := cs 3 _ rfl
  have k4 := cs 4 _ rfl
  clear cs
  have B1 : Below w.heap.size w w1 := (((Below.refl _ w).alloc (Nat.le_refl _) _).alloc (by simp) _).trans (b1.mono (by simp; omega))
  clear b1
  go_wp2
  refine wp_loop_rounds 6 ?_
  rw [rounds_succ]
  go_wp2
  rw [rounds_succ]
  go_wp2
  rw [rounds_succ]
  go_wp2
  rw [Exit.noGoto_ret]
  go_ret2
  exact ⟨⟨_, rfl⟩, B1⟩

set_option maxHeartbeats 1000000 in
theorem lay_user3 (g p v t c : Int) (w : World) (ht : Tab w) (g0 : 0 ≤ g) (g1 : g < 16) (p0 : 0 ≤ p) (p1 : p < 256) (v0 : 0 ≤ v) (v1 : v < 65536) (hb : (t / 8 != 0) = true) :
    Calls Tryd.prog 41 #[.agg #[.int .i64 g, .int .i64 p, .int .i64 v, .int .i64 t, .int .i64 c], .bool false] w fun e w' => (∃ x, e = .returned (.tuple #[.int .u32 x, .bool false])) ∧ Below w.heap.size w w' := by
  obtain ⟨i0, i1, i2, i3, i4⟩ := idx (.int .u64 4) (.int .u64 8) (.int .u64 16) (.int .u64 3) (.int .u64 1)
  go_enter Tryd.func41, Tryd.ntmps41
  go_wp2
  go_step3
  go_wp2
  go_step3
  go_wp2_with fail
  refine (bitsOf_calls false _ (ht.below (((Below.refl _ w).alloc (Nat.le_refl _) _).alloc (by simp) _) ht.1)).mono ?_
  rintro e w1 ⟨rfl, b1⟩
  rw [show tabV false = .agg #[.int .u64 4, .int .u64 8, .int .u64 16, .int .u64 3, .int .u64 1] from rfl]
  have cs : ∀ k x, #[Value.int .i64 g, .int .i64 p, .int .i64 v, .int .i64 t, .int .i64 c][k]? = some x → w1.cell? ⟨w.heap.size + 1, k, none⟩ = some x := by
    intro k x hx
    rw [b1.cell (p := ⟨w.heap.size + 1, k, none⟩) (by simp)]
    have e := cell_new_any (w.alloc (.cells #[.int .i64 g, .int .i64 p, .int .i64 v, .int .i64 t, .int .i64 c] 23)) _ 96 (0, 0) k x hx
    rwa [World.size_alloc] at e
  have k0 := cs 0 _ rfl
  have k1 := cs 1 _ rfl
  have k2 := cs 2 _ rfl
  have k3 := cs 3 _ rfl
  have k4 := cs 4 _ rfl
  clear cs
  have B1 : Below w.heap.size w w1 := (((Below.refl _ w).alloc (Nat.le_refl _) _).alloc (by simp) _).trans (b1.mono (by simp; omega))
  clear b1
  go_wp2
  refine wp_loop_rounds 6 ?_
  rw [rounds_succ]
  go_wp2
  rw [rounds_succ]
  go_wp2
  rw [rounds_succ]
  go_wp2
  rw [rounds_succ]
  go_wp2
  rw [Exit.noGoto_ret]
  go_ret2
  exact ⟨⟨_, rfl⟩, B1⟩

set_option maxHeartbeats 1000000 in
theorem lay_user4 (g p v t c : Int) (w : World) (ht : Tab w) (g0 : 0 ≤ g) (g1 : g < 16) (p0 : 0 ≤ p) (p1 : p < 256) (v0 : 0 ≤ v) (v1 : v < 65536) (t0 : 0 ≤ t) (t1 : t < 8) (hb : (c / 2 != 0) = true) :
    Calls Tryd.prog 41 #[.agg #[.int .i64 g, .int .i64 p, .int .i64 v, .int .i64 t, .int .i64 c], .bool false] w fun e w' => (∃ x, e = .returned (.tuple #[.int .u32 x, .bool false])) ∧ Below w.heap.size w w' := by
  obtain ⟨i0, i1, i2, i3, i4⟩ := idx (.int .u64 4) (.int .u64 8) (.int .u64 16) (.int .u64 3) (.int .u64 1)
  go_enter Tryd.func41, Tryd.ntmps41
  go_wp2
  go_step3
  go_wp2
  go_step3
  go_wp2_with fail
  refine (bitsOf_calls false _ (ht.below (((Below.refl _ w).alloc (Nat.le_refl _) _).alloc (by simp) _) ht.1)).mono ?_
  rintro e w1 ⟨rfl, b1⟩
  rw [show tabV false = .agg #[.int .u64 4, .int .u64 8, .int .u64 16, .int .u64 3, .int .u64 1] from rfl]
  have cs : ∀ k x, #[Value.int .i64 g, .int .i64 p, .int .i64 v, .int .i64 t, .int .i64 c][k]? = some x → w1.cell? ⟨w.heap.size + 1, k, none⟩ = some x := by
    intro k x hx
    rw [b1.cell (p := ⟨w.heap.size + 1, k, none⟩) (by simp)]
    have e := cell_new_any (w.alloc (.cells #[.int .i64 g, .int .i64 p, .int .i64 v, .int .i64 t, .int .i64 c] 23)) _ 96 (0, 0) k x hx
    rwa [World.size_alloc] at e
  have k0 := cs 0 _ rfl
  have k1 := cs 1 _ rfl
  have k2 := cs 2 _ rfl
  have k3 := cs 3 _ rfl
  have k4 := cs 4 _ rfl
  clear cs
  have B1 : Below w.heap.size w w1 := (((Below.refl _ w).alloc (Nat.le_refl _) _).alloc (by simp) _).trans (b1.mono (by simp; omega))
  clear b1
  go_wp2
  refine wp_loop_rounds 6 ?_
  rw [rounds_succ]
  go_wp2
  rw [rounds_succ]
  go_wp2
  rw [rounds_succ]
  go_wp2
  rw [rounds_succ]
  go_wp2
  rw [rounds_succ]
  go_wp2
  rw [Exit.noGoto_ret]
  go_ret2
  exact ⟨⟨_, rfl⟩, B1⟩

set_option maxHeartbeats 1000000 in
theorem lay_nni (p v t c : Int) (w : World) (ht : Tab w) (p0 : 0 ≤ p) (p1 : p < 4096) (v0 : 0 ≤ v) (v1 : v < 65536) (t0 : 0 ≤ t) (t1 : t < 8) (c0 : 0 ≤ c) (c1 : c < 2)  :
    Calls Tryd.prog 41 #[.agg #[.int .i64 0, .int .i64 p, .int .i64 v, .int .i64 t, .int .i64 c], .bool true] w fun e w' => e = .returned (.tuple #[.int .u32 (word 0 p v t c), .bool true]) ∧ Below w.heap.size w w' := by
  obtain ⟨i0, i1, i2, i3, i4⟩ := idx (.int .u64 0) (.int .u64 12) (.int .u64 16) (.int .u64 3) (.int .u64 1)
  go_enter Tryd.func41, Tryd.ntmps41
  go_wp2
  go_step3
  go_wp2
  go_step3
  go_wp2_with fail
  refine (bitsOf_calls true _ (ht.below (((Below.refl _ w).alloc (Nat.le_refl _) _).alloc (by simp) _) ht.1)).mono ?_
  rintro e w1 ⟨rfl, b1⟩
  rw [show tabV true = .agg #[.int .u64 0, .int .u64 12, .int .u64 16, .int .u64 3, .int .u64 1] from rfl]
  have cs : ∀ k x, #[Value.int .i64 0, .int .i64 p, .int .i64 v, .int .i64 t, .int .i64 c][k]? = some x → w1.cell? ⟨w.heap.size + 1, k, none⟩ = some x := by
    intro k x hx
    rw [b1.cell (p := ⟨w.heap.size + 1, k, none⟩) (by simp)]
    have e := cell_new_any (w.alloc (.cells #[.int .i64 0, .int .i64 p, .int .i64 v, .int .i64 t, .int .i64 c] 23)) _ 96 (0, 0) k x hx
    rwa [World.size_alloc] at e
  have k0 := cs 0 _ rfl
  have k1 := cs 1 _ rfl
  have k2 := cs 2 _ rfl
  have k3 := cs 3 _ rfl
  have k4 := cs 4 _ rfl
  clear cs
  have B1 : Below w.heap.size w w1 := (((Below.refl _ w).alloc (Nat.le_refl _) _).alloc (by simp) _).trans (b1.mono (by simp; omega))
  clear b1
  go_wp2
  refine wp_loop_rounds 6 ?_
  rw [rounds_succ]
  go_wp2
  rw [rounds_succ]
  go_wp2
  rw [rounds_succ]
  go_wp2
  rw [rounds_succ]
  go_wp2
  rw [rounds_succ]
  go_wp2
  rw [rounds_succ]
  go_wp2
  rw [Exit.noGoto_ret]
  go_ret2
  exact ⟨ret_word (laid_nni p v t c p0 p1 v0 v1 t0 t1 c0 c1), B1⟩

set_option maxHeartbeats 1000000 in
theorem lay_nni0 (g p v t c : Int) (w : World) (ht : Tab w)  (hb : (g != 0) = true) :
    Calls Tryd.prog 41 #[.agg #[.int .i64 g, .int .i64 p, .int .i64 v, .int .i64 t, .int .i64 c], .bool true] w fun e w' => (∃ x, e = .returned (.tuple #[.int .u32 x, .bool false])) ∧ Below w.heap.size w w' := by
  obtain ⟨i0, i1, i2, i3, i4⟩ := idx (.int .u64 0) (.int .u64 12) (.int .u64 16) (.int .u64 3) (.int .u64 1)
  go_enter Tryd.func41, Tryd.ntmps41
  go_wp2
  go_step3
  go_wp2
  go_step3
  go_wp2_with fail
  refine (bitsOf_calls true _ (ht.below (((Below.refl _ w).alloc (Nat.le_refl _) _).alloc (by simp) _) ht.1)).mono ?_
  rintro e w1 ⟨rfl, b1⟩
  rw [show tabV true = .agg #[.int .u64 0, .int .u64 12, .int .u64 16, .int .u64 3, .int .u64 1] from rfl]
  have cs : ∀ k x, #[Value.int .i64 g, .int .i64 p, .int .i64 v, .int .i64 t, .int .i64 c][k]? = some x → w1.cell? ⟨w.heap.size + 1, k, none⟩ = some x := by
    intro k x hx
    rw [b1.cell (p := ⟨w.heap.size + 1, k, none⟩) (by simp)]
    have e := cell_new_any (w.alloc (.cells #[.int .i64 g, .int .i64 p, .int .i64 v, .int .i64 t, .int .i64 c] 23)) _ 96 (0, 0) k x hx
    rwa [World.size_alloc] at e
  have k0 := cs 0 _ rfl
  have k1 := cs 1 _ rfl
  have k2 := cs 2 _ rfl
  have k3 := cs 3 _ rfl
  have k4 := cs 4 _ rfl
  clear cs
  have B1 : Below w.heap.size w w1 := (((Below.refl _ w).alloc (Nat.le_refl _) _).alloc (by simp) _).trans (b1.mono (by simp; omega))
  clear b1
  go_wp2
  refine wp_loop_rounds 6 ?_
  rw [rounds_succ]
  go_wp2
  rw [Exit.noGoto_ret]
  go_ret2
  exact ⟨⟨_, rfl⟩, B1⟩

set_option maxHeartbeats 1000000 in
theorem lay_nni1 (p v t c : Int) (w : World) (ht : Tab w)  (hb : (p / 4096 != 0) = true) :
    Calls Tryd.prog 41 #[.agg #[.int .i64 0, .int .i64 p, .int .i64 v, .int .i64 t, .int .i64 c], .bool true] w fun e w' => (∃ x, e = .returned (.tuple #[.int .u32 x, .bool false])) ∧ Below w.heap.size w w' := by
  obtain ⟨i0, i1, i2, i3, i4⟩ := idx (.int .u64 0) (.int .u64 12) (.int .u64 16) (.int .u64 3) (.int .u64 1)
  go_enter Tryd.func41, Tryd.ntmps41
  go_wp2
  go_step3
  go_wp2
  go_step3
  go_wp2_with fail
  refine (bitsOf_calls true _ (ht.below (((Below.refl _ w).alloc (Nat.le_refl _) _).alloc (by simp) _) ht.1)).mono ?_
  rintro e w1 ⟨rfl, b1⟩
  rw [show tabV true = .agg #[.int .u64 0, .int .u64 12, .int .u64 16, .int .u64 3, .int .u64 1] from rfl]
  have cs : ∀ k x, #[Value.int .i64 0, .int .i64 p, .int .i64 v, .int .i64 t, .int .i64 c][k]? = some x → w1.cell? ⟨w.heap.size + 1, k, none⟩ = some x := by
    intro k x hx
    rw [b1.cell (p := ⟨w.heap.size + 1, k, none⟩) (by simp)]
    have e := cell_new_any (w.alloc (.cells #[.int .i64 0, .int .i64 p, .int .i64 v, .int .i64 t, .int .i64 c] 23)) _ 96 (0, 0) k x hx
    rwa [World.size_alloc] at e
  have k0 := cs 0 _ rfl
  have k1 := cs 1 _ rfl
  have k2 := cs 2 _ rfl
  have k3 := cs 3 _ rfl
  have k4 := cs 4 _ rfl
  clear cs
  have B1 : Below w.heap.size w w1 := (((Below.refl _ w).alloc (Nat.le_refl _) _).alloc (by simp) _).trans (b1.mono (by simp; omega))
  clear b1
  go_wp2
  refine wp_loop_rounds 6 ?_
  rw [rounds_succ]
  go_wp2
  rw [rounds_succ]
  go_wp2
  rw [Exit.noGoto_ret]
  go_ret2
  exact ⟨⟨_, rfl⟩, B1⟩

set_option maxHeartbeats 1000000 in
theorem lay_nni2 (p v t c : Int) (w : World) (ht : Tab w) (p0 : 0 ≤ p) (p1 : p < 4096) (hb : (v / 65536 != 0) = true) :
    Calls Tryd.prog 41 #[.agg #[.int .i64 0, .int .i64 p, .int .i64 v, .int .i64 t, .int .i64 c], .bool true] w fun e w' => (∃ x, e = .returned (.tuple #[.int .u32 x, .bool false])) ∧ Below w.heap.size w w' := by
  obtain ⟨i0, i1, i2, i3, i4⟩ := idx (.int .u64 0) (.int .u64 12) (.int .u64 16) (.int .u64 3) (.int .u64 1)
  go_enter Tryd.func41, Tryd.ntmps41
  go_wp2
  go_step3
  go_wp2
  go_step3
  go_wp2_with fail
  refine (bitsOf_calls true _ (ht.below (((Below.refl _ w).alloc (Nat.le_refl _) _).alloc (by simp) _) ht.1)).mono ?_
  rintro e w1 ⟨rfl, b1⟩
  rw [show tabV true = .agg #[.int .u64 0, .int .u64 12, .int .u64 16, .int .u64 3, .int .u64 1] from rfl]
  have cs : ∀ k x, #[Value.int .i64 0, .int .i64 p, .int .i64 v, .int .i64 t, .int .i64 c][k]? = some x → w1.cell? ⟨w.heap.size + 1, k, none⟩ = some x := by
    intro k x hx
    rw [b1.cell (p := ⟨w.heap.size + 1, k, none⟩) (by simp)]
    have e := cell_new_any (w.alloc (.cells #[.int .i64 0, .int .i64 p, .int .i64 v, .int .i64 t, .int .i64 c] 23)) _ 96 (0, 0) k x hx
    rwa [World.size_alloc] at e
  have k0 := cs 0 _ rfl
  have k1 := cs 1 _ rfl
  have k2 := cs 2 _ rfl
  have k3 := cs 3 _ rfl
  have k4 := cs 4 _ rfl
  clear cs
  have B1 : Below w.heap.size w w1 := (((Below.refl _ w).alloc (Nat.le_refl _) _).alloc (by simp) _).trans (b1.mono (by simp; omega))
  clear b1
  go_wp2
  refine wp_loop_rounds 6 ?_
  rw [rounds_succ]
  go_wp2
  rw [rounds_succ]
  go_wp2
  rw [rounds_succ]
  go_wp2
  rw [Exit.noGoto_ret]
  go_ret2
  exact ⟨⟨_, rfl⟩, B1⟩

set_option maxHeartbeats 1000000 in
theorem lay_nni3 (p v t c : Int) (w : World) (ht : Tab w) (p0 : 0 ≤ p) (p1 : p < 4096) (v0 : 0 ≤ v) (v1 : v < 65536) (hb : (t / 8 != 0) = true) :
    Calls Tryd.prog 41 #[.agg #[.int .i64 0, .int .i64 p, .int .i64 v, .int .i64 t, .int .i64 c], .bool true] w fun e w' => (∃ x, e = .returned (.tuple #[.int .u32 x, .bool false])) ∧ Below w.heap.size w w' := by
  obtain ⟨i0, i1, i2, i3, i4⟩ := idx (.int .u64 0) (.int .u64 12) (.int .u64 16) (.int .u64 3) (.int .u64 1)
  go_enter Tryd.func41, Tryd.ntmps41
  go_wp2
  go_step3
  go_wp2
  go_step3
  go_wp2_with fail
  refine (bitsOf_calls true _ (ht.below (((Below.refl _ w).alloc (Nat.le_refl _) _).alloc (by simp) _) ht.1)).mono ?_
  rintro e w1 ⟨rfl, b1⟩
  rw [show tabV true = .agg #[.int .u64 0, .int .u64 12, .int .u64 16, .int .u64 3, .int .u64 1] from rfl]
  have cs : ∀ k x, #[Value.int .i64 0, .int .i64 p, .int .i64 v, .int .i64 t, .int .i64 c][k]? = some x → w1.cell? ⟨w.heap.size + 1, k, none⟩ = some x := by
    intro k x hx
    rw [b1.cell (p := ⟨w.heap.size + 1, k, none⟩) (by simp)]
    have e := cell_new_any (w.alloc (.cells #[.int .i64 0, .int .i64 p, .int .i64 v, .int .i64 t, .int .i64 c] 23)) _ 96 (0, 0) k x hx
    rwa [World.size_alloc] at e
  have k0 := cs 0 _ rfl
  have k1 := cs 1 _ rfl
  have k2 := cs 2 _ rfl
  have k3 := cs 3 _ rfl
  have k4 := cs 4 _ rfl
  clear cs
  have B1 : Below w.heap.size w w1 := (((Below.refl _ w).alloc (Nat.le_refl _) _).alloc (by simp) _).trans (b1.mono (by simp; omega))
  clear b1
  go_wp2
  refine wp_loop_rounds 6 ?_
  rw [rounds_succ]
  go_wp2
  rw [rounds_succ]
  go_wp2
  rw [rounds_succ]
  go_wp2
  rw [rounds_succ]
  go_wp2
  rw [Exit.noGoto_ret]
  go_ret2
  exact ⟨⟨_, rfl⟩, B1⟩

set_option maxHeartbeats 1000000 in
theorem lay_nni4 (p v t c : Int) (w : World) (ht : Tab w) (p0 : 0 ≤ p) (p1 : p < 4096) (v0 : 0 ≤ v) (v1 : v < 65536) (t0 : 0 ≤ t) (t1 : t < 8) (hb : (c / 2 != 0) = true) :
    Calls Tryd.prog 41 #[.agg #[.int .i64 0, .int .i64 p, .int .i64 v, .int .i64 t, .int .i64 c], .bool true] w fun e w' => (∃ x, e = .returned (.tuple #[.int .u32 x, .bool false])) ∧ Below w.heap.size w w' := by
  obtain ⟨i0, i1, i2, i3, i4⟩ := idx (.int .u64 0) (.int .u64 12) (.int .u64 16) (.int .u64 3) (.int .u64 1)
  go_enter Tryd.func41, Tryd.ntmps41
  go_wp2
  go_step3
  go_wp2
  go_step3
  go_wp2_with fail
  refine (bitsOf_calls true _ (ht.below (((Below.refl _ w).alloc (Nat.le_refl _) _).alloc (by simp) _) ht.1)).mono ?_
  rintro e w1 ⟨rfl, b1⟩
  rw [show tabV true = .agg #[.int .u64 0, .int .u64 12, .int .u64 16, .int .u64 3, .int .u64 1] from rfl]
  have cs : ∀ k x, #[Value.int .i64 0, .int .i64 p, .int .i64 v, .int .i64 t, .int .i64 c][k]? = some x → w1.cell? ⟨w.heap.size + 1, k, none⟩ = some x := by
    intro k x hx
    rw [b1.cell (p := ⟨w.heap.size + 1, k, none⟩) (by simp)]
    have e := cell_new_any (w.alloc (.cells #[.int .i64 0, .int .i64 p, .int .i64 v, .int .i64 t, .int .i64 c] 23)) _ 96 (0, 0) k x hx
    rwa [World.size_alloc] at e
  have k0 := cs 0 _ rfl
  have k1 := cs 1 _ rfl
  have k2 := cs 2 _ rfl
  have k3 := cs 3 _ rfl
  have k4 := cs 4 _ rfl
  clear cs
  have B1 : Below w.heap.size w w1 := (((Below.refl _ w).alloc (Nat.le_refl _) _).alloc (by simp) _).trans (b1.mono (by simp; omega))
  clear b1
  go_wp2
  refine wp_loop_rounds 6 ?_
  rw [rounds_succ]
  go_wp2
  rw [rounds_succ]
  go_wp2
  rw [rounds_succ]
  go_wp2
  rw [rounds_succ]
  go_wp2
  rw [rounds_succ]
  go_wp2
  rw [Exit.noGoto_ret]
  go_ret2
  exact ⟨⟨_, rfl⟩, B1⟩

end Go.Proofs.YtpifmljbaogcbaaDoor.H
