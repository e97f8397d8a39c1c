/- Proved here: header.lift. Conditions: as each theorem states them. -/
import Derived.Test.YtpifmljbaogcbaaDoorHLay
namespace Go.Proofs.YtpifmljbaogcbaaDoor.H
open Go.RowKit

theorem frozen_new_any (w : World) (o : Array Value) (t : TypeId) (k : Nat) : (w.alloc (.cells o t)).frozen? ⟨w.heap.size, k, none⟩ = false := by
  unfold World.frozen?
  rw [show (w.alloc (.cells o t)).heap[(⟨w.heap.size, k, none⟩ : Addr).block]? = some (.cells o t (0, 0)) from heap_new w (.cells o t)]
  simp


/-- The numbers, by their places; the word behind k rounds; the table. -/
def dd (nni : Bool) (n : Nat) (j : Nat) : Int := match j with
  | 0 => dG nni n
  | 1 => dP nni n
  | 2 => dV n
  | 3 => dT n
  | _ => dC n
def wk (nni : Bool) (n : Nat) (k : Nat) : Nat := match k with
  | 0 => n
  | 1 => n / 2
  | 2 => n / 16
  | 3 => n / 1048576
  | _ => if nni then n / 4294967296 else n / 268435456
def wk5 (nni : Bool) (n : Nat) (k : Nat) : Nat := if k = 5 then n / 4294967296 else wk nni n k
def tb (nni : Bool) (j : Nat) : Int := match j with
  | 0 => if nni then 0 else 4
  | 1 => if nni then 12 else 8
  | 2 => 16
  | 3 => 3
  | _ => 1
theorem u32_mask (m k : Nat) (hm : m < 4294967296) (hk : k ≤ 32) : bits .and .u32 (m : Int) ((2 ^ k - 1 : Nat) : Int) = ((m % 2 ^ k : Nat) : Int) := by
  have h : 2 ^ k ≤ 2 ^ 32 := Nat.pow_le_pow_right (by decide) hk
  rw [u32_and_nat _ _ hm (by omega), Nat.and_two_pow_sub_one_eq_mod]

/-- What holds behind k rounds. -/
structure LR (nni : Bool) (n B T : Nat) (w wr : World) (k : Nat) : Prop where
  num : ∀ j, j < 5 → wr.cell? ⟨B, j, none⟩ = some (.int .i64 (if 5 ≤ k + j then dd nni n j else 0))
  tab : ∀ j, j < 5 → wr.cell? ⟨T, j, none⟩ = some (.int .u64 (tb nni j))
  res : ∀ j, j < 5 → wr.cell? ⟨w.heap.size, j, none⟩ = some (.int .i64 0)
  fnum : ∀ j, wr.frozen? ⟨B, j, none⟩ = false
  fres : ∀ j, wr.frozen? ⟨w.heap.size, j, none⟩ = false
  size : T < wr.heap.size
  bel : Below w.heap.size w wr

theorem addr_ne {b b' i i' : Nat} (h : b ≠ b' ∨ i ≠ i') : (⟨b, i, none⟩ : Addr) ≠ ⟨b', i', none⟩ := by
  intro e
  simp only [Addr.mk.injEq] at e
  omega
theorem LR.step {nni : Bool} {n B T : Nat} {w wr : World} {k : Nat} (j : Nat) (h : LR nni n B T w wr k) (hj : k + j = 4) (hB : w.heap.size < B) (hT : B < T) (x : Int) (hx : x = dd nni n j) : LR nni n B T w (wr.setCell ⟨B, j, none⟩ (.int .i64 x)) (k + 1) := by
  subst hx
  refine ⟨fun i hi => ?_, fun i hi => ?_, fun i hi => ?_, fun i => ?_, fun i => ?_, ?_, ?_⟩
  · by_cases e : i = j
    · subst e
      rw [if_pos (by omega)]
      exact World.cell?_setCell_same _ _ _ (h.num i hi)
    · rw [World.cell?_setCell_other _ _ _ _ (addr_ne (.inr (Ne.symm e))), h.num i hi]
      by_cases e2 : 5 ≤ k + i
      · rw [if_pos e2, if_pos (by omega)]
      · rw [if_neg e2, if_neg (by omega)]
  · rw [World.cell?_setCell_other _ _ _ _ (addr_ne (.inl (by omega))), h.tab i hi]
  · rw [World.cell?_setCell_other _ _ _ _ (addr_ne (.inl (by omega))), h.res i hi]
  · rw [World.frozen?_setCell]; exact h.fnum i
  · rw [World.frozen?_setCell]; exact h.fres i
  · rw [World.size_setCell]; exact h.size
  · exact h.bel.setCell (by show w.heap.size ≤ B; omega) _

set_option maxHeartbeats 1000000 in
theorem lift_user (n : Nat) (hlt : n < 4294967296) (w : World) (tab : Tab w) :
    Calls Tryd.prog 51 #[.int .u32 n, .bool false] w fun e w' => e = .returned (.agg #[.int .i64 (dG false n), .int .i64 (dP false n), .int .i64 (dV n), .int .i64 (dT n), .int .i64 (dC n)]) ∧ Below w.heap.size w w' := by
  go_enter Tryd.func51, Tryd.ntmps51
  go_wp2_with fail
  refine (bitsOf_calls false _ (tab.below (((Below.refl _ w).alloc (Nat.le_refl _) _).alloc (by simp) _) tab.1)).mono ?_
  rintro e w1 ⟨rfl, b1⟩
  rw [show tabV false = .agg #[.int .u64 4, .int .u64 8, .int .u64 16, .int .u64 3, .int .u64 1] from rfl]
  have z1 : w.heap.size + 1 < w1.heap.size := by have := b1.size; simp at this; omega
  have L0 : LR false n (w.heap.size + 1) w1.heap.size w (w1.alloc (.cells #[.int .u64 4, .int .u64 8, .int .u64 16, .int .u64 3, .int .u64 1] 97)) 0 := by
    have c1 : ∀ b o, b < w.heap.size + 2 → (w1.alloc (.cells #[.int .u64 4, .int .u64 8, .int .u64 16, .int .u64 3, .int .u64 1] 97)).cell? ⟨b, o, none⟩ = ((w.alloc (.cells #[.int .i64 0, .int .i64 0, .int .i64 0, .int .i64 0, .int .i64 0] 23)).alloc (.cells #[.int .i64 0, .int .i64 0, .int .i64 0, .int .i64 0, .int .i64 0] 96)).cell? ⟨b, o, none⟩ := fun b o hb =>
      (((Below.refl w1.heap.size w1).alloc (Nat.le_refl _) _).cell (p := ⟨b, o, none⟩) (by show b < w1.heap.size; omega)).trans (b1.cell (p := ⟨b, o, none⟩) (by simp; omega))
    have f1 : ∀ b o, b < w.heap.size + 2 → (w1.alloc (.cells #[.int .u64 4, .int .u64 8, .int .u64 16, .int .u64 3, .int .u64 1] 97)).frozen? ⟨b, o, none⟩ = ((w.alloc (.cells #[.int .i64 0, .int .i64 0, .int .i64 0, .int .i64 0, .int .i64 0] 23)).alloc (.cells #[.int .i64 0, .int .i64 0, .int .i64 0, .int .i64 0, .int .i64 0] 96)).frozen? ⟨b, o, none⟩ := fun b o hb =>
      (((Below.refl w1.heap.size w1).alloc (Nat.le_refl _) _).frozen (p := ⟨b, o, none⟩) (by show b < w1.heap.size; omega)).trans (b1.frozen (p := ⟨b, o, none⟩) (by simp; omega))
    have up : Below (w.heap.size + 1) (w.alloc (.cells #[.int .i64 0, .int .i64 0, .int .i64 0, .int .i64 0, .int .i64 0] 23)) ((w.alloc (.cells #[.int .i64 0, .int .i64 0, .int .i64 0, .int .i64 0, .int .i64 0] 23)).alloc (.cells #[.int .i64 0, .int .i64 0, .int .i64 0, .int .i64 0, .int .i64 0] 96)) := (Below.refl _ _).alloc (by simp) _
    have five : ∀ j, j < 5 → (#[.int .i64 0, .int .i64 0, .int .i64 0, .int .i64 0, .int .i64 0] : Array Value)[j]? = some (.int .i64 0) := by
      intro j hj
      have : j = 0 ∨ j = 1 ∨ j = 2 ∨ j = 3 ∨ j = 4 := by omega
      rcases this with rfl | rfl | rfl | rfl | rfl <;> rfl
    have t5 : ∀ j, j < 5 → (#[.int .u64 4, .int .u64 8, .int .u64 16, .int .u64 3, .int .u64 1] : Array Value)[j]? = some (.int .u64 (tb false j)) := by
      intro j hj
      have : j = 0 ∨ j = 1 ∨ j = 2 ∨ j = 3 ∨ j = 4 := by omega
      rcases this with rfl | rfl | rfl | rfl | rfl <;> rfl
    refine ⟨fun j hj => ?_, fun j hj => ?_, fun j hj => ?_, fun j => ?_, fun j => ?_, ?_, ?_⟩
    · rw [c1 _ _ (by omega), if_neg (by omega)]
      have e := cell_new_any (w.alloc (.cells #[.int .i64 0, .int .i64 0, .int .i64 0, .int .i64 0, .int .i64 0] 23)) _ 96 (0, 0) j _ (five j hj)
      rwa [World.size_alloc] at e
    · exact cell_new_any w1 _ 97 (0, 0) j _ (t5 j hj)
    · rw [c1 _ _ (by omega), up.cell (p := ⟨w.heap.size, j, none⟩) (by show w.heap.size < _; omega)]
      exact cell_new_any w _ 23 (0, 0) j _ (five j hj)
    · rw [f1 _ _ (by omega)]
      have e := frozen_new_any (w.alloc (.cells #[.int .i64 0, .int .i64 0, .int .i64 0, .int .i64 0, .int .i64 0] 23)) #[.int .i64 0, .int .i64 0, .int .i64 0, .int .i64 0, .int .i64 0] 96 j
      rwa [World.size_alloc] at e
    · rw [f1 _ _ (by omega), up.frozen (p := ⟨w.heap.size, j, none⟩) (by show w.heap.size < _; omega)]
      exact frozen_new_any w _ 23 j
    · simp
    · exact ((((Below.refl _ w).alloc (Nat.le_refl _) _).alloc (by simp) _).trans (b1.mono (by simp; omega))).alloc (by omega) _
  clear b1
  go_wp2
  go_loopw [0, 7] (fun wd i wr => ∃ k : Nat, k ≤ 5 ∧ i = .int .i64 (4 - (k : Int)) ∧ wd = .int .u32 ((wk5 false n k : Nat) : Int) ∧ LR false n (w.heap.size + 1) w1.heap.size w wr k) (fun _ i _ => (intOf i + 1).toNat)
  case atStart => exact ⟨0, by omega, rfl, rfl, L0⟩
  case round =>
    obtain ⟨k, hk, rfl, rfl, R⟩ := hrel
    have hk6 : k = 0 ∨ k = 1 ∨ k = 2 ∨ k = 3 ∨ k = 4 ∨ k = 5 := by omega
    clear L0
    rcases hk6 with rfl | rfl | rfl | rfl | rfl | rfl
    · obtain ⟨m, hm⟩ : ∃ m, wk5 false n 0 = m := ⟨_, rfl⟩
      obtain ⟨x, hx⟩ : ∃ x, x = dd false n 4 := ⟨_, rfl⟩
      have ml : m < 4294967296 := by rw [← hm]; simp [wk5, wk]; omega
      have ea : bits .and .u32 (m : Int) 1 = x := by
        have := u32_mask m 1 ml (by decide)
        rw [hx]
        refine this.trans ?_
        rw [← hm]
        simp [wk5, wk, dd, dC]
        try omega
      have xr : 0 ≤ x ∧ x < 4294967296 := by rw [hx]; simp [dd, dC]; try omega
      have x0 := xr.1
      have x1 := xr.2
      have hw : wk5 false n 1 = m / 2 := by rw [← hm]; simp [wk5, wk]; try omega
      have HW : Hid (wk5 false n 1 = m / 2) := hw
      have HX : Hid (x = dd false n 4) := hx
      rw [hm]
      have S := R.step 4 rfl (by omega) z1 x hx
      have q1 : wr.cell? ⟨w.heap.size + 1, 4, none⟩ = some (.int .i64 0) := R.num 4 (by decide)
      have q2 : wr.cell? ⟨w1.heap.size, 4, none⟩ = some (.int .u64 1) := R.tab 4 (by decide)
      have q3 := R.fnum 4
      have q4 := R.size
      clear hx hm hw xr R
      go_wp2
      go_roundw
      case rel => exact ⟨1, by omega, by go_num, by rw [HW.out]; simp, S⟩
      case measure => simp [intOf]
    · obtain ⟨m, hm⟩ : ∃ m, wk5 false n 1 = m := ⟨_, rfl⟩
      obtain ⟨x, hx⟩ : ∃ x, x = dd false n 3 := ⟨_, rfl⟩
      have ml : m < 4294967296 := by rw [← hm]; simp [wk5, wk]; omega
      have ea : bits .and .u32 (m : Int) 7 = x := by
        have := u32_mask m 3 ml (by decide)
        rw [hx]
        refine this.trans ?_
        rw [← hm]
        simp [wk5, wk, dd, dT]
        try omega
      have xr : 0 ≤ x ∧ x < 4294967296 := by rw [hx]; simp [dd, dT]; try omega
      have x0 := xr.1
      have x1 := xr.2
      have hw : wk5 false n 2 = m / 8 := by rw [← hm]; simp [wk5, wk]; try omega
      have HW : Hid (wk5 false n 2 = m / 8) := hw
      have HX : Hid (x = dd false n 3) := hx
      rw [hm]
      have S := R.step 3 rfl (by omega) z1 x hx
      have q1 : wr.cell? ⟨w.heap.size + 1, 3, none⟩ = some (.int .i64 0) := R.num 3 (by decide)
      have q2 : wr.cell? ⟨w1.heap.size, 3, none⟩ = some (.int .u64 3) := R.tab 3 (by decide)
      have q3 := R.fnum 3
      have q4 := R.size
      clear hx hm hw xr R
      go_wp2
      go_roundw
      case rel => exact ⟨2, by omega, by go_num, by rw [HW.out]; simp, S⟩
      case measure => simp [intOf]
    · obtain ⟨m, hm⟩ : ∃ m, wk5 false n 2 = m := ⟨_, rfl⟩
      obtain ⟨x, hx⟩ : ∃ x, x = dd false n 2 := ⟨_, rfl⟩
      have ml : m < 4294967296 := by rw [← hm]; simp [wk5, wk]; omega
      have ea : bits .and .u32 (m : Int) 65535 = x := by
        have := u32_mask m 16 ml (by decide)
        rw [hx]
        refine this.trans ?_
        rw [← hm]
        simp [wk5, wk, dd, dV]
        try omega
      have xr : 0 ≤ x ∧ x < 4294967296 := by rw [hx]; simp [dd, dV]; try omega
      have x0 := xr.1
      have x1 := xr.2
      have hw : wk5 false n 3 = m / 65536 := by rw [← hm]; simp [wk5, wk]; try omega
      have HW : Hid (wk5 false n 3 = m / 65536) := hw
      have HX : Hid (x = dd false n 2) := hx
      rw [hm]
      have S := R.step 2 rfl (by omega) z1 x hx
      have q1 : wr.cell? ⟨w.heap.size + 1, 2, none⟩ = some (.int .i64 0) := R.num 2 (by decide)
      have q2 : wr.cell? ⟨w1.heap.size, 2, none⟩ = some (.int .u64 16) := R.tab 2 (by decide)
      have q3 := R.fnum 2
      have q4 := R.size
      clear hx hm hw xr R
      go_wp2
      go_roundw
      case rel => exact ⟨3, by omega, by go_num, by rw [HW.out]; simp, S⟩
      case measure => simp [intOf]
    · obtain ⟨m, hm⟩ : ∃ m, wk5 false n 3 = m := ⟨_, rfl⟩
      obtain ⟨x, hx⟩ : ∃ x, x = dd false n 1 := ⟨_, rfl⟩
      have ml : m < 4294967296 := by rw [← hm]; simp [wk5, wk]; omega
      have ea : bits .and .u32 (m : Int) 255 = x := by
        have := u32_mask m 8 ml (by decide)
        rw [hx]
        refine this.trans ?_
        rw [← hm]
        simp [wk5, wk, dd, dP]
        try omega
      have xr : 0 ≤ x ∧ x < 4294967296 := by rw [hx]; simp [dd, dP]; try omega
      have x0 := xr.1
      have x1 := xr.2
      have hw : wk5 false n 4 = m / 256 := by rw [← hm]; simp [wk5, wk]; try omega
      have HW : Hid (wk5 false n 4 = m / 256) := hw
      have HX : Hid (x = dd false n 1) := hx
      rw [hm]
      have S := R.step 1 rfl (by omega) z1 x hx
      have q1 : wr.cell? ⟨w.heap.size + 1, 1, none⟩ = some (.int .i64 0) := R.num 1 (by decide)
      have q2 : wr.cell? ⟨w1.heap.size, 1, none⟩ = some (.int .u64 8) := R.tab 1 (by decide)
      have q3 := R.fnum 1
      have q4 := R.size
      clear hx hm hw xr R
      go_wp2
      go_roundw
      case rel => exact ⟨4, by omega, by go_num, by rw [HW.out]; simp, S⟩
      case measure => simp [intOf]
    · obtain ⟨m, hm⟩ : ∃ m, wk5 false n 4 = m := ⟨_, rfl⟩
      obtain ⟨x, hx⟩ : ∃ x, x = dd false n 0 := ⟨_, rfl⟩
      have ml : m < 4294967296 := by rw [← hm]; simp [wk5, wk]; omega
      have ea : bits .and .u32 (m : Int) 15 = x := by
        have := u32_mask m 4 ml (by decide)
        rw [hx]
        refine this.trans ?_
        rw [← hm]
        simp [wk5, wk, dd, dG]
        try omega
      have xr : 0 ≤ x ∧ x < 4294967296 := by rw [hx]; simp [dd, dG]; try omega
      have x0 := xr.1
      have x1 := xr.2
      have hw : wk5 false n 5 = m / 16 := by rw [← hm]; simp [wk5, wk]; try omega
      have HW : Hid (wk5 false n 5 = m / 16) := hw
      have HX : Hid (x = dd false n 0) := hx
      rw [hm]
      have S := R.step 0 rfl (by omega) z1 x hx
      have q1 : wr.cell? ⟨w.heap.size + 1, 0, none⟩ = some (.int .i64 0) := R.num 0 (by decide)
      have q2 : wr.cell? ⟨w1.heap.size, 0, none⟩ = some (.int .u64 4) := R.tab 0 (by decide)
      have q3 := R.fnum 0
      have q4 := R.size
      clear hx hm hw xr R
      go_wp2
      go_roundw
      case rel => exact ⟨5, by omega, by go_num, by rw [HW.out]; simp, S⟩
      case measure => simp [intOf]
    · have q0 : wr.cell? ⟨w.heap.size + 1, 0, none⟩ = some (.int .i64 (dG false n)) := R.num 0 (by decide)
      have q1 : wr.cell? ⟨w.heap.size + 1, 1, none⟩ = some (.int .i64 (dP false n)) := R.num 1 (by decide)
      have q2 : wr.cell? ⟨w.heap.size + 1, 2, none⟩ = some (.int .i64 (dV n)) := R.num 2 (by decide)
      have q3 : wr.cell? ⟨w.heap.size + 1, 3, none⟩ = some (.int .i64 (dT n)) := R.num 3 (by decide)
      have q4 : wr.cell? ⟨w.heap.size + 1, 4, none⟩ = some (.int .i64 (dC n)) := R.num 4 (by decide)
      have r0 := R.res 0 (by decide)
      have r1 := R.res 1 (by decide)
      have r2 := R.res 2 (by decide)
      have r3 := R.res 3 (by decide)
      have r4 := R.res 4 (by decide)
      have f0 := R.fres
      have q5 := R.size
      have bel := R.bel
      clear R
      go_wp2
      refine bodyPost_ret (v := .agg #[.int .i64 (dG false n), .int .i64 (dP false n), .int .i64 (dV n), .int .i64 (dT n), .int .i64 (dC n)]) (by simp [results, Tryd.results51, go_sem, *]) rfl ⟨rfl, ?_⟩
      go_grown

set_option maxHeartbeats 1000000 in
theorem lift_nni (n : Nat) (hlt : n < 4294967296) (w : World) (tab : Tab w) :
    Calls Tryd.prog 51 #[.int .u32 n, .bool true] w fun e w' => e = .returned (.agg #[.int .i64 (dG true n), .int .i64 (dP true n), .int .i64 (dV n), .int .i64 (dT n), .int .i64 (dC n)]) ∧ Below w.heap.size w w' := by
  go_enter Tryd.func51, Tryd.ntmps51
  go_wp2_with fail
  refine (bitsOf_calls true _ (tab.below (((Below.refl _ w).alloc (Nat.le_refl _) _).alloc (by simp) _) tab.1)).mono ?_
  rintro e w1 ⟨rfl, b1⟩
  rw [show tabV true = .agg #[.int .u64 0, .int .u64 12, .int .u64 16, .int .u64 3, .int .u64 1] from rfl]
  have z1 : w.heap.size + 1 < w1.heap.size := by have := b1.size; simp at this; omega
  have L0 : LR true n (w.heap.size + 1) w1.heap.size w (w1.alloc (.cells #[.int .u64 0, .int .u64 12, .int .u64 16, .int .u64 3, .int .u64 1] 97)) 0 := by
    have c1 : ∀ b o, b < w.heap.size + 2 → (w1.alloc (.cells #[.int .u64 0, .int .u64 12, .int .u64 16, .int .u64 3, .int .u64 1] 97)).cell? ⟨b, o, none⟩ = ((w.alloc (.cells #[.int .i64 0, .int .i64 0, .int .i64 0, .int .i64 0, .int .i64 0] 23)).alloc (.cells #[.int .i64 0, .int .i64 0, .int .i64 0, .int .i64 0, .int .i64 0] 96)).cell? ⟨b, o, none⟩ := fun b o hb =>
      (((Below.refl w1.heap.size w1).alloc (Nat.le_refl _) _).cell (p := ⟨b, o, none⟩) (by show b < w1.heap.size; omega)).trans (b1.cell (p := ⟨b, o, none⟩) (by simp; omega))
    have f1 : ∀ b o, b < w.heap.size + 2 → (w1.alloc (.cells #[.int .u64 0, .int .u64 12, .int .u64 16, .int .u64 3, .int .u64 1] 97)).frozen? ⟨b, o, none⟩ = ((w.alloc (.cells #[.int .i64 0, .int .i64 0, .int .i64 0, .int .i64 0, .int .i64 0] 23)).alloc (.cells #[.int .i64 0, .int .i64 0, .int .i64 0, .int .i64 0, .int .i64 0] 96)).frozen? ⟨b, o, none⟩ := fun b o hb =>
      (((Below.refl w1.heap.size w1).alloc (Nat.le_refl _) _).frozen (p := ⟨b, o, none⟩) (by show b < w1.heap.size; omega)).trans (b1.frozen (p := ⟨b, o, none⟩) (by simp; omega))
    have up : Below (w.heap.size + 1) (w.alloc (.cells #[.int .i64 0, .int .i64 0, .int .i64 0, .int .i64 0, .int .i64 0] 23)) ((w.alloc (.cells #[.int .i64 0, .int .i64 0, .int .i64 0, .int .i64 0, .int .i64 0] 23)).alloc (.cells #[.int .i64 0, .int .i64 0, .int .i64 0, .int .i64 0, .int .i64 0] 96)) := (Below.refl _ _).alloc (by simp) _
    have five : ∀ j, j < 5 → (#[.int .i64 0, .int .i64 0, .int .i64 0, .int .i64 0, .int .i64 0] : Array Value)[j]? = some (.int .i64 0) := by
      intro j hj
      have : j = 0 ∨ j = 1 ∨ j = 2 ∨ j = 3 ∨ j = 4 := by omega
      rcases this with rfl | rfl | rfl | rfl | rfl <;> rfl
    have t5 : ∀ j, j < 5 → (#[.int .u64 0, .int .u64 12, .int .u64 16, .int .u64 3, .int .u64 1] : Array Value)[j]? = some (.int .u64 (tb true j)) := by
      intro j hj
      have : j = 0 ∨ j = 1 ∨ j = 2 ∨ j = 3 ∨ j = 4 := by omega
      rcases this with rfl | rfl | rfl | rfl | rfl <;> rfl
    refine ⟨fun j hj => ?_, fun j hj => ?_, fun j hj => ?_, fun j => ?_, fun j => ?_, ?_, ?_⟩
    · rw [c1 _ _ (by omega), if_neg (by omega)]
      have e := cell_new_any (w.alloc (.cells #[.int .i64 0, .int .i64 0, .int .i64 0, .int .i64 0, .int .i64 0] 23)) _ 96 (0, 0) j _ (five j hj)
      rwa [World.size_alloc] at e
    · exact cell_new_any w1 _ 97 (0, 0) j _ (t5 j hj)
    · rw [c1 _ _ (by omega), up.cell (p := ⟨w.heap.size, j, none⟩) (by show w.heap.size < _; omega)]
      exact cell_new_any w _ 23 (0, 0) j _ (five j hj)
    · rw [f1 _ _ (by omega)]
      have e := frozen_new_any (w.alloc (.cells #[.int .i64 0, .int .i64 0, .int .i64 0, .int .i64 0, .int .i64 0] 23)) #[.int .i64 0, .int .i64 0, .int .i64 0, .int .i64 0, .int .i64 0] 96 j
      rwa [World.size_alloc] at e
    · rw [f1 _ _ (by omega), up.frozen (p := ⟨w.heap.size, j, none⟩) (by show w.heap.size < _; omega)]
      exact frozen_new_any w _ 23 j
    · simp
    · exact ((((Below.refl _ w).alloc (Nat.le_refl _) _).alloc (by simp) _).trans (b1.mono (by simp; omega))).alloc (by omega) _
  clear b1
  go_wp2
  go_loopw [0, 7] (fun wd i wr => ∃ k : Nat, k ≤ 5 ∧ i = .int .i64 (4 - (k : Int)) ∧ wd = .int .u32 ((wk5 true n k : Nat) : Int) ∧ LR true n (w.heap.size + 1) w1.heap.size w wr k) (fun _ i _ => (intOf i + 1).toNat)
  case atStart => exact ⟨0, by omega, rfl, rfl, L0⟩
  case round =>
    obtain ⟨k, hk, rfl, rfl, R⟩ := hrel
    have hk6 : k = 0 ∨ k = 1 ∨ k = 2 ∨ k = 3 ∨ k = 4 ∨ k = 5 := by omega
    clear L0
    rcases hk6 with rfl | rfl | rfl | rfl | rfl | rfl
    · obtain ⟨m, hm⟩ : ∃ m, wk5 true n 0 = m := ⟨_, rfl⟩
      obtain ⟨x, hx⟩ : ∃ x, x = dd true n 4 := ⟨_, rfl⟩
      have ml : m < 4294967296 := by rw [← hm]; simp [wk5, wk]; omega
      have ea : bits .and .u32 (m : Int) 1 = x := by
        have := u32_mask m 1 ml (by decide)
        rw [hx]
        refine this.trans ?_
        rw [← hm]
        simp [wk5, wk, dd, dC]
        try omega
      have xr : 0 ≤ x ∧ x < 4294967296 := by rw [hx]; simp [dd, dC]; try omega
      have x0 := xr.1
      have x1 := xr.2
      have hw : wk5 true n 1 = m / 2 := by rw [← hm]; simp [wk5, wk]; try omega
      have HW : Hid (wk5 true n 1 = m / 2) := hw
      have HX : Hid (x = dd true n 4) := hx
      rw [hm]
      have S := R.step 4 rfl (by omega) z1 x hx
      have q1 : wr.cell? ⟨w.heap.size + 1, 4, none⟩ = some (.int .i64 0) := R.num 4 (by decide)
      have q2 : wr.cell? ⟨w1.heap.size, 4, none⟩ = some (.int .u64 1) := R.tab 4 (by decide)
      have q3 := R.fnum 4
      have q4 := R.size
      clear hx hm hw xr R
      go_wp2
      go_roundw
      case rel => exact ⟨1, by omega, by go_num, by rw [HW.out]; simp, S⟩
      case measure => simp [intOf]
    · obtain ⟨m, hm⟩ : ∃ m, wk5 true n 1 = m := ⟨_, rfl⟩
      obtain ⟨x, hx⟩ : ∃ x, x = dd true n 3 := ⟨_, rfl⟩
      have ml : m < 4294967296 := by rw [← hm]; simp [wk5, wk]; omega
      have ea : bits .and .u32 (m : Int) 7 = x := by
        have := u32_mask m 3 ml (by decide)
        rw [hx]
        refine this.trans ?_
        rw [← hm]
        simp [wk5, wk, dd, dT]
        try omega
      have xr : 0 ≤ x ∧ x < 4294967296 := by rw [hx]; simp [dd, dT]; try omega
      have x0 := xr.1
      have x1 := xr.2
      have hw : wk5 true n 2 = m / 8 := by rw [← hm]; simp [wk5, wk]; try omega
      have HW : Hid (wk5 true n 2 = m / 8) := hw
      have HX : Hid (x = dd true n 3) := hx
      rw [hm]
      have S := R.step 3 rfl (by omega) z1 x hx
      have q1 : wr.cell? ⟨w.heap.size + 1, 3, none⟩ = some (.int .i64 0) := R.num 3 (by decide)
      have q2 : wr.cell? ⟨w1.heap.size, 3, none⟩ = some (.int .u64 3) := R.tab 3 (by decide)
      have q3 := R.fnum 3
      have q4 := R.size
      clear hx hm hw xr R
      go_wp2
      go_roundw
      case rel => exact ⟨2, by omega, by go_num, by rw [HW.out]; simp, S⟩
      case measure => simp [intOf]
    · obtain ⟨m, hm⟩ : ∃ m, wk5 true n 2 = m := ⟨_, rfl⟩
      obtain ⟨x, hx⟩ : ∃ x, x = dd true n 2 := ⟨_, rfl⟩
      have ml : m < 4294967296 := by rw [← hm]; simp [wk5, wk]; omega
      have ea : bits .and .u32 (m : Int) 65535 = x := by
        have := u32_mask m 16 ml (by decide)
        rw [hx]
        refine this.trans ?_
        rw [← hm]
        simp [wk5, wk, dd, dV]
        try omega
      have xr : 0 ≤ x ∧ x < 4294967296 := by rw [hx]; simp [dd, dV]; try omega
      have x0 := xr.1
      have x1 := xr.2
      have hw : wk5 true n 3 = m / 65536 := by rw [← hm]; simp [wk5, wk]; try omega
      have HW : Hid (wk5 true n 3 = m / 65536) := hw
      have HX : Hid (x = dd true n 2) := hx
      rw [hm]
      have S := R.step 2 rfl (by omega) z1 x hx
      have q1 : wr.cell? ⟨w.heap.size + 1, 2, none⟩ = some (.int .i64 0) := R.num 2 (by decide)
      have q2 : wr.cell? ⟨w1.heap.size, 2, none⟩ = some (.int .u64 16) := R.tab 2 (by decide)
      have q3 := R.fnum 2
      have q4 := R.size
      clear hx hm hw xr R
      go_wp2
      go_roundw
      case rel => exact ⟨3, by omega, by go_num, by rw [HW.out]; simp, S⟩
      case measure => simp [intOf]
    · obtain ⟨m, hm⟩ : ∃ m, wk5 true n 3 = m := ⟨_, rfl⟩
      obtain ⟨x, hx⟩ : ∃ x, x = dd true n 1 := ⟨_, rfl⟩
      have ml : m < 4294967296 := by rw [← hm]; simp [wk5, wk]; omega
      have ea : bits .and .u32 (m : Int) 4095 = x := by
        have := u32_mask m 12 ml (by decide)
        rw [hx]
        refine this.trans ?_
        rw [← hm]
        simp [wk5, wk, dd, dP]
        try omega
      have xr : 0 ≤ x ∧ x < 4294967296 := by rw [hx]; simp [dd, dP]; try omega
      have x0 := xr.1
      have x1 := xr.2
      have hw : wk5 true n 4 = m / 4096 := by rw [← hm]; simp [wk5, wk]; try omega
      have HW : Hid (wk5 true n 4 = m / 4096) := hw
      have HX : Hid (x = dd true n 1) := hx
      rw [hm]
      have S := R.step 1 rfl (by omega) z1 x hx
      have q1 : wr.cell? ⟨w.heap.size + 1, 1, none⟩ = some (.int .i64 0) := R.num 1 (by decide)
      have q2 : wr.cell? ⟨w1.heap.size, 1, none⟩ = some (.int .u64 12) := R.tab 1 (by decide)
      have q3 := R.fnum 1
      have q4 := R.size
      clear hx hm hw xr R
      go_wp2
      go_roundw
      case rel => exact ⟨4, by omega, by go_num, by rw [HW.out]; simp, S⟩
      case measure => simp [intOf]
    · obtain ⟨m, hm⟩ : ∃ m, wk5 true n 4 = m := ⟨_, rfl⟩
      obtain ⟨x, hx⟩ : ∃ x, x = dd true n 0 := ⟨_, rfl⟩
      have ml : m < 4294967296 := by rw [← hm]; simp [wk5, wk]; omega
      have ea : bits .and .u32 (m : Int) 0 = x := by
        have := u32_mask m 0 ml (by decide)
        rw [hx]
        refine this.trans ?_
        rw [← hm]
        simp [wk5, wk, dd, dG]
        try omega
      have xr : 0 ≤ x ∧ x < 4294967296 := by rw [hx]; simp [dd, dG]; try omega
      have x0 := xr.1
      have x1 := xr.2
      have hw : wk5 true n 5 = m / 1 := by rw [← hm]; simp [wk5, wk]; try omega
      have HW : Hid (wk5 true n 5 = m / 1) := hw
      have HX : Hid (x = dd true n 0) := hx
      rw [hm]
      have S := R.step 0 rfl (by omega) z1 x hx
      have q1 : wr.cell? ⟨w.heap.size + 1, 0, none⟩ = some (.int .i64 0) := R.num 0 (by decide)
      have q2 : wr.cell? ⟨w1.heap.size, 0, none⟩ = some (.int .u64 0) := R.tab 0 (by decide)
      have q3 := R.fnum 0
      have q4 := R.size
      clear hx hm hw xr R
      go_wp2
      go_roundw
      case rel => exact ⟨5, by omega, by go_num, by rw [HW.out]; simp, S⟩
      case measure => simp [intOf]
    · have q0 : wr.cell? ⟨w.heap.size + 1, 0, none⟩ = some (.int .i64 (dG true n)) := R.num 0 (by decide)
      have q1 : wr.cell? ⟨w.heap.size + 1, 1, none⟩ = some (.int .i64 (dP true n)) := R.num 1 (by decide)
      have q2 : wr.cell? ⟨w.heap.size + 1, 2, none⟩ = some (.int .i64 (dV n)) := R.num 2 (by decide)
      have q3 : wr.cell? ⟨w.heap.size + 1, 3, none⟩ = some (.int .i64 (dT n)) := R.num 3 (by decide)
      have q4 : wr.cell? ⟨w.heap.size + 1, 4, none⟩ = some (.int .i64 (dC n)) := R.num 4 (by decide)
      have r0 := R.res 0 (by decide)
      have r1 := R.res 1 (by decide)
      have r2 := R.res 2 (by decide)
      have r3 := R.res 3 (by decide)
      have r4 := R.res 4 (by decide)
      have f0 := R.fres
      have q5 := R.size
      have bel := R.bel
      clear R
      go_wp2
      refine bodyPost_ret (v := .agg #[.int .i64 (dG true n), .int .i64 (dP true n), .int .i64 (dV n), .int .i64 (dT n), .int .i64 (dC n)]) (by simp [results, Tryd.results51, go_sem, *]) rfl ⟨rfl, ?_⟩
      go_grown
end Go.Proofs.YtpifmljbaogcbaaDoor.H
