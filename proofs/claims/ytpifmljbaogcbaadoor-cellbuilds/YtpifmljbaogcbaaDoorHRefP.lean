/- Proved here: the document's Pack. Conditions: as each theorem states them. -/
import Derived.Test.YtpifmljbaogcbaaDoorHRefR
namespace Go.Proofs.YtpifmljbaogcbaaDoor.H
open Go.RowKit

set_option maxHeartbeats 400000 in
theorem refpack_no (nni : Bool) (g p v t c : Int) (w : World) (h : rightB nni g p v t c = false) :
    Calls Tryd.prog 32 #[.agg #[.int .i64 g, .int .i64 p, .int .i64 v, .int .i64 t, .int .i64 c], .bool nni] w fun e w' => e = .returned (.slice none 0 0) ∧ Below w.heap.size w w' := by
  have HH : Hid (rightB nni g p v t c = false) := h
  clear h
  go_enter Tryd.func32, Tryd.ntmps32
  go_wp2_with fail
  refine (refright_calls nni g p v t c _).mono ?_
  rintro e w1 ⟨rfl, b1⟩
  rw [HH.out]
  go_wp2
  go_ret
  exact ⟨rfl, ((Below.refl _ w).alloc (Nat.le_refl _) _).trans (b1.mono (by simp))⟩

/-- What has been laid behind k rounds. -/
def pw_user (g p v t c : Int) (k : Nat) : Int := match k with
  | 0 => 0
  | 1 => g
  | 2 => g * 256 + p
  | 3 => (g * 256 + p) * 65536 + v
  | 4 => ((g * 256 + p) * 65536 + v) * 8 + t
  | _ => (((g * 256 + p) * 65536 + v) * 8 + t) * 2 + c

set_option maxHeartbeats 2000000 in
theorem refpack_user (g p v t c : Int) (n : Nat) (w : World) (h : rightB false g p v t c = true) (hn : word g p v t c = (n : Int)) :
    Calls Tryd.prog 32 #[.agg #[.int .i64 g, .int .i64 p, .int .i64 v, .int .i64 t, .int .i64 c], .bool false] w fun e w' => ∃ a, e = .returned (.slice a 4 4) ∧ IsB w'.heap.size w' a 4 (bytesN n) ∧ Below w.heap.size w w' := by
  have HH : Hid (rightB false g p v t c = true) := h
  have hr := right_user.1 h
  have HN : Hid (pw_user g p v t c 5 = (n : Int)) := by show pw_user g p v t c 5 = (n : Int); rw [← hn]; simp [pw_user, word]; omega
  have hlt : n < 4294967296 := by have := word_lt h; omega
  have HR : Hid ((0 ≤ g ∧ g < 16) ∧ (0 ≤ p ∧ p < 256) ∧ (0 ≤ v ∧ v < 65536) ∧ (0 ≤ t ∧ t < 8) ∧ (0 ≤ c ∧ c < 2)) := hr
  clear h hn hr
  go_enter Tryd.func32, Tryd.ntmps32
  go_wp2_with fail
  refine (refright_calls false g p v t c _).mono ?_
  rintro e w0 ⟨rfl, b0⟩
  rw [HH.out]
  have z0 : w.heap.size < w0.heap.size := by have := b0.size; simp at this; omega
  have B0 : Below w.heap.size w w0 := ((Below.refl _ w).alloc (Nat.le_refl _) _).trans (b0.mono (by simp))
  have cs : ∀ k x, (#[.int .i64 g, .int .i64 p, .int .i64 v, .int .i64 t, .int .i64 c] : Array Value)[k]? = some x → w0.cell? ⟨w.heap.size, k, none⟩ = some x := by
    intro k x hx
    rw [b0.cell (p := ⟨w.heap.size, k, none⟩) (by simp)]
    exact cell_new_any w _ 23 (0, 0) k x hx
  have k0 := cs 0 _ rfl
  have k1 := cs 1 _ rfl
  have k2 := cs 2 _ rfl
  have k3 := cs 3 _ rfl
  have k4 := cs 4 _ rfl
  clear cs b0
  go_wp2_with fail
  refine (fields_calls false g p v t c _).mono ?_
  rintro e w1 ⟨rfl, F1, b1⟩
  have B1 : Below w.heap.size w w1 := B0.trans (b1.mono (by omega))
  have z1 := F1.size
  clear b1 k0 k1 k2 k3 k4
  go_wp2
  go_loopw [7, 21] (fun m i wr => ∃ k : Nat, k ≤ 5 ∧ i = .int .i64 k ∧ m = .int .i64 (pw_user g p v t c k) ∧ Below (w0.heap.size + 3) w1 wr) (fun _ i _ => 5 - (intOf i).toNat)
  case atStart => exact ⟨0, by omega, rfl, rfl, Below.refl _ _⟩
  case round =>
    obtain ⟨k, hk, rfl, rfl, bel⟩ := hrel
    have F := F1.below bel (by omega)
    have BB : Below w.heap.size w wr := B1.trans (bel.mono (by omega))
    have hk6 : k = 0 ∨ k = 1 ∨ k = 2 ∨ k = 3 ∨ k = 4 ∨ k = 5 := by omega
    rcases hk6 with rfl | rfl | rfl | rfl | rfl | rfl
    · have q1 : wr.cell? ⟨w0.heap.size + 1, 0, none⟩ = some (.int .i64 g) := F.num 0 (by decide)
      have q2 : wr.cell? ⟨w0.heap.size + 2, 0, none⟩ = some (.int .i64 4) := F.tab 0 (by decide)
      have q3 := F.size
      obtain ⟨m, hm⟩ : ∃ m, pw_user g p v t c 0 = m := ⟨_, rfl⟩
      have mr : 0 ≤ m ∧ m < 4294967296 ∧ 0 ≤ m * 16 + g ∧ m * 16 + g < 4294967296 ∧ 0 ≤ g ∧ g < 65536 := by have := HR.out; rw [← hm]; simp [pw_user]; omega
      obtain ⟨r1, r2, r3, r4, r5, r6⟩ := mr
      have HM : Hid (pw_user g p v t c 1 = m * 16 + g) := by show pw_user g p v t c 1 = m * 16 + g; rw [← hm]; simp [pw_user]
      rw [hm]
      clear F F1 hm
      go_wp2
      go_quiet (fail)
      go_wp2
      go_roundw
      case rel => exact ⟨1, by omega, by go_num, by rw [HM.out], below_drewN bel _⟩
      case measure => simp [intOf]
    · have q1 : wr.cell? ⟨w0.heap.size + 1, 1, none⟩ = some (.int .i64 p) := F.num 1 (by decide)
      have q2 : wr.cell? ⟨w0.heap.size + 2, 1, none⟩ = some (.int .i64 8) := F.tab 1 (by decide)
      have q3 := F.size
      obtain ⟨m, hm⟩ : ∃ m, pw_user g p v t c 1 = m := ⟨_, rfl⟩
      have mr : 0 ≤ m ∧ m < 4294967296 ∧ 0 ≤ m * 256 + p ∧ m * 256 + p < 4294967296 ∧ 0 ≤ p ∧ p < 65536 := by have := HR.out; rw [← hm]; simp [pw_user]; omega
      obtain ⟨r1, r2, r3, r4, r5, r6⟩ := mr
      have HM : Hid (pw_user g p v t c 2 = m * 256 + p) := by show pw_user g p v t c 2 = m * 256 + p; rw [← hm]; simp [pw_user]
      rw [hm]
      clear F F1 hm
      go_wp2
      go_quiet (fail)
      go_wp2
      go_roundw
      case rel => exact ⟨2, by omega, by go_num, by rw [HM.out], below_drewN bel _⟩
      case measure => simp [intOf]
    · have q1 : wr.cell? ⟨w0.heap.size + 1, 2, none⟩ = some (.int .i64 v) := F.num 2 (by decide)
      have q2 : wr.cell? ⟨w0.heap.size + 2, 2, none⟩ = some (.int .i64 16) := F.tab 2 (by decide)
      have q3 := F.size
      obtain ⟨m, hm⟩ : ∃ m, pw_user g p v t c 2 = m := ⟨_, rfl⟩
      have mr : 0 ≤ m ∧ m < 4294967296 ∧ 0 ≤ m * 65536 + v ∧ m * 65536 + v < 4294967296 ∧ 0 ≤ v ∧ v < 65536 := by have := HR.out; rw [← hm]; simp [pw_user]; omega
      obtain ⟨r1, r2, r3, r4, r5, r6⟩ := mr
      have HM : Hid (pw_user g p v t c 3 = m * 65536 + v) := by show pw_user g p v t c 3 = m * 65536 + v; rw [← hm]; simp [pw_user]
      rw [hm]
      clear F F1 hm
      go_wp2
      go_quiet (fail)
      go_wp2
      go_roundw
      case rel => exact ⟨3, by omega, by go_num, by rw [HM.out], below_drewN bel _⟩
      case measure => simp [intOf]
    · have q1 : wr.cell? ⟨w0.heap.size + 1, 3, none⟩ = some (.int .i64 t) := F.num 3 (by decide)
      have q2 : wr.cell? ⟨w0.heap.size + 2, 3, none⟩ = some (.int .i64 3) := F.tab 3 (by decide)
      have q3 := F.size
      obtain ⟨m, hm⟩ : ∃ m, pw_user g p v t c 3 = m := ⟨_, rfl⟩
      have mr : 0 ≤ m ∧ m < 4294967296 ∧ 0 ≤ m * 8 + t ∧ m * 8 + t < 4294967296 ∧ 0 ≤ t ∧ t < 65536 := by have := HR.out; rw [← hm]; simp [pw_user]; omega
      obtain ⟨r1, r2, r3, r4, r5, r6⟩ := mr
      have HM : Hid (pw_user g p v t c 4 = m * 8 + t) := by show pw_user g p v t c 4 = m * 8 + t; rw [← hm]; simp [pw_user]
      rw [hm]
      clear F F1 hm
      go_wp2
      go_quiet (fail)
      go_wp2
      go_roundw
      case rel => exact ⟨4, by omega, by go_num, by rw [HM.out], below_drewN bel _⟩
      case measure => simp [intOf]
    · have q1 : wr.cell? ⟨w0.heap.size + 1, 4, none⟩ = some (.int .i64 c) := F.num 4 (by decide)
      have q2 : wr.cell? ⟨w0.heap.size + 2, 4, none⟩ = some (.int .i64 1) := F.tab 4 (by decide)
      have q3 := F.size
      obtain ⟨m, hm⟩ : ∃ m, pw_user g p v t c 4 = m := ⟨_, rfl⟩
      have mr : 0 ≤ m ∧ m < 4294967296 ∧ 0 ≤ m * 2 + c ∧ m * 2 + c < 4294967296 ∧ 0 ≤ c ∧ c < 65536 := by have := HR.out; rw [← hm]; simp [pw_user]; omega
      obtain ⟨r1, r2, r3, r4, r5, r6⟩ := mr
      have HM : Hid (pw_user g p v t c 5 = m * 2 + c) := by show pw_user g p v t c 5 = m * 2 + c; rw [← hm]; simp [pw_user]
      rw [hm]
      clear F F1 hm
      go_wp2
      go_quiet (fail)
      go_wp2
      go_roundw
      case rel => exact ⟨5, by omega, by go_num, by rw [HM.out], below_drewN bel _⟩
      case measure => simp [intOf]
    · rw [HN.out]
      clear F F1
      go_wp2
      go_ret
      refine ⟨_, rfl, ?_, BB.alloc BB.size _⟩
      rw [World.size_alloc]
      exact isB_bytes wr n hlt 5 (0, 0)

/-- What has been laid behind k rounds. -/
def pw_nni (g p v t c : Int) (k : Nat) : Int := match k with
  | 0 => 0
  | 1 => g
  | 2 => g * 4096 + p
  | 3 => (g * 4096 + p) * 65536 + v
  | 4 => ((g * 4096 + p) * 65536 + v) * 8 + t
  | _ => (((g * 4096 + p) * 65536 + v) * 8 + t) * 2 + c

set_option maxHeartbeats 2000000 in
theorem refpack_nni (g p v t c : Int) (n : Nat) (w : World) (h : rightB true g p v t c = true) (hn : word g p v t c = (n : Int)) :
    Calls Tryd.prog 32 #[.agg #[.int .i64 g, .int .i64 p, .int .i64 v, .int .i64 t, .int .i64 c], .bool true] w fun e w' => ∃ a, e = .returned (.slice a 4 4) ∧ IsB w'.heap.size w' a 4 (bytesN n) ∧ Below w.heap.size w w' := by
  have HH : Hid (rightB true g p v t c = true) := h
  have hr := right_nni.1 h
  have HN : Hid (pw_nni g p v t c 5 = (n : Int)) := by show pw_nni g p v t c 5 = (n : Int); rw [← hn]; simp [pw_nni, word]; omega
  have hlt : n < 4294967296 := by have := word_lt h; omega
  have HR : Hid (g = 0 ∧ (0 ≤ p ∧ p < 4096) ∧ (0 ≤ v ∧ v < 65536) ∧ (0 ≤ t ∧ t < 8) ∧ (0 ≤ c ∧ c < 2)) := hr
  clear h hn hr
  go_enter Tryd.func32, Tryd.ntmps32
  go_wp2_with fail
  refine (refright_calls true g p v t c _).mono ?_
  rintro e w0 ⟨rfl, b0⟩
  rw [HH.out]
  have z0 : w.heap.size < w0.heap.size := by have := b0.size; simp at this; omega
  have B0 : Below w.heap.size w w0 := ((Below.refl _ w).alloc (Nat.le_refl _) _).trans (b0.mono (by simp))
  have cs : ∀ k x, (#[.int .i64 g, .int .i64 p, .int .i64 v, .int .i64 t, .int .i64 c] : Array Value)[k]? = some x → w0.cell? ⟨w.heap.size, k, none⟩ = some x := by
    intro k x hx
    rw [b0.cell (p := ⟨w.heap.size, k, none⟩) (by simp)]
    exact cell_new_any w _ 23 (0, 0) k x hx
  have k0 := cs 0 _ rfl
  have k1 := cs 1 _ rfl
  have k2 := cs 2 _ rfl
  have k3 := cs 3 _ rfl
  have k4 := cs 4 _ rfl
  clear cs b0
  go_wp2_with fail
  refine (fields_calls true g p v t c _).mono ?_
  rintro e w1 ⟨rfl, F1, b1⟩
  have B1 : Below w.heap.size w w1 := B0.trans (b1.mono (by omega))
  have z1 := F1.size
  clear b1 k0 k1 k2 k3 k4
  go_wp2
  go_loopw [7, 21] (fun m i wr => ∃ k : Nat, k ≤ 5 ∧ i = .int .i64 k ∧ m = .int .i64 (pw_nni g p v t c k) ∧ Below (w0.heap.size + 3) w1 wr) (fun _ i _ => 5 - (intOf i).toNat)
  case atStart => exact ⟨0, by omega, rfl, rfl, Below.refl _ _⟩
  case round =>
    obtain ⟨k, hk, rfl, rfl, bel⟩ := hrel
    have F := F1.below bel (by omega)
    have BB : Below w.heap.size w wr := B1.trans (bel.mono (by omega))
    have hk6 : k = 0 ∨ k = 1 ∨ k = 2 ∨ k = 3 ∨ k = 4 ∨ k = 5 := by omega
    rcases hk6 with rfl | rfl | rfl | rfl | rfl | rfl
    · have q1 : wr.cell? ⟨w0.heap.size + 1, 0, none⟩ = some (.int .i64 g) := F.num 0 (by decide)
      have q2 : wr.cell? ⟨w0.heap.size + 2, 0, none⟩ = some (.int .i64 0) := F.tab 0 (by decide)
      have q3 := F.size
      obtain ⟨m, hm⟩ : ∃ m, pw_nni g p v t c 0 = m := ⟨_, rfl⟩
      have mr : 0 ≤ m ∧ m < 4294967296 ∧ 0 ≤ m * 1 + g ∧ m * 1 + g < 4294967296 ∧ 0 ≤ g ∧ g < 65536 := by have := HR.out; rw [← hm]; simp [pw_nni]; omega
      obtain ⟨r1, r2, r3, r4, r5, r6⟩ := mr
      have HM : Hid (pw_nni g p v t c 1 = m * 1 + g) := by show pw_nni g p v t c 1 = m * 1 + g; rw [← hm]; simp [pw_nni]
      rw [hm]
      clear F F1 hm
      go_wp2
      go_quiet (fail)
      go_wp2
      go_roundw
      case rel => exact ⟨1, by omega, by go_num, by rw [HM.out]; simp, below_drewN bel _⟩
      case measure => simp [intOf]
    · have q1 : wr.cell? ⟨w0.heap.size + 1, 1, none⟩ = some (.int .i64 p) := F.num 1 (by decide)
      have q2 : wr.cell? ⟨w0.heap.size + 2, 1, none⟩ = some (.int .i64 12) := F.tab 1 (by decide)
      have q3 := F.size
      obtain ⟨m, hm⟩ : ∃ m, pw_nni g p v t c 1 = m := ⟨_, rfl⟩
      have mr : 0 ≤ m ∧ m < 4294967296 ∧ 0 ≤ m * 4096 + p ∧ m * 4096 + p < 4294967296 ∧ 0 ≤ p ∧ p < 65536 := by have := HR.out; rw [← hm]; simp [pw_nni]; omega
      obtain ⟨r1, r2, r3, r4, r5, r6⟩ := mr
      have HM : Hid (pw_nni g p v t c 2 = m * 4096 + p) := by show pw_nni g p v t c 2 = m * 4096 + p; rw [← hm]; simp [pw_nni]
      rw [hm]
      clear F F1 hm
      go_wp2
      go_quiet (fail)
      go_wp2
      go_roundw
      case rel => exact ⟨2, by omega, by go_num, by rw [HM.out], below_drewN bel _⟩
      case measure => simp [intOf]
    · have q1 : wr.cell? ⟨w0.heap.size + 1, 2, none⟩ = some (.int .i64 v) := F.num 2 (by decide)
      have q2 : wr.cell? ⟨w0.heap.size + 2, 2, none⟩ = some (.int .i64 16) := F.tab 2 (by decide)
      have q3 := F.size
      obtain ⟨m, hm⟩ : ∃ m, pw_nni g p v t c 2 = m := ⟨_, rfl⟩
      have mr : 0 ≤ m ∧ m < 4294967296 ∧ 0 ≤ m * 65536 + v ∧ m * 65536 + v < 4294967296 ∧ 0 ≤ v ∧ v < 65536 := by have := HR.out; rw [← hm]; simp [pw_nni]; omega
      obtain ⟨r1, r2, r3, r4, r5, r6⟩ := mr
      have HM : Hid (pw_nni g p v t c 3 = m * 65536 + v) := by show pw_nni g p v t c 3 = m * 65536 + v; rw [← hm]; simp [pw_nni]
      rw [hm]
      clear F F1 hm
      go_wp2
      go_quiet (fail)
      go_wp2
      go_roundw
      case rel => exact ⟨3, by omega, by go_num, by rw [HM.out], below_drewN bel _⟩
      case measure => simp [intOf]
    · have q1 : wr.cell? ⟨w0.heap.size + 1, 3, none⟩ = some (.int .i64 t) := F.num 3 (by decide)
      have q2 : wr.cell? ⟨w0.heap.size + 2, 3, none⟩ = some (.int .i64 3) := F.tab 3 (by decide)
      have q3 := F.size
      obtain ⟨m, hm⟩ : ∃ m, pw_nni g p v t c 3 = m := ⟨_, rfl⟩
      have mr : 0 ≤ m ∧ m < 4294967296 ∧ 0 ≤ m * 8 + t ∧ m * 8 + t < 4294967296 ∧ 0 ≤ t ∧ t < 65536 := by have := HR.out; rw [← hm]; simp [pw_nni]; omega
      obtain ⟨r1, r2, r3, r4, r5, r6⟩ := mr
      have HM : Hid (pw_nni g p v t c 4 = m * 8 + t) := by show pw_nni g p v t c 4 = m * 8 + t; rw [← hm]; simp [pw_nni]
      rw [hm]
      clear F F1 hm
      go_wp2
      go_quiet (fail)
      go_wp2
      go_roundw
      case rel => exact ⟨4, by omega, by go_num, by rw [HM.out], below_drewN bel _⟩
      case measure => simp [intOf]
    · have q1 : wr.cell? ⟨w0.heap.size + 1, 4, none⟩ = some (.int .i64 c) := F.num 4 (by decide)
      have q2 : wr.cell? ⟨w0.heap.size + 2, 4, none⟩ = some (.int .i64 1) := F.tab 4 (by decide)
      have q3 := F.size
      obtain ⟨m, hm⟩ : ∃ m, pw_nni g p v t c 4 = m := ⟨_, rfl⟩
      have mr : 0 ≤ m ∧ m < 4294967296 ∧ 0 ≤ m * 2 + c ∧ m * 2 + c < 4294967296 ∧ 0 ≤ c ∧ c < 65536 := by have := HR.out; rw [← hm]; simp [pw_nni]; omega
      obtain ⟨r1, r2, r3, r4, r5, r6⟩ := mr
      have HM : Hid (pw_nni g p v t c 5 = m * 2 + c) := by show pw_nni g p v t c 5 = m * 2 + c; rw [← hm]; simp [pw_nni]
      rw [hm]
      clear F F1 hm
      go_wp2
      go_quiet (fail)
      go_wp2
      go_roundw
      case rel => exact ⟨5, by omega, by go_num, by rw [HM.out], below_drewN bel _⟩
      case measure => simp [intOf]
    · rw [HN.out]
      clear F F1
      go_wp2
      go_ret
      refine ⟨_, rfl, ?_, BB.alloc BB.size _⟩
      rw [World.size_alloc]
      exact isB_bytes wr n hlt 5 (0, 0)

theorem refpack_yes (nni : Bool) (g p v t c : Int) (n : Nat) (w : World) (h : rightB nni g p v t c = true) (hn : word g p v t c = (n : Int)) :
    Calls Tryd.prog 32 #[.agg #[.int .i64 g, .int .i64 p, .int .i64 v, .int .i64 t, .int .i64 c], .bool nni] w fun e w' => ∃ a, e = .returned (.slice a 4 4) ∧ IsB w'.heap.size w' a 4 (bytesN n) ∧ Below w.heap.size w w' := by
  cases nni
  · exact refpack_user g p v t c n w h hn
  · exact refpack_nni g p v t c n w h hn
end Go.Proofs.YtpifmljbaogcbaaDoor.H
