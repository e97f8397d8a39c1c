/- Proved here: the walk of ConnsFull. Conditions: as each theorem states them. -/
import Derived.Test.YtgimmaancnlbcaaAl
namespace Go.Proofs.Ytgimmaancnlbcaa
set_option linter.unusedSimpArgs false
set_option linter.unusedVariables false
open Go.RowKit Go.Shelf

theorem look_absent {L : List En} {k : Ky} (h : ∀ y ∈ L, y.1 ≠ k) : look L k = none := by
  induction L with
  | nil => rfl
  | cons x L ih => rw [look, if_neg (h x (List.mem_cons_self ..))]; exact ih fun y hy => h y (List.mem_cons_of_mem _ hy)
theorem fnd_absent {L : List En} (hs : Srt L) {k : Ky} (h : ∀ y ∈ L, y.1 ≠ k) : (fnd L k).2 = false := by
  rw [(fnd_look hs k).1, look_absent h]; rfl

/-- The keys that the law puts. -/
def fullE (p : Int) (j : Nat) : En := ((p, 0, 97 * (j : Int)), (j : Int))
def fullL (p : Int) (i : Nat) : List En := (List.range i).map (fullE p)
theorem fullL_len (p : Int) (i : Nat) : (fullL p i).length = i := by simp [fullL]
theorem fullL_succ (p : Int) (i : Nat) : fullL p (i + 1) = fullL p i ++ [fullE p i] := by simp [fullL, List.range_succ]
theorem fullL_mem {p : Int} {i : Nat} {y : En} (h : y ∈ fullL p i) : ∃ j, j < i ∧ y = fullE p j := by
  simp only [fullL, List.mem_map, List.mem_range] at h
  obtain ⟨j, hj, rfl⟩ := h
  exact ⟨j, hj, rfl⟩
theorem fullL_srt (p : Int) (i : Nat) : Srt (fullL p i) := by
  induction i with
  | zero => exact List.Pairwise.nil
  | succ i ih =>
    rw [fullL_succ]
    refine List.pairwise_append.2 ⟨ih, List.pairwise_singleton _ _, fun x hx y hy => ?_⟩
    obtain ⟨j, hj, rfl⟩ := fullL_mem hx
    simp at hy
    subst hy
    exact Or.inr ⟨rfl, Or.inr ⟨rfl, by show 97 * (j : Int) < 97 * (i : Int); omega⟩⟩
theorem full_put {p : Int} (h0 : 0 ≤ p) (h1 : p < 8) {i room : Nat} (hi : i < room) (hr : room ≤ 64) : putE (fullL p i) room (p, 0, 97 * (i : Int)) = 0 ∧ putL (fullL p i) room ((p, 0, 97 * (i : Int)), (i : Int)) = fullL p (i + 1) := by
  have hk : rightK (p, 0, 97 * (i : Int)) = true := (rightK_iff _).2 (by simp only; omega)
  obtain ⟨i1, i2⟩ := ins_end (L := fullL p i) (e := fullE p i) (fun y hy => by
    obtain ⟨j, hj, rfl⟩ := fullL_mem hy
    exact Or.inr ⟨rfl, Or.inr ⟨rfl, by show 97 * (j : Int) < 97 * (i : Int); omega⟩⟩)
  have hE : putE (fullL p i) room (p, 0, 97 * (i : Int)) = 0 := by
    unfold putE
    rw [if_neg (by rw [hk]; decide), if_neg (by rw [show ((p, 0, 97 * (i : Int)) : Ky) = (fullE p i).1 from rfl, i2]; decide), if_neg (by rw [fullL_len]; omega)]
  refine ⟨hE, ?_⟩
  unfold putL
  rw [if_pos hE, fullL_succ]
  exact i1
theorem full_end {p : Int} (h0 : 0 ≤ p) (h1 : p < 8) {room : Nat} : putE (fullL p room) room (p, 0, 1) = 9 := by
  have hk : rightK (p, 0, 1) = true := (rightK_iff _).2 (by simp only; omega)
  unfold putE
  rw [if_neg (by rw [hk]; decide), if_neg, if_pos (fullL_len _ _)]
  rw [fnd_absent (fullL_srt p room)]
  · decide
  · intro y hy
    obtain ⟨j, hj, rfl⟩ := fullL_mem hy
    unfold fullE
    simp only [ne_eq, Prod.mk.injEq]
    omega

set_option maxHeartbeats 4000000 in
set_option maxRecDepth 20000 in
theorem full_walk (a p : Int) (ha0 : 0 ≤ a) (ha1 : a < 256) (hp0 : 0 ≤ p) (hp1 : p < 256) (w : World) :
    Calls Try.prog 7 #[.int .u8 a, .int .u8 p] w fun e w' => e = .returned (.bool true) ∧ Below w.heap.size w w' := by
  obtain ⟨m, hm⟩ : ∃ m, (if 64 < a then (64 : Int) else a) = m := ⟨_, rfl⟩
  have hR : Hid (m = (roomN a : Int)) := by
    show _ = _
    subst hm
    unfold roomN
    split <;> omega
  have hR64 := roomN_le a
  obtain ⟨q, hq⟩ : ∃ q, p.tmod 8 = q := ⟨_, rfl⟩
  have hq0 : 0 ≤ q := by rw [← hq]; exact Int.tmod_nonneg _ hp0
  have hq8 : q < 8 := by rw [← hq]; exact Int.tmod_lt_of_pos _ (by decide)
  go_enter Try.func7, Try.ntmps7
  go_wp2_with fail
  refine (awake_calls _).mono ?_
  rintro e w1 ⟨rfl, b1⟩
  go_wp2_with fail
  refine (new_calls a _).mono ?_
  rintro e w2 ⟨rfl, T2, b2⟩
  have B2 := b1.trans (b2.mono b1.size)
  have hr1 := b1.size
  generalize w1.heap.size = r at *
  generalize roomN a = R at *
  clear b1 b2
  go_wp2
  rw [hR.out]
  clear hR hm
  go_loopw [24] (fun iv wr => ∃ (i : Nat), i ≤ R ∧ iv = .int .i64 i ∧ TB wr r (fullL q i) R ∧ Below w.heap.size w wr) (fun iv _ => R - (intOf iv).toNat)
  case atStart => exact ⟨0, Nat.zero_le _, rfl, T2, B2⟩
  case round =>
    obtain ⟨i, hi, rfl, T3, B3⟩ := hrel
    clear T2 B2
    by_cases hlt : i < R
    · obtain ⟨f1, f2⟩ := full_put hq0 hq8 hlt hR64
      have F1 : Hid (putE (fullL q i) R (q, 0, 97 * (i : Int)) = 0) := f1
      have F2 : Hid (putL (fullL q i) R ((q, 0, 97 * (i : Int)), (i : Int)) = fullL q (i + 1)) := f2
      have hw1 : IntKind.i64.wrap (97 * (i : Int)) = 97 * (i : Int) := by rw [IntKind.wrap_i64]; omega
      clear f1 f2
      go_wp2_with fail
      refine (put_calls T3 (q, 0, 97 * (i : Int)) i).mono ?_
      rintro e w4 ⟨rfl, T4, q4⟩
      rw [F1.out]
      rw [F2.out] at T4
      have B4 := But.own B3 hr1 q4 (Nat.le_refl _)
      clear T3 B3 q4
      go_wp2
      go_roundw
      case rel => exact ⟨i + 1, by omega, by go_num, T4, B4⟩
      case measure => simp [intOf]; omega
    · obtain rfl : i = R := by omega
      have F1 : Hid (putE (fullL q i) i (q, 0, 1) = 9) := full_end hq0 hq8
      have F3 : Hid ((fullL q i).length = i) := fullL_len _ _
      go_wp2_with fail
      refine (get_nil (0, 0, 0) _).mono ?_
      rintro e w4 ⟨rfl, b4⟩
      have T4 := T3.below b4 T3.lt
      have B4 := B3.trans (b4.mono B3.size)
      clear T3 B3 b4
      go_wp2_with fail
      refine (drop_nil (0, 0, 0) _).mono ?_
      rintro e w5 ⟨rfl, b5⟩
      have T5 := T4.below b5 T4.lt
      have B5 := B4.trans (b5.mono B4.size)
      clear T4 B4 b5
      go_wp2_with fail
      refine (free_nil 0 0 0 _).mono ?_
      rintro e w6 ⟨rfl, e6⟩
      rw [e6]
      clear e6
      go_wp2_with fail
      refine (put_calls T5 (q, 0, 1) 0).mono ?_
      rintro e w7 ⟨rfl, T7, q7⟩
      rw [F1.out]
      have HP : putL (fullL q i) i ((q, 0, 1), 0) = fullL q i := by unfold putL; rw [if_neg (by rw [show (((q, 0, 1), 0) : En).1 = (q, 0, 1) from rfl, F1.out]; decide)]
      rw [HP] at T7
      have B7 := But.own B5 hr1 q7 (Nat.le_refl _)
      clear T5 B5 q7 HP
      go_wp2_with fail
      refine (len_calls T7).mono ?_
      rintro e w8 ⟨rfl, e8⟩
      rw [e8, F3.out]
      clear e8
      have hii : ((i : Int) == (i : Int)) = true := by simp
      go_wp2_with fail
      refine (put_nil (0, 0, 0) 0 _).mono ?_
      rintro e w9 ⟨rfl, b9⟩
      have B9 := B7.trans (b9.mono B7.size)
      go_wp2_with fail
      refine (len_nil _).mono ?_
      rintro e w10 ⟨rfl, e10⟩
      rw [e10]
      clear e10
      go_wp2_with fail
      refine (lall_nil _).mono ?_
      rintro e w11 ⟨a11, c11, rfl, b11⟩
      have B11 := B9.trans (b11.mono B9.size)
      go_wp2
      go_ret
      exact ⟨rfl, B11⟩
end Go.Proofs.Ytgimmaancnlbcaa
