/- Proved here: the walk of ShaperFull. Conditions: as each theorem states them. -/
import Derived.Test.YtcenipihbmifpaaAwk
namespace Go.Proofs.Ytcenipihbmifpaa
set_option linter.unusedSimpArgs false
set_option linter.unusedVariables false
open Go.RowKit Go.Shelf

/-- Changes of one time. -/
def chg (at_ : Int) (zs : List Int) : List (Int × Int) := zs.map fun z => (1 + z, at_)
/-- The shaper with changes on their way, all of one time. -/
def full (lag at_ : Int) (zs : List Int) : Sh := { Sh.mk0 300 0 lag lag with L := chg at_ zs }
theorem chg_later {a t : Int} (h : t < a) (zs : List Int) (q : Int × Int) : (chg a zs).foldl (pickC t) q = q := by
  induction zs with
  | nil => rfl
  | cons z zs ih => show (chg a zs).foldl (pickC t) (pickC t q (1 + z, a)) = q; rw [show pickC t q (1 + z, a) = q from if_pos h]; exact ih
theorem lf_later {a t : Int} (h : t < a) (zs : List Int) : lfN (chg a zs) t = chg a zs := lfN_all (fun y hy => by obtain ⟨z, _, rfl⟩ := List.mem_map.1 hy; exact h)
theorem lf_gone {a t : Int} (h : a ≤ t) (zs : List Int) : lfN (chg a zs) t = [] := List.filter_eq_nil_iff.2 (fun y hy => by obtain ⟨z, _, rfl⟩ := List.mem_map.1 hy; simpa using h)
theorem chg_gone {a t : Int} (h : a ≤ t) (zs : List Int) (z : Int) (q : Int × Int) (hq : q.2 ≤ a) : (chg a (zs ++ [z])).foldl (pickC t) q = (1 + z, a) := by
  induction zs generalizing q with
  | nil => show pickC t q (1 + z, a) = _; unfold pickC; rw [if_neg (show ¬ t < a by omega), if_pos (show q.2 ≤ a from hq)]
  | cons y zs ih => show (chg a (zs ++ [z])).foldl (pickC t) (pickC t q (1 + y, a)) = _; rw [show pickC t q (1 + y, a) = (1 + y, a) by unfold pickC; rw [if_neg (show ¬ t < a by omega), if_pos (show q.2 ≤ a from hq)]]; exact ih _ (Int.le_refl _)
theorem full_come {lag a t : Int} (h : t < a) (zs : List Int) : (full lag a zs).come t = full lag a zs := by
  unfold Sh.come
  rw [show stN (full lag a zs).s (full lag a zs).L t = (full lag a zs).s from congrArg Prod.fst (chg_later h zs _), show lfN (full lag a zs).L t = (full lag a zs).L from lf_later h zs]
theorem full_new {lag a t st : Int} (zs : List Int) (l0 : 0 ≤ lag) (l1 : lag ≤ 1152921504606846976) : (full lag a zs).new t st = (st, t + lag) := by
  have e1 : hM lag = lag := hM_id l0 l1
  show (st, t + if st < _ then min (hM lag) (hM lag) else hM lag) = _
  rw [e1, Int.min_self, ite_self]
theorem full_set {lag t z : Int} (zs : List Int) (hl : zs.length ≠ 8) (l0 : 1 ≤ lag) (l1 : lag ≤ 1152921504606846976) : (full lag (t + lag) zs).setE t = 0 ∧ (full lag (t + lag) zs).set t (1 + z) = full lag (t + lag) (zs ++ [z]) := by
  have ⟨r1, r2⟩ := set_room (S := full lag (t + lag) zs) (t := t) (st := 1 + z) (by rw [full_come (by omega)]; show (chg _ zs).length ≠ 8; unfold chg; rw [List.length_map]; exact hl)
  refine ⟨r2, ?_⟩
  rw [r1, full_come (by omega), full_new zs (by omega) l1]
  unfold full chg
  simp
theorem full_full {lag t z : Int} (zs : List Int) (hl : zs.length = 8) (l0 : 1 ≤ lag) : (full lag (t + lag) zs).setE t = 9 ∧ (full lag (t + lag) zs).set t (1 + z) = full lag (t + lag) zs := by
  have ⟨r1, r2⟩ := set_full (S := full lag (t + lag) zs) (t := t) (st := 1 + z) (by rw [full_come (by omega)]; show (chg _ zs).length = 8; unfold chg; rw [List.length_map]; exact hl)
  exact ⟨r2, by rw [r1, full_come (by omega)]⟩
theorem full_len (lag a : Int) (zs : List Int) : (full lag a zs).L.length = zs.length := by show (chg a zs).length = _; unfold chg; rw [List.length_map]
theorem full_step {lag a : Int} (zs : List Int) (z : Int) (a0 : 0 ≤ a) : stN (full lag a (zs ++ [z])).s (full lag a (zs ++ [z])).L a = 1 + z := congrArg Prod.fst (chg_gone (Int.le_refl _) zs z _ (by show -1 ≤ a; omega))
theorem full_again {lag a st : Int} (zs : List Int) : (full lag a zs).setE a = 0 ∧ ((full lag a zs).set a st).L.length = 1 := by
  have hl : ((full lag a zs).come a).L = [] := lf_gone (Int.le_refl _) zs
  have ⟨r1, r2⟩ := set_room (S := full lag a zs) (t := a) (st := st) (by rw [hl]; decide)
  exact ⟨r2, by rw [r1, hl]; rfl⟩

set_option maxHeartbeats 2000000 in
theorem full_walk (sl t : Int) (zs : List Int) (s0 : 0 ≤ sl) (s1 : sl ≤ 65535) (t0 : 0 ≤ t) (t1 : t ≤ 65535) (hz : zs.length = 9) (hb : ∀ z ∈ zs, 0 ≤ z ∧ z ≤ 255) (w : World) :
    Calls Try.prog 7 #[.int .u16 sl, .agg (zs.map fun z => Value.int .u8 z).toArray, .int .u16 t] w fun e w' => e = .returned (.bool true) ∧ Below w.heap.size w w' := by
  obtain ⟨A, hA⟩ : ∃ A, (zs.map fun z => Value.int .u8 z).toArray = A := ⟨_, rfl⟩
  have HA : Hid (∀ (j : Nat) (z : Int), zs[j]? = some z → A[j]? = some (.int .u8 z)) := fun j z h => by rw [← hA]; simp [h]
  rw [hA]
  clear hA
  go_enter Try.func7, Try.ntmps7
  go_wp2_with fail
  refine (awake_calls _).mono ?_
  rintro e w1 ⟨rfl, b1⟩
  have K1 : BK w1 w.heap.size A 53 := (bk_new w A 53).below b1 (by simp)
  have B1 : Below w.heap.size w w1 := ((Below.refl _ w).alloc (Nat.le_refl _) _).trans (b1.mono (by simp))
  obtain ⟨lag, hlag⟩ : ∃ lag, 1 + sl = lag := ⟨_, rfl⟩
  have l0 : 1 ≤ lag := by omega
  have l1 : lag ≤ 65536 := by omega
  have kl := K1.lt
  have htm : hM t = t := hM_id t0 (by omega)
  have HZ : Hid (zs.length = 9) := hz
  have HB : Hid (∀ z ∈ zs, 0 ≤ z ∧ z ≤ 255) := hb
  clear b1 hz hb
  go_wp2_with fail
  refine (snew_calls 300 0 lag lag _).mono ?_
  rintro e w2 ⟨rfl, h2, b2⟩
  clear hlag
  have h2' : SV w2 (fun k => k = w1.heap.size) w1.heap.size (full lag (t + lag) (zs.take 0)) := h2
  clear h2
  go_wp2
  go_loopw [21] (fun iv wr => ∃ (i : Nat) (F : Nat → Prop), i ≤ 8 ∧ iv = .int .i64 i ∧ SV wr F w1.heap.size (full lag (t + lag) (zs.take i)) ∧ (∀ k, F k → w1.heap.size ≤ k) ∧ Below w1.heap.size w1 wr) (fun iv _ => 8 - (intOf iv).toNat)
  case atStart => exact ⟨0, _, Nat.zero_le _, rfl, h2', fun k e => by omega, b2⟩
  case round =>
    obtain ⟨i, F, hi, rfl, h3, n3, b3⟩ := hrel
    clear h2' b2
    by_cases hlt : i < 8
    · obtain ⟨z, hz⟩ : ∃ z, zs[i]? = some z := ⟨_, List.getElem?_eq_getElem (by have := HZ.out; omega)⟩
      have ⟨z0, z1⟩ := HB.out z (List.mem_of_getElem? hz)
      have c1 := (K1.below b3 kl).cell i _ (HA.out i z hz)
      have ⟨e1, e2⟩ := full_set (lag := lag) (t := t) (z := z) (zs.take i) (by rw [List.length_take, HZ.out]; omega) l0 (by omega)
      have H1 : Hid ((full lag (t + lag) (zs.take i)).setE (hM t) = 0) := by rw [htm]; exact e1
      have H2 : Hid ((full lag (t + lag) (zs.take i)).set (hM t) (hS (1 + z)) = full lag (t + lag) (zs.take (i + 1))) := by show _ = _; rw [htm, hS_id (by omega) (by omega), e2, List.take_add_one, hz]; rfl
      have H3 : Hid (((full lag (t + lag) (zs.take (i + 1))).L.length : Int) = (i : Int) + 1) := by show _ = _; rw [full_len, List.length_take, HZ.out]; omega
      clear hz e1 e2 hi
      go_wp2_with fail
      refine (sset_calls h3 t (1 + z)).mono ?_
      rintro e w4 ⟨rfl, F4, h4, g4⟩
      rw [H1.out]
      rw [H2.out] at h4
      have ⟨b4, n4⟩ := ft_new b3 n3 (Nat.le_refl _) g4
      clear h3 n3 b3 g4 c1
      go_wp2_with fail
      refine (swait_calls h4).mono ?_
      rintro e w5 ⟨rfl, rfl⟩
      rw [H3.out]
      go_wp2
      go_roundw
      case rel => exact ⟨i + 1, F4, by omega, by go_num, h4, n4, b4⟩
      case measure => simp [intOf]; omega
    · obtain rfl : i = 8 := by omega
      obtain ⟨z8, hz8⟩ : ∃ z, zs[8]? = some z := ⟨_, List.getElem?_eq_getElem (by have := HZ.out; omega)⟩
      obtain ⟨z7, hz7⟩ : ∃ z, zs[7]? = some z := ⟨_, List.getElem?_eq_getElem (by have := HZ.out; omega)⟩
      have ⟨z80, z81⟩ := HB.out z8 (List.mem_of_getElem? hz8)
      have ⟨z70, z71⟩ := HB.out z7 (List.mem_of_getElem? hz7)
      have c8 := (K1.below b3 kl).cell 8 _ (HA.out 8 z8 hz8)
      have A8 := HA.out 8 z8 hz8
      have A7 := HA.out 7 z7 hz7
      have ⟨e1, e2⟩ := full_full (lag := lag) (t := t) (z := z8) (zs.take 8) (by rw [List.length_take, HZ.out]; rfl) l0
      have H1 : Hid ((full lag (t + lag) (zs.take 8)).setE (hM t) = 9) := by rw [htm]; exact e1
      have H2 : Hid ((full lag (t + lag) (zs.take 8)).set (hM t) (hS (1 + z8)) = full lag (t + lag) (zs.take 8)) := by show _ = _; rw [htm, hS_id (by omega) (by omega), e2]
      have H3 : Hid (((full lag (t + lag) (zs.take 8)).L.length : Int) = 8) := by show _ = _; rw [full_len, List.length_take, HZ.out]; rfl
      have hat : hM (t + lag) = t + lag := hM_id (by omega) (by omega)
      have H4 : Hid (stN (full lag (t + lag) (zs.take 8)).s (full lag (t + lag) (zs.take 8)).L (hM (t + lag)) = 1 + z7) := by
        show _ = _
        rw [hat, List.take_add_one, hz7]
        exact full_step (zs.take 7) z7 (by omega)
      have ⟨e3, e4⟩ := full_again (lag := lag) (a := t + lag) (st := hS (1 + z8)) (zs.take 8)
      have H5 : Hid ((full lag (t + lag) (zs.take 8)).setE (hM (t + lag)) = 0) := by rw [hat]; exact e3
      have H6 : Hid ((((full lag (t + lag) (zs.take 8)).set (hM (t + lag)) (hS (1 + z8))).L.length : Int) = 1) := by show _ = _; rw [hat, e4]; rfl
      clear hz8 hz7 e1 e2 e3 e4 hi hlt htm hat
      go_wp2_with fail
      refine (sset_calls h3 t (1 + z8)).mono ?_
      rintro e w4 ⟨rfl, F4, h4, g4⟩
      rw [H1.out]
      rw [H2.out] at h4
      have ⟨b4, n4⟩ := ft_new b3 n3 (Nat.le_refl _) g4
      clear h3 n3 b3 g4 c8
      go_wp2_with fail
      refine (swait_calls h4).mono ?_
      rintro e w5 ⟨rfl, rfl⟩
      rw [H3.out]
      go_wp2_with fail
      refine (sstep_calls h4 (t + lag)).mono ?_
      rintro e w6 ⟨rfl, b6⟩
      rw [H4.out]
      have h6 := h4.below b6 (Nat.le_refl _)
      have B6 := b4.trans (b6.mono b4.size)
      have c8 := (K1.below B6 kl).cell 8 _ A8
      have c7 := (K1.below B6 kl).cell 7 _ A7
      clear h4 b4 b6
      go_wp2_with fail
      refine (sset_calls h6 (t + lag) (1 + z8)).mono ?_
      rintro e w7 ⟨rfl, F7, h7, g7⟩
      rw [H5.out]
      have ⟨b7, n7⟩ := ft_new B6 n4 (Nat.le_refl _) g7
      clear h6 B6 g7 c8 c7
      go_wp2_with fail
      refine (swait_calls h7).mono ?_
      rintro e w8 ⟨rfl, rfl⟩
      rw [H6.out]
      go_wp2_with fail
      refine (sset_nil 0 1 _).mono ?_
      rintro e w9 ⟨rfl, rfl⟩
      go_wp2_with fail
      refine (stake_nil 0 _).mono ?_
      rintro e w9 ⟨rfl, rfl⟩
      go_wp2_with fail
      refine (sstep_nil 0 _).mono ?_
      rintro e w9 ⟨rfl, rfl⟩
      go_wp2_with fail
      refine (swait_nil _).mono ?_
      rintro e w9 ⟨rfl, rfl⟩
      go_wp2
      go_ret
      exact ⟨rfl, B1.trans (b7.mono B1.size)⟩
end Go.Proofs.Ytcenipihbmifpaa
