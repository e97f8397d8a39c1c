/- Proved here: what the document's Take answers, and what becomes of its receiver. Conditions: as each theorem states them. -/
import Derived.Test.YtpifmljbaogcbaaDoorRef
import Derived.Test.YtpifmljbaogcbaaDoorMore
namespace Go.Proofs.YtpifmljbaogcbaaDoor
set_option linter.unusedSimpArgs false
set_option linter.unusedVariables false
open Go.RowKit

set_option maxHeartbeats 1000000 in
theorem reftake_right (q p d : Nat) (c : Bool) (b off : Nat) (x0 x1 x2 x3 x4 : UInt8) (cp : Nat) (hcp : 5 ≤ cp) (w : World) {n : Nat} (hI : IsB n w (some ⟨b, off, none⟩) 5 [x0, x1, x2, x3, x4]) (hn : n ≤ q) (hQ : QC w q p d c) (hs : synN [x0, x1, x2, x3, x4] = 0) :
    Calls Tryd.prog 39 #[.pointer (some ⟨q, 0, none⟩), .slice (some ⟨b, off, none⟩) 5 cp] w fun e w' =>
      ∃ a' c', e = .returned (.tuple #[.slice a' 4 c', .bool true]) ∧ IsB w'.heap.size w' a' 4 [x0, x1, x2, x3] ∧ QC w' q p d false ∧ But q w.heap.size w w' := by
  have hq := hQ.lt
  have hcp4 : 4 ≤ cp := by omega
  have HS : Hid (synN [x0, x1, x2, x3, x4] = 0) := hs
  clear hs
  go_enter Tryd.func39, Tryd.ntmps39
  go_wp2_with fail
  refine (refsyn_calls _ _ _ [x0, x1, x2, x3, x4] hcp (by decide) _ hI (by omega)).mono ?_
  rintro e w1 ⟨rfl, b1⟩
  rw [HS.out]
  go_wp2_with fail
  refine (refbit_calls _ _).mono ?_
  rintro e w2 ⟨rfl, b2⟩
  have b12 := b1.trans (b2.mono b1.size)
  have Q2 := hQ.below b12 hq
  have I2 := hI.below b12 (by omega)
  obtain ⟨k0, k1, k2, f0, f1, f2⟩ := Q2.facts
  generalize bitI 0 = bi at *
  go_wp2
  go_ret2
  have B2 : But q w.heap.size w2 (w2.setCell ⟨q, 0, none⟩ (.bool false)) := (But.refl q _ w2).set rfl _
  refine ⟨_, _, rfl, ?_, Q2.careful false, (But.of b12).trans B2⟩
  exact ((I2.below (B2.below (m := n) (by omega) hn) (Nat.le_refl _)).take 4 (by simp)).mono (by have := b12.size; simp; omega)

set_option maxHeartbeats 1000000 in
theorem reftake_goneB (q p d : Nat) (b off : Nat) (x0 x1 x2 x3 x4 : UInt8) (cp : Nat) (hcp : 5 ≤ cp) (w : World) {n : Nat} (hI : IsB n w (some ⟨b, off, none⟩) 5 [x0, x1, x2, x3, x4]) (hn : n ≤ q) (hQ : QC w q p d true) (hp : d < 1000000) (hs : synN [x0, x1, x2, x3, x4] ≠ 0) :
    Calls Tryd.prog 39 #[.pointer (some ⟨q, 0, none⟩), .slice (some ⟨b, off, none⟩) 5 cp] w fun e w' =>
      ∃ a' c', e = .returned (.tuple #[.slice a' 4 c', .bool false]) ∧ IsB w'.heap.size w' a' 4 [0, 0, 0, 0] ∧ QC w' q p (d + 1) true ∧ But q w.heap.size w w' := by
  have hq := hQ.lt
  have hcp4 : 4 ≤ cp := by omega
  obtain ⟨s, hsn⟩ : ∃ s, synN [x0, x1, x2, x3, x4] = s := ⟨_, rfl⟩
  have HS : Hid (synN [x0, x1, x2, x3, x4] = s) := hsn
  rw [hsn] at hs
  have t0 : ((s : Int) == 0) = false := beq_eq_false_iff_ne.2 (by omega)
  clear hs hsn
  go_enter Tryd.func39, Tryd.ntmps39
  go_wp2_with fail
  refine (refsyn_calls _ _ _ [x0, x1, x2, x3, x4] hcp (by decide) _ hI (by omega)).mono ?_
  rintro e w1 ⟨rfl, b1⟩
  rw [HS.out]
  go_wp2_with fail
  refine (refbit_calls _ _).mono ?_
  rintro e w2 ⟨rfl, b2⟩
  generalize bitI s = bi at *
  have b12 := b1.trans (b2.mono b1.size)
  have z2 := b12.size
  have Q2 := hQ.below b12 hq
  have I2 := hI.below b12 (by omega)
  obtain ⟨k0, k1, k2, f0, f1, f2⟩ := Q2.facts
  clear b1 b2
  go_wp2
  go_ret2
  have e1 : ((d + 1 : Nat) : Int) = (d : Int) + 1 := by omega
  have Q3 := (Q2.careful true).drop (d + 1)
  have B3 : But q w.heap.size w2 ((w2.setCell ⟨q, 0, none⟩ (.bool true)).setCell ⟨q, 2, none⟩ (.int .i64 ((d + 1 : Nat) : Int))) := ((But.refl q _ w2).set rfl _).set rfl _
  rw [e1] at Q3 B3
  refine ⟨_, _, rfl, ?_, BK.alloc Q3 _, ((But.of b12).trans B3).alloc (by simp; omega) _⟩
  have := isB_new ((w2.setCell ⟨q, 0, none⟩ (.bool true)).setCell ⟨q, 2, none⟩ (.int .i64 ((d : Int) + 1))) [0, 0, 0, 0] 5 (0, 0)
  rw [World.size_setCell, World.size_setCell] at this
  exact this.mono (by simp)

set_option maxHeartbeats 1000000 in
theorem reftake_goneA (q p d : Nat) (b off : Nat) (x0 x1 x2 x3 x4 : UInt8) (cp : Nat) (hcp : 5 ≤ cp) (w : World) {n : Nat} (hI : IsB n w (some ⟨b, off, none⟩) 5 [x0, x1, x2, x3, x4]) (hn : n ≤ q) (hQ : QC w q p d false) (hp : d < 1000000) (hs : synN [x0, x1, x2, x3, x4] ≠ 0) (hb : bitN (synN [x0, x1, x2, x3, x4]) = none) :
    Calls Tryd.prog 39 #[.pointer (some ⟨q, 0, none⟩), .slice (some ⟨b, off, none⟩) 5 cp] w fun e w' =>
      ∃ a' c', e = .returned (.tuple #[.slice a' 4 c', .bool false]) ∧ IsB w'.heap.size w' a' 4 [0, 0, 0, 0] ∧ QC w' q p (d + 1) true ∧ But q w.heap.size w w' := by
  have hq := hQ.lt
  have hcp4 : 4 ≤ cp := by omega
  obtain ⟨s, hsn⟩ : ∃ s, synN [x0, x1, x2, x3, x4] = s := ⟨_, rfl⟩
  have HS : Hid (synN [x0, x1, x2, x3, x4] = s) := hsn
  rw [hsn] at hs hb
  have t0 : ((s : Int) == 0) = false := beq_eq_false_iff_ne.2 (by omega)
  have HB : Hid (bitI s = -1) := by show bitI s = -1; unfold bitI; rw [hb]
  clear hb
  clear hs hsn
  go_enter Tryd.func39, Tryd.ntmps39
  go_wp2_with fail
  refine (refsyn_calls _ _ _ [x0, x1, x2, x3, x4] hcp (by decide) _ hI (by omega)).mono ?_
  rintro e w1 ⟨rfl, b1⟩
  rw [HS.out]
  go_wp2_with fail
  refine (refbit_calls _ _).mono ?_
  rintro e w2 ⟨rfl, b2⟩
  rw [HB.out]
  have b12 := b1.trans (b2.mono b1.size)
  have z2 := b12.size
  have Q2 := hQ.below b12 hq
  have I2 := hI.below b12 (by omega)
  obtain ⟨k0, k1, k2, f0, f1, f2⟩ := Q2.facts
  clear b1 b2
  go_wp2
  go_ret2
  have e1 : ((d + 1 : Nat) : Int) = (d : Int) + 1 := by omega
  have Q3 := (Q2.careful true).drop (d + 1)
  have B3 : But q w.heap.size w2 ((w2.setCell ⟨q, 0, none⟩ (.bool true)).setCell ⟨q, 2, none⟩ (.int .i64 ((d + 1 : Nat) : Int))) := ((But.refl q _ w2).set rfl _).set rfl _
  rw [e1] at Q3 B3
  refine ⟨_, _, rfl, ?_, BK.alloc Q3 _, ((But.of b12).trans B3).alloc (by simp; omega) _⟩
  have := isB_new ((w2.setCell ⟨q, 0, none⟩ (.bool true)).setCell ⟨q, 2, none⟩ (.int .i64 ((d : Int) + 1))) [0, 0, 0, 0] 5 (0, 0)
  rw [World.size_setCell, World.size_setCell] at this
  exact this.mono (by simp)

set_option maxHeartbeats 1000000 in
theorem reftake_fixed (q p d : Nat) (b off : Nat) (x0 x1 x2 x3 x4 : UInt8) (cp : Nat) (hcp : 5 ≤ cp) (w : World) {n : Nat} (hI : IsB n w (some ⟨b, off, none⟩) 5 [x0, x1, x2, x3, x4]) (hn : n ≤ q) (hQ : QC w q p d false) (hp : p < 1000000) (k : Nat) (hs : synN [x0, x1, x2, x3, x4] ≠ 0) (hb : bitN (synN [x0, x1, x2, x3, x4]) = some k) :
    Calls Tryd.prog 39 #[.pointer (some ⟨q, 0, none⟩), .slice (some ⟨b, off, none⟩) 5 cp] w fun e w' =>
      ∃ a' c', e = .returned (.tuple #[.slice a' 4 c', .bool true]) ∧ IsB w'.heap.size w' a' 4 ((flipN [x0, x1, x2, x3, x4] k).take 4) ∧ QC w' q (p + 1) d true ∧ But q w.heap.size w w' := by
  have hq := hQ.lt
  have hcp4 : 4 ≤ cp := by omega
  obtain ⟨s, hsn⟩ : ∃ s, synN [x0, x1, x2, x3, x4] = s := ⟨_, rfl⟩
  have HS : Hid (synN [x0, x1, x2, x3, x4] = s) := hsn
  rw [hsn] at hs hb
  have t0 : ((s : Int) == 0) = false := beq_eq_false_iff_ne.2 (by omega)
  have hk := bitN_lt hb
  have HB : Hid (bitI s = k) := by show bitI s = k; unfold bitI; rw [hb]
  clear hb
  clear hs hsn
  go_enter Tryd.func39, Tryd.ntmps39
  go_wp2_with fail
  refine (refsyn_calls _ _ _ [x0, x1, x2, x3, x4] hcp (by decide) _ hI (by omega)).mono ?_
  rintro e w1 ⟨rfl, b1⟩
  rw [HS.out]
  go_wp2_with fail
  refine (refbit_calls _ _).mono ?_
  rintro e w2 ⟨rfl, b2⟩
  rw [HB.out]
  have b12 := b1.trans (b2.mono b1.size)
  have z2 := b12.size
  have Q2 := hQ.below b12 hq
  have I2 := hI.below b12 (by omega)
  obtain ⟨k0, k1, k2, f0, f1, f2⟩ := Q2.facts
  clear b1 b2
  have e1 : ((p + 1 : Nat) : Int) = (p : Int) + 1 := by omega
  have Q3 := (Q2.careful true).rep (p + 1)
  have B3 : But q w.heap.size w2 ((w2.setCell ⟨q, 0, none⟩ (.bool true)).setCell ⟨q, 1, none⟩ (.int .i64 ((p + 1 : Nat) : Int))) := ((But.refl q _ w2).set rfl _).set rfl _
  rw [e1] at Q3 B3
  have I3 := I2.below (B3.below (m := n) (by omega) hn) (Nat.le_refl _)
  have hk0 : decide ((k : Int) < 0) = false := by simp
  clear I2 Q2 e1
  go_wp2_with fail
  refine (flip_calls _ 5 cp [x0, x1, x2, x3, x4] _ I3 (by simp; omega) (by intro h; cases h) (by decide) k (by omega)).mono ?_
  rintro e w3 ⟨a3, c3, rfl, o3, b3⟩
  obtain ⟨J3, _, hc3⟩ := o3.isB
  have J4 := J3.take 4 (by rw [flipN_length]; simp)
  have Q4 := Q3.below b3 (BK.lt Q3)
  have B4 : But q w.heap.size w w3 := ((But.of b12).trans B3).trans (But.of (b3.mono (by simp; omega)))
  have hc4 : 4 ≤ c3 := by omega
  clear J3 Q3 B3 b3 o3 k0 k1 k2 f0 f1 f2 I3
  go_wp2
  go_ret2
  exact ⟨_, _, rfl, J4, Q4, B4⟩

theorem reftake_calls (q p d : Nat) (c : Bool) (b off : Nat) (x0 x1 x2 x3 x4 : UInt8) (cp : Nat) (hcp : 5 ≤ cp) (w : World) {n : Nat} (hI : IsB n w (some ⟨b, off, none⟩) 5 [x0, x1, x2, x3, x4]) (hn : n ≤ q) (hQ : QC w q p d c) (hp : p < 1000000) (hd : d < 1000000) :
    Calls Tryd.prog 39 #[.pointer (some ⟨q, 0, none⟩), .slice (some ⟨b, off, none⟩) 5 cp] w fun e w' =>
      ∃ a' c', e = .returned (.tuple #[.slice a' 4 c', .bool (res c [x0, x1, x2, x3, x4]).ok]) ∧ IsB w'.heap.size w' a' 4 ((res c [x0, x1, x2, x3, x4]).out [x0, x1, x2, x3, x4]) ∧
        QC w' q (p + (res c [x0, x1, x2, x3, x4]).rep) (d + (res c [x0, x1, x2, x3, x4]).drop) (res c [x0, x1, x2, x3, x4]).careful ∧ But q w.heap.size w w' := by
  rcases res_cases c [x0, x1, x2, x3, x4] with ⟨hs, e⟩ | ⟨hs, rfl, k, hb, e⟩ | ⟨hs, hb, e⟩
  · rw [e]; exact reftake_right q p d c b off x0 x1 x2 x3 x4 cp hcp w hI hn hQ hs
  · rw [e]; exact reftake_fixed q p d b off x0 x1 x2 x3 x4 cp hcp w hI hn hQ hp k hs hb
  · rw [e]
    cases c with
    | true => exact reftake_goneB q p d b off x0 x1 x2 x3 x4 cp hcp w hI hn hQ hd hs
    | false =>
      rcases hb with hb | hb
      · cases hb
      · exact reftake_goneA q p d b off x0 x1 x2 x3 x4 cp hcp w hI hn hQ hd hs hb
end Go.Proofs.YtpifmljbaogcbaaDoor
