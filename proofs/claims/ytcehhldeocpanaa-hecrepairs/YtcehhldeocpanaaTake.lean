/- Proved here: what a receiver's Take answers, and what becomes of the receiver. Conditions: as each theorem states them. -/
import Derived.Test.YtcehhldeocpanaaSeal
namespace Go.Proofs.Ytcehhldeocpanaa
open Go.RowKit

/-- What becomes of a header: it is right, it is repaired at a bit, or it is dropped. -/
structure Res where
  ok : Bool
  careful : Bool
  rep : Nat
  drop : Nat
  bit : Option Nat
def Res.right : Res := ⟨true, false, 0, 0, none⟩
def Res.fixed (k : Nat) : Res := ⟨true, true, 1, 0, some k⟩
def Res.gone : Res := ⟨false, true, 0, 1, none⟩
def res (c : Bool) (xs : List UInt8) : Res := if synN xs = 0 then .right else if c = true then .gone else match bitN (synN xs) with
  | some k => .fixed k
  | none => .gone
def Res.out (xs : List UInt8) (r : Res) : List UInt8 := if r.ok = true then (match r.bit with
  | some k => (flipN xs k).take 4
  | none => xs.take 4) else [0, 0, 0, 0]

theorem two_new (w : World) (x0 x1 x2 x3 x4 : UInt8) :
    ((w.alloc (.cells #[.int .u8 (x0.toNat : Int), .int .u8 (x1.toNat : Int), .int .u8 (x2.toNat : Int), .int .u8 (x3.toNat : Int), .int .u8 (x4.toNat : Int)] 35)).alloc (.cells #[.int .u8 0, .int .u8 0, .int .u8 0, .int .u8 0] 32)).heap.size = w.heap.size + 2 ∧
    BK ((w.alloc (.cells #[.int .u8 (x0.toNat : Int), .int .u8 (x1.toNat : Int), .int .u8 (x2.toNat : Int), .int .u8 (x3.toNat : Int), .int .u8 (x4.toNat : Int)] 35)).alloc (.cells #[.int .u8 0, .int .u8 0, .int .u8 0, .int .u8 0] 32)) w.heap.size (vals [x0, x1, x2, x3, x4]).toArray 35 ∧
    BK ((w.alloc (.cells #[.int .u8 (x0.toNat : Int), .int .u8 (x1.toNat : Int), .int .u8 (x2.toNat : Int), .int .u8 (x3.toNat : Int), .int .u8 (x4.toNat : Int)] 35)).alloc (.cells #[.int .u8 0, .int .u8 0, .int .u8 0, .int .u8 0] 32)) (w.heap.size + 1) #[.int .u8 0, .int .u8 0, .int .u8 0, .int .u8 0] 32 ∧
    Below w.heap.size w ((w.alloc (.cells #[.int .u8 (x0.toNat : Int), .int .u8 (x1.toNat : Int), .int .u8 (x2.toNat : Int), .int .u8 (x3.toNat : Int), .int .u8 (x4.toNat : Int)] 35)).alloc (.cells #[.int .u8 0, .int .u8 0, .int .u8 0, .int .u8 0] 32)) := by
  have A1 := bk_new w #[.int .u8 (x0.toNat : Int), .int .u8 (x1.toNat : Int), .int .u8 (x2.toNat : Int), .int .u8 (x3.toNat : Int), .int .u8 (x4.toNat : Int)] 35
  have R2 := bk_new (w.alloc (.cells #[.int .u8 (x0.toNat : Int), .int .u8 (x1.toNat : Int), .int .u8 (x2.toNat : Int), .int .u8 (x3.toNat : Int), .int .u8 (x4.toNat : Int)] 35)) #[.int .u8 0, .int .u8 0, .int .u8 0, .int .u8 0] 32
  rw [World.size_alloc] at R2
  exact ⟨by simp, A1.alloc _, R2, ((Below.refl _ w).alloc (Nat.le_refl _) _).alloc (by simp) _⟩

theorem BK.four {w : World} {b : Nat} {v0 v1 v2 v3 : Value} {t : TypeId} (h : BK w b #[v0, v1, v2, v3] t) :
    (w.cell? ⟨b, 0, none⟩ = some v0 ∧ w.cell? ⟨b, 1, none⟩ = some v1 ∧ w.cell? ⟨b, 2, none⟩ = some v2 ∧ w.cell? ⟨b, 3, none⟩ = some v3) ∧ w.frozen? ⟨b, 0, none⟩ = false ∧ w.frozen? ⟨b, 1, none⟩ = false ∧ w.frozen? ⟨b, 2, none⟩ = false ∧ w.frozen? ⟨b, 3, none⟩ = false :=
  ⟨⟨h.cell 0 _ rfl, h.cell 1 _ rfl, h.cell 2 _ rfl, h.cell 3 _ rfl⟩, h.frozen 0, h.frozen 1, h.frozen 2, h.frozen 3⟩
theorem BK.five {w : World} {b : Nat} {x0 x1 x2 x3 x4 : UInt8} {t : TypeId} (h : BK w b (vals [x0, x1, x2, x3, x4]).toArray t) :
    w.cell? ⟨b, 0, none⟩ = some (.int .u8 (x0.toNat : Int)) ∧ w.cell? ⟨b, 1, none⟩ = some (.int .u8 (x1.toNat : Int)) ∧ w.cell? ⟨b, 2, none⟩ = some (.int .u8 (x2.toNat : Int)) ∧ w.cell? ⟨b, 3, none⟩ = some (.int .u8 (x3.toNat : Int)) ∧ w.cell? ⟨b, 4, none⟩ = some (.int .u8 (x4.toNat : Int)) :=
  ⟨h.cell 0 _ rfl, h.cell 1 _ rfl, h.cell 2 _ rfl, h.cell 3 _ rfl, h.cell 4 _ rfl⟩

theorem end_four {r p d : Nat} {c : Bool} {w w2 : World} (u0 u1 u2 u3 : Value) (C : RC w2 r p d c) (B : But r w.heap.size w w2) (n4 : r ≠ w.heap.size + 1) :
    RC ((((w2.setCell ⟨w.heap.size + 1, 0, none⟩ u0).setCell ⟨w.heap.size + 1, 1, none⟩ u1).setCell ⟨w.heap.size + 1, 2, none⟩ u2).setCell ⟨w.heap.size + 1, 3, none⟩ u3) r p d c ∧
    But r w.heap.size w ((((w2.setCell ⟨w.heap.size + 1, 0, none⟩ u0).setCell ⟨w.heap.size + 1, 1, none⟩ u1).setCell ⟨w.heap.size + 1, 2, none⟩ u2).setCell ⟨w.heap.size + 1, 3, none⟩ u3) := by
  have hl : ∀ k, w.heap.size ≤ (⟨w.heap.size + 1, k, none⟩ : Addr).block := fun k => Nat.le_succ _
  exact ⟨BK.setOther (BK.setOther (BK.setOther (BK.setOther C n4 _) n4 _) n4 _) n4 _, (((B.setNew (hl 0) _).setNew (hl 1) _).setNew (hl 2) _).setNew (hl 3) _⟩

set_option maxHeartbeats 1000000 in
theorem take_right (r p d : Nat) (c : Bool) (x0 x1 x2 x3 x4 : UInt8) (w : World) (hR : RC w r p d c) (hs : synN [x0, x1, x2, x3, x4] = 0) :
    Calls Try.prog 10 #[.pointer (some ⟨r, 0, none⟩), .agg #[.int .u8 (x0.toNat : Int), .int .u8 (x1.toNat : Int), .int .u8 (x2.toNat : Int), .int .u8 (x3.toNat : Int), .int .u8 (x4.toNat : Int)]] w fun e w' =>
      e = .returned (.tuple #[.agg #[.int .u8 (x0.toNat : Int), .int .u8 (x1.toNat : Int), .int .u8 (x2.toNat : Int), .int .u8 (x3.toNat : Int)], .bool true]) ∧ RC w' r p d false ∧ But r w.heap.size w w' := by
  obtain ⟨z0, A0, R0, B0⟩ := two_new w x0 x1 x2 x3 x4
  have hr := hR.lt
  have I0 := BK.isB A0
  have HS : Hid (synN [x0, x1, x2, x3, x4] = 0) := hs
  have n1 : w.heap.size ≠ r := by omega
  have n2 : w.heap.size + 1 ≠ r := by omega
  have n3 : r ≠ w.heap.size := by omega
  have n4 : r ≠ w.heap.size + 1 := by omega
  clear hs
  go_enter Try.func10, Try.ntmps10
  go_wp2_with fail
  refine (syndrome_calls _ 5 5 [x0, x1, x2, x3, x4] (Nat.le_refl _) (by show 5 ≤ maxLen; decide) _ I0 (Nat.le_refl _)).mono ?_
  rintro e w1 ⟨rfl, b1⟩
  rw [HS.out]
  have A1 := A0.below b1 A0.lt
  have R1 := R0.below b1 R0.lt
  have C1 := (hR.below B0 hr).below b1 (by omega)
  have B1 : But r w.heap.size w w1 := (But.of B0).trans (But.of (b1.mono (by omega)))
  obtain ⟨c0, c1, c2, c3, c4⟩ := A1.five
  obtain ⟨k0, k1, k2, f0, f1, f2⟩ := C1.facts
  clear A0 R0 I0 B0 z0
  go_wp2_with fail
  refine (ahead_calls _ _ _ _ _ _).mono ?_
  rintro e w2 ⟨rfl, b2⟩
  have C2 : Hid (RC w2 r p d false) := (C1.careful false).below b2 (C1.careful false).lt
  have R2 := (R1.setOther (p := ⟨r, 2, none⟩) n2 (.bool false)).below b2 (R1.setOther (p := ⟨r, 2, none⟩) n2 (.bool false)).lt
  have B2 : But r w.heap.size w w2 := (B1.set (p := ⟨r, 2, none⟩) rfl _).trans (But.of (b2.mono (by have := B1.size; simpa using this)))
  clear A1 R1 C1 B1 b1 b2 c0 c1 c2 c3 c4 k0 k1 k2 f0 f1 f2
  obtain ⟨⟨d0, d1, d2, d3⟩, g0, g1, g2, g3⟩ := R2.four
  go_wp2
  refine bodyPost_ret (v := .tuple #[.agg #[.int .u8 (x0.toNat : Int), .int .u8 (x1.toNat : Int), .int .u8 (x2.toNat : Int), .int .u8 (x3.toNat : Int)], .bool true]) (by simp [results, Try.results10, go_sem, *]) rfl ⟨rfl, ?_, ?_⟩
  · exact (end_four _ _ _ _ C2.out B2 n4).1
  · exact (end_four _ _ _ _ C2.out B2 n4).2

set_option maxHeartbeats 1000000 in
theorem take_fixed (r p d : Nat) (x0 x1 x2 x3 x4 : UInt8) (w : World) (hR : RC w r p d false) (hp : p < 1000000) (k : Nat) (hs : synN [x0, x1, x2, x3, x4] ≠ 0) (hb : bitN (synN [x0, x1, x2, x3, x4]) = some k) :
    Calls Try.prog 10 #[.pointer (some ⟨r, 0, none⟩), .agg #[.int .u8 (x0.toNat : Int), .int .u8 (x1.toNat : Int), .int .u8 (x2.toNat : Int), .int .u8 (x3.toNat : Int), .int .u8 (x4.toNat : Int)]] w fun e w' =>
      ∃ y0 y1 y2 y3, (flipN [x0, x1, x2, x3, x4] k).take 4 = [y0, y1, y2, y3] ∧ e = .returned (.tuple #[.agg #[.int .u8 (y0.toNat : Int), .int .u8 (y1.toNat : Int), .int .u8 (y2.toNat : Int), .int .u8 (y3.toNat : Int)], .bool true]) ∧ RC w' r (p + 1) d true ∧ But r w.heap.size w w' := by
  obtain ⟨z0, A0, R0, B0⟩ := two_new w x0 x1 x2 x3 x4
  have hr := hR.lt
  have I0 := BK.isB A0
  obtain ⟨s, hsn⟩ : ∃ s, synN [x0, x1, x2, x3, x4] = s := ⟨_, rfl⟩
  rw [hsn] at hs hb
  have HS : Hid (synN [x0, x1, x2, x3, x4] = s) := hsn
  have HB : Hid (bitN s = some k) := hb
  have t0 : ((s : Int) == 0) = false := beq_eq_false_iff_ne.2 (by omega)
  have n1 : w.heap.size ≠ r := by omega
  have n2 : w.heap.size + 1 ≠ r := by omega
  have n3 : r ≠ w.heap.size := by omega
  have n4 : r ≠ w.heap.size + 1 := by omega
  clear hs hb hsn
  go_enter Try.func10, Try.ntmps10
  go_wp2_with fail
  refine (syndrome_calls _ 5 5 [x0, x1, x2, x3, x4] (Nat.le_refl _) (by show 5 ≤ maxLen; decide) _ I0 (Nat.le_refl _)).mono ?_
  rintro e w1 ⟨rfl, b1⟩
  rw [HS.out]
  have A1 := A0.below b1 A0.lt
  have R1 := R0.below b1 R0.lt
  have C1 := (hR.below B0 hr).below b1 (by omega)
  have B1 : But r w.heap.size w w1 := (But.of B0).trans (But.of (b1.mono (by omega)))
  obtain ⟨c0, c1, c2, c3, c4⟩ := A1.five
  have z1 : w.heap.size + 2 ≤ w1.heap.size := by have := b1.size; omega
  clear A0 R0 I0 B0 z0 b1
  go_wp2_with fail
  refine (mend_some _ _ _ _ _ _ _ HB.out _).mono ?_
  rintro e w2 ⟨y0, y1, y2, y3, y4, fl, rfl, b2⟩
  have FL : Hid (flipN [x0, x1, x2, x3, x4] k = [y0, y1, y2, y3, y4]) := fl
  clear fl
  have z2 : w.heap.size + 2 ≤ w2.heap.size := by have := b2.size; omega
  have C2 := C1.below b2 C1.lt
  have R2 := R1.below b2 R1.lt
  have B2 : But r w.heap.size w w2 := B1.trans (But.of (b2.mono (by omega)))
  obtain ⟨k0, k1, k2, f0, f1, f2⟩ := C2.facts
  have n5 : w2.heap.size ≠ r := by omega
  have n6 : r ≠ w2.heap.size := by omega
  have n7 : w2.heap.size ≠ w.heap.size + 1 := by omega
  have n8 : w.heap.size + 1 ≠ w2.heap.size := by omega
  have hr2 : r < w2.heap.size := by omega
  clear A1 R1 C1 B1 c0 c1 c2 c3 c4 b2
  go_wp2_with fail
  refine (repair_calls r p d true _ ?_ hp).mono ?_
  · exact BK.alloc (C2.careful true) _
  rintro e w3 ⟨rfl, C3, b3⟩
  have Y3 := (bk_new (w2.setCell ⟨r, 2, none⟩ (.bool true)) (vals [y0, y1, y2, y3, y4]).toArray 35).but b3 (by simp) (by simpa using n5)
  rw [World.size_setCell] at Y3
  have R3 := ((R2.setOther (p := ⟨r, 2, none⟩) n2 (.bool true)).alloc (.cells #[.int .u8 (y0.toNat : Int), .int .u8 (y1.toNat : Int), .int .u8 (y2.toNat : Int), .int .u8 (y3.toNat : Int), .int .u8 (y4.toNat : Int)] 35)).but b3 (by simp; omega) n2
  have B3 : But r w.heap.size w w3 := ((B2.set (p := ⟨r, 2, none⟩) rfl (.bool true)).alloc (by simp; omega) (.cells #[.int .u8 (y0.toNat : Int), .int .u8 (y1.toNat : Int), .int .u8 (y2.toNat : Int), .int .u8 (y3.toNat : Int), .int .u8 (y4.toNat : Int)] 35)).trans (b3.mono (by simp; omega))
  obtain ⟨c0, c1, c2, c3, c4⟩ := Y3.five
  clear C2 R2 B2 b3 Y3 k0 k1 k2 f0 f1 f2
  go_wp2_with fail
  refine (ahead_calls _ _ _ _ _ _).mono ?_
  rintro e w4 ⟨rfl, b4⟩
  have C4 := C3.below b4 C3.lt
  have R4 := R3.below b4 R3.lt
  have B4 : But r w.heap.size w w4 := B3.trans (But.of (b4.mono B3.size))
  have HC4 : Hid (RC w4 r (p + 1) d true) := C4
  clear C3 R3 B3 C4 b4 c0 c1 c2 c3 c4
  obtain ⟨⟨d0, d1, d2, d3⟩, g0, g1, g2, g3⟩ := R4.four
  go_wp2
  refine bodyPost_ret (v := .tuple #[.agg #[.int .u8 (y0.toNat : Int), .int .u8 (y1.toNat : Int), .int .u8 (y2.toNat : Int), .int .u8 (y3.toNat : Int)], .bool true]) (by simp [results, Try.results10, go_sem, *]) rfl ⟨y0, y1, y2, y3, by rw [FL.out]; rfl, rfl, ?_, ?_⟩
  · exact (end_four _ _ _ _ HC4.out B4 n4).1
  · exact (end_four _ _ _ _ HC4.out B4 n4).2

set_option maxHeartbeats 1000000 in
theorem take_goneA (r p d : Nat) (c : Bool) (x0 x1 x2 x3 x4 : UInt8) (w : World) (hR : RC w r p d c) (hd : d < 1000000) (hs : synN [x0, x1, x2, x3, x4] ≠ 0) (hb : bitN (synN [x0, x1, x2, x3, x4]) = none) :
    Calls Try.prog 10 #[.pointer (some ⟨r, 0, none⟩), .agg #[.int .u8 (x0.toNat : Int), .int .u8 (x1.toNat : Int), .int .u8 (x2.toNat : Int), .int .u8 (x3.toNat : Int), .int .u8 (x4.toNat : Int)]] w fun e w' =>
      e = .returned (.tuple #[.agg #[.int .u8 0, .int .u8 0, .int .u8 0, .int .u8 0], .bool false]) ∧ RC w' r p (d + 1) true ∧ But r w.heap.size w w' := by
  obtain ⟨z0, A0, R0, B0⟩ := two_new w x0 x1 x2 x3 x4
  have hr := hR.lt
  have I0 := BK.isB A0
  obtain ⟨s, hsn⟩ : ∃ s, synN [x0, x1, x2, x3, x4] = s := ⟨_, rfl⟩
  rw [hsn] at hs hb
  have HS : Hid (synN [x0, x1, x2, x3, x4] = s) := hsn
  have HB : Hid (bitN s = none) := hb
  have t0 : ((s : Int) == 0) = false := beq_eq_false_iff_ne.2 (by omega)
  have n1 : w.heap.size ≠ r := by omega
  have n2 : w.heap.size + 1 ≠ r := by omega
  have n3 : r ≠ w.heap.size := by omega
  have n4 : r ≠ w.heap.size + 1 := by omega
  clear hs hb hsn
  go_enter Try.func10, Try.ntmps10
  go_wp2_with fail
  refine (syndrome_calls _ 5 5 [x0, x1, x2, x3, x4] (Nat.le_refl _) (by show 5 ≤ maxLen; decide) _ I0 (Nat.le_refl _)).mono ?_
  rintro e w1 ⟨rfl, b1⟩
  rw [HS.out]
  have A1 := A0.below b1 A0.lt
  have R1 := R0.below b1 R0.lt
  have C1 := (hR.below B0 hr).below b1 (by omega)
  have B1 : But r w.heap.size w w1 := (But.of B0).trans (But.of (b1.mono (by omega)))
  obtain ⟨c0, c1, c2, c3, c4⟩ := A1.five
  have z1 : w.heap.size + 2 ≤ w1.heap.size := by have := b1.size; omega
  clear A0 R0 I0 B0 z0 b1
  go_wp2_with fail
  refine (mend_none _ _ _ _ _ _ HB.out _).mono ?_
  rintro e w2 ⟨rfl, b2⟩
  have z2 : w.heap.size + 2 ≤ w2.heap.size := by have := b2.size; omega
  have C2 := C1.below b2 C1.lt
  have R2 := R1.below b2 R1.lt
  have B2 : But r w.heap.size w w2 := B1.trans (But.of (b2.mono (by omega)))
  obtain ⟨k0, k1, k2, f0, f1, f2⟩ := C2.facts
  have n5 : w2.heap.size ≠ r := by omega
  have n6 : r ≠ w2.heap.size := by omega
  have n7 : w2.heap.size ≠ w.heap.size + 1 := by omega
  have n8 : w.heap.size + 1 ≠ w2.heap.size := by omega
  have hr2 : r < w2.heap.size := by omega
  clear A1 R1 C1 B1 c0 c1 c2 c3 c4 b2
  go_wp2_with fail
  refine (drop_calls r p d true _ ?_ hd).mono ?_
  · exact BK.alloc (C2.careful true) _
  rintro e w3 ⟨rfl, C3, b3⟩
  have R3 := ((R2.setOther (p := ⟨r, 2, none⟩) n2 (.bool true)).alloc (.cells #[.int .u8 (x0.toNat : Int), .int .u8 (x1.toNat : Int), .int .u8 (x2.toNat : Int), .int .u8 (x3.toNat : Int), .int .u8 (x4.toNat : Int)] 35)).but b3 (by simp; omega) n2
  have B3 : But r w.heap.size w w3 := ((B2.set (p := ⟨r, 2, none⟩) rfl (.bool true)).alloc (by simp; omega) (.cells #[.int .u8 (x0.toNat : Int), .int .u8 (x1.toNat : Int), .int .u8 (x2.toNat : Int), .int .u8 (x3.toNat : Int), .int .u8 (x4.toNat : Int)] 35)).trans (b3.mono (by simp; omega))
  have HC3 : Hid (RC w3 r p (d + 1) true) := C3
  clear C2 R2 B2 C3 b3 k0 k1 k2 f0 f1 f2
  obtain ⟨⟨d0, d1, d2, d3⟩, g0, g1, g2, g3⟩ := R3.four
  go_wp2
  refine bodyPost_ret (v := .tuple #[.agg #[.int .u8 0, .int .u8 0, .int .u8 0, .int .u8 0], .bool false]) (by simp [results, Try.results10, go_sem, *]) rfl ⟨rfl, ?_, ?_⟩
  · exact (end_four _ _ _ _ HC3.out B3 n4).1
  · exact (end_four _ _ _ _ HC3.out B3 n4).2

set_option maxHeartbeats 1000000 in
theorem take_goneB (r p d : Nat) (x0 x1 x2 x3 x4 : UInt8) (w : World) (hR : RC w r p d true) (hd : d < 1000000) (k : Nat) (hs : synN [x0, x1, x2, x3, x4] ≠ 0) (hb : bitN (synN [x0, x1, x2, x3, x4]) = some k) :
    Calls Try.prog 10 #[.pointer (some ⟨r, 0, none⟩), .agg #[.int .u8 (x0.toNat : Int), .int .u8 (x1.toNat : Int), .int .u8 (x2.toNat : Int), .int .u8 (x3.toNat : Int), .int .u8 (x4.toNat : Int)]] w fun e w' =>
      e = .returned (.tuple #[.agg #[.int .u8 0, .int .u8 0, .int .u8 0, .int .u8 0], .bool false]) ∧ RC w' r p (d + 1) true ∧ But r w.heap.size w w' := by
  obtain ⟨z0, A0, R0, B0⟩ := two_new w x0 x1 x2 x3 x4
  have hr := hR.lt
  have I0 := BK.isB A0
  obtain ⟨s, hsn⟩ : ∃ s, synN [x0, x1, x2, x3, x4] = s := ⟨_, rfl⟩
  rw [hsn] at hs hb
  have HS : Hid (synN [x0, x1, x2, x3, x4] = s) := hsn
  have HB : Hid (bitN s = some k) := hb
  have t0 : ((s : Int) == 0) = false := beq_eq_false_iff_ne.2 (by omega)
  have n1 : w.heap.size ≠ r := by omega
  have n2 : w.heap.size + 1 ≠ r := by omega
  have n3 : r ≠ w.heap.size := by omega
  have n4 : r ≠ w.heap.size + 1 := by omega
  clear hs hb hsn
  go_enter Try.func10, Try.ntmps10
  go_wp2_with fail
  refine (syndrome_calls _ 5 5 [x0, x1, x2, x3, x4] (Nat.le_refl _) (by show 5 ≤ maxLen; decide) _ I0 (Nat.le_refl _)).mono ?_
  rintro e w1 ⟨rfl, b1⟩
  rw [HS.out]
  have A1 := A0.below b1 A0.lt
  have R1 := R0.below b1 R0.lt
  have C1 := (hR.below B0 hr).below b1 (by omega)
  have B1 : But r w.heap.size w w1 := (But.of B0).trans (But.of (b1.mono (by omega)))
  obtain ⟨c0, c1, c2, c3, c4⟩ := A1.five
  have z1 : w.heap.size + 2 ≤ w1.heap.size := by have := b1.size; omega
  clear A0 R0 I0 B0 z0 b1
  go_wp2_with fail
  refine (mend_some _ _ _ _ _ _ _ HB.out _).mono ?_
  rintro e w2 ⟨y0, y1, y2, y3, y4, fl, rfl, b2⟩
  clear fl
  have z2 : w.heap.size + 2 ≤ w2.heap.size := by have := b2.size; omega
  have C2 := C1.below b2 C1.lt
  have R2 := R1.below b2 R1.lt
  have B2 : But r w.heap.size w w2 := B1.trans (But.of (b2.mono (by omega)))
  obtain ⟨k0, k1, k2, f0, f1, f2⟩ := C2.facts
  have n5 : w2.heap.size ≠ r := by omega
  have n6 : r ≠ w2.heap.size := by omega
  have n7 : w2.heap.size ≠ w.heap.size + 1 := by omega
  have n8 : w.heap.size + 1 ≠ w2.heap.size := by omega
  have hr2 : r < w2.heap.size := by omega
  clear A1 R1 C1 B1 c0 c1 c2 c3 c4 b2
  go_wp2_with fail
  refine (drop_calls r p d true _ ?_ hd).mono ?_
  · exact BK.alloc (C2.careful true) _
  rintro e w3 ⟨rfl, C3, b3⟩
  have R3 := ((R2.setOther (p := ⟨r, 2, none⟩) n2 (.bool true)).alloc (.cells #[.int .u8 (y0.toNat : Int), .int .u8 (y1.toNat : Int), .int .u8 (y2.toNat : Int), .int .u8 (y3.toNat : Int), .int .u8 (y4.toNat : Int)] 35)).but b3 (by simp; omega) n2
  have B3 : But r w.heap.size w w3 := ((B2.set (p := ⟨r, 2, none⟩) rfl (.bool true)).alloc (by simp; omega) (.cells #[.int .u8 (y0.toNat : Int), .int .u8 (y1.toNat : Int), .int .u8 (y2.toNat : Int), .int .u8 (y3.toNat : Int), .int .u8 (y4.toNat : Int)] 35)).trans (b3.mono (by simp; omega))
  have HC3 : Hid (RC w3 r p (d + 1) true) := C3
  clear C2 R2 B2 C3 b3 k0 k1 k2 f0 f1 f2
  obtain ⟨⟨d0, d1, d2, d3⟩, g0, g1, g2, g3⟩ := R3.four
  go_wp2
  refine bodyPost_ret (v := .tuple #[.agg #[.int .u8 0, .int .u8 0, .int .u8 0, .int .u8 0], .bool false]) (by simp [results, Try.results10, go_sem, *]) rfl ⟨rfl, ?_, ?_⟩
  · exact (end_four _ _ _ _ HC3.out B3 n4).1
  · exact (end_four _ _ _ _ HC3.out B3 n4).2

theorem take_calls (r p d : Nat) (c : Bool) (x0 x1 x2 x3 x4 : UInt8) (w : World) (hR : RC w r p d c) (hp : p < 1000000) (hd : d < 1000000) :
    Calls Try.prog 10 #[.pointer (some ⟨r, 0, none⟩), .agg #[.int .u8 (x0.toNat : Int), .int .u8 (x1.toNat : Int), .int .u8 (x2.toNat : Int), .int .u8 (x3.toNat : Int), .int .u8 (x4.toNat : Int)]] w fun e w' =>
      ∃ y0 y1 y2 y3, (res c [x0, x1, x2, x3, x4]).out [x0, x1, x2, x3, x4] = [y0, y1, y2, y3] ∧
        e = .returned (.tuple #[.agg #[.int .u8 (y0.toNat : Int), .int .u8 (y1.toNat : Int), .int .u8 (y2.toNat : Int), .int .u8 (y3.toNat : Int)], .bool (res c [x0, x1, x2, x3, x4]).ok]) ∧
        RC w' r (p + (res c [x0, x1, x2, x3, x4]).rep) (d + (res c [x0, x1, x2, x3, x4]).drop) (res c [x0, x1, x2, x3, x4]).careful ∧ But r w.heap.size w w' := by
  by_cases hs : synN [x0, x1, x2, x3, x4] = 0
  · have e : res c [x0, x1, x2, x3, x4] = .right := by unfold res; rw [if_pos hs]
    rw [e]
    refine (take_right r p d c x0 x1 x2 x3 x4 w hR hs).mono ?_
    rintro e w' ⟨rfl, h1, h2⟩
    exact ⟨x0, x1, x2, x3, rfl, rfl, h1, h2⟩
  · cases hb : bitN (synN [x0, x1, x2, x3, x4]) with
    | none =>
      have e : res c [x0, x1, x2, x3, x4] = .gone := by unfold res; rw [if_neg hs, hb]; cases c <;> rfl
      rw [e]
      refine (take_goneA r p d c x0 x1 x2 x3 x4 w hR hd hs hb).mono ?_
      rintro e w' ⟨rfl, h1, h2⟩
      exact ⟨0, 0, 0, 0, rfl, rfl, h1, h2⟩
    | some k =>
      cases c with
      | false =>
        have e : res false [x0, x1, x2, x3, x4] = .fixed k := by unfold res; rw [if_neg hs, hb]; rfl
        rw [e]
        refine (take_fixed r p d x0 x1 x2 x3 x4 w hR hp k hs hb).mono ?_
        rintro e w' ⟨y0, y1, y2, y3, h0, rfl, h1, h2⟩
        exact ⟨y0, y1, y2, y3, h0, rfl, h1, h2⟩
      | true =>
        have e : res true [x0, x1, x2, x3, x4] = .gone := by unfold res; rw [if_neg hs]; rfl
        rw [e]
        refine (take_goneB r p d x0 x1 x2 x3 x4 w hR hd k hs hb).mono ?_
        rintro e w' ⟨rfl, h1, h2⟩
        exact ⟨0, 0, 0, 0, rfl, rfl, h1, h2⟩
end Go.Proofs.Ytcehhldeocpanaa
