/- Proved here: the walk of HecRepairs. Conditions: as each theorem states them. -/
import Derived.Test.YtcehhldeocpanaaCountsW
import Derived.Test.YtcehhldeocpanaaTwo
namespace Go.Proofs.Ytcehhldeocpanaa
open Go.RowKit

/-- Five bytes in a block of the call's own, read as an array. -/
theorem OwnB.five {base : Nat} {w : World} {a : Option Addr} {c : Nat} {o0 o1 o2 o3 o4 : UInt8} (h : OwnB base w a 5 c [o0, o1, o2, o3, o4]) :
    ∃ g, a = some ⟨g, 0, none⟩ ∧ w.cell? ⟨g, 0, none⟩ = some (.int .u8 (o0.toNat : Int)) ∧ w.cell? ⟨g, 1, none⟩ = some (.int .u8 (o1.toNat : Int)) ∧ w.cell? ⟨g, 2, none⟩ = some (.int .u8 (o2.toNat : Int)) ∧ w.cell? ⟨g, 3, none⟩ = some (.int .u8 (o3.toNat : Int)) ∧ w.cell? ⟨g, 4, none⟩ = some (.int .u8 (o4.toNat : Int)) := by
  obtain ⟨g, cur, rfl, _, _, _⟩ := h.block (by decide)
  obtain ⟨b, off, e, _, hc⟩ := h.isB.1.cell (k := 0) (x := o0) rfl
  cases e
  refine ⟨g, rfl, ?_, ?_, ?_, ?_, ?_⟩
  · have := hc 0 o0 rfl; rwa [Nat.zero_add] at this
  · have := hc 1 o1 rfl; rwa [Nat.zero_add] at this
  · have := hc 2 o2 rfl; rwa [Nat.zero_add] at this
  · have := hc 3 o3 rfl; rwa [Nat.zero_add] at this
  · have := hc 4 o4 rfl; rwa [Nat.zero_add] at this

theorem flip_back (x0 x1 x2 x3 x4 : UInt8) (n : Nat) (hn : n < 40) : flipN (flipN [x0, x1, x2, x3, x4] n) n = [x0, x1, x2, x3, x4] := by
  have hq : n / 8 = 0 ∨ n / 8 = 1 ∨ n / 8 = 2 ∨ n / 8 = 3 ∨ n / 8 = 4 := by omega
  have ex : ∀ u v : UInt8, u ^^^ v ^^^ v = u := fun u v => by rw [UInt8.xor_assoc, UInt8.xor_self, UInt8.xor_zero]
  rcases hq with hq | hq | hq | hq | hq <;> simp [flipN, hq, ex]

set_option maxHeartbeats 4000000 in
theorem repairs_same (x0 x1 x2 x3 u0 u1 u2 u3 : UInt8) (i k p q : Nat) (hi : i < 256) (hk : k < 256) (hp : i % 40 = p) (hq : k % 40 = q) (hpq : p = q) (w : World) :
    Calls Try.prog 5 #[.agg #[.int .u8 (x0.toNat : Int), .int .u8 (x1.toNat : Int), .int .u8 (x2.toNat : Int), .int .u8 (x3.toNat : Int)], .agg #[.int .u8 (u0.toNat : Int), .int .u8 (u1.toNat : Int), .int .u8 (u2.toNat : Int), .int .u8 (u3.toNat : Int)], .int .u8 i, .int .u8 k] w fun e w' => e = .returned (.bool true) ∧ Below w.heap.size w w' := by
  subst hpq
  have hp40 : p < 40 := by omega
  have ip : (i : Int) % 40 = (p : Int) := by omega
  have kq : (k : Int) % 40 = (p : Int) := by omega
  clear hp hq
  have art := fun (w : World) (a : Option Addr) (cap : Nat) => run_arrayAt (P := Try.prog) (w := w) 35 5 5 a 5 cap Try.underlying35 (Nat.le_refl _)
  have eqx := eql_self (x0.toNat : Int) (x1.toNat : Int) (x2.toNat : Int) (x3.toNat : Int)
  have nex := neq_self (x0.toNat : Int) (x1.toNat : Int) (x2.toNat : Int) (x3.toNat : Int)
  have nez := neq_self 0 0 0 0
  have A1 := bk_new w #[.int .u8 (x0.toNat : Int), .int .u8 (x1.toNat : Int), .int .u8 (x2.toNat : Int), .int .u8 (x3.toNat : Int)] 32
  have Fb0 := A1.alloc (.cells #[.int .u8 (u0.toNat : Int), .int .u8 (u1.toNat : Int), .int .u8 (u2.toNat : Int), .int .u8 (u3.toNat : Int)] 32)
  have Fa0 := bk_new (w.alloc (.cells #[.int .u8 (x0.toNat : Int), .int .u8 (x1.toNat : Int), .int .u8 (x2.toNat : Int), .int .u8 (x3.toNat : Int)] 32)) #[.int .u8 (u0.toNat : Int), .int .u8 (u1.toNat : Int), .int .u8 (u2.toNat : Int), .int .u8 (u3.toNat : Int)] 32
  rw [World.size_alloc] at Fa0
  have B0 : Below w.heap.size w ((w.alloc (.cells #[.int .u8 (x0.toNat : Int), .int .u8 (x1.toNat : Int), .int .u8 (x2.toNat : Int), .int .u8 (x3.toNat : Int)] 32)).alloc (.cells #[.int .u8 (u0.toNat : Int), .int .u8 (u1.toNat : Int), .int .u8 (u2.toNat : Int), .int .u8 (u3.toNat : Int)] 32)) := ((Below.refl _ w).alloc (Nat.le_refl _) _).alloc (by simp) _
  obtain ⟨W0, hW0⟩ : ∃ W, (w.alloc (.cells #[.int .u8 (x0.toNat : Int), .int .u8 (x1.toNat : Int), .int .u8 (x2.toNat : Int), .int .u8 (x3.toNat : Int)] 32)).alloc (.cells #[.int .u8 (u0.toNat : Int), .int .u8 (u1.toNat : Int), .int .u8 (u2.toNat : Int), .int .u8 (u3.toNat : Int)] 32) = W := ⟨_, rfl⟩
  rw [hW0] at Fb0 Fa0 B0
  have SC : Hid (synN [x0, x1, x2, x3, chk x0 x1 x2 x3] = 0) := syn_chk x0 x1 x2 x3
  have SU : Hid (synN [u0, u1, u2, u3, chk u0 u1 u2 u3] = 0) := syn_chk u0 u1 u2 u3
  clear A1
  go_enter Try.func5, Try.ntmps5
  go_wp2_with fail
  refine (awake_calls _).mono ?_
  rintro e w1 ⟨rfl, bb⟩
  have B1 : Below w.heap.size w w1 := B0.trans (bb.mono B0.size)
  have Fb1 := Fb0.below bb Fb0.lt
  have Fa2 := Fa0.below bb Fa0.lt
  clear Fb0 Fa0
  have z1 := Fa2.lt
  clear hW0 B0 bb
  obtain ⟨W1, hW1⟩ : ∃ W, w1.alloc (.cells #[.int .i64 0, .int .i64 0, .bool false] 28) = W := ⟨_, rfl⟩
  have Fb3 := Fb1.alloc (.cells #[.int .i64 0, .int .i64 0, .bool false] 28)
  have Fa4 := Fa2.alloc (.cells #[.int .i64 0, .int .i64 0, .bool false] 28)
  clear Fb1 Fa2
  have Fr5 := bk_new w1 #[.int .i64 0, .int .i64 0, .bool false] 28
  have B1a : Below w.heap.size w (w1.alloc (.cells #[.int .i64 0, .int .i64 0, .bool false] 28)) := B1.alloc B1.size _
  have s1 : (w1.alloc (.cells #[.int .i64 0, .int .i64 0, .bool false] 28)).heap.size = w1.heap.size + 1 := by simp
  rw [hW1] at B1a s1 Fb3 Fa4 Fr5
  clear B1
  obtain ⟨⟨c0, c1, c2, c3⟩, _⟩ := BK.four Fb3
  go_wp2_with fail
  refine (seal_calls x0 x1 x2 x3 _).mono ?_
  rintro e w2 ⟨rfl, bb⟩
  generalize chk x0 x1 x2 x3 = ck at *
  have B2 : Below w.heap.size w w2 := B1a.trans (bb.mono B1a.size)
  clear hW1 c0 c1 c2 c3 B1a
  have Fb6 := Fb3.below bb Fb3.lt
  have Fa7 := Fa4.below bb Fa4.lt
  have Fr8 := Fr5.below bb Fr5.lt
  clear Fb3 Fa4 Fr5
  clear bb
  have zr : w1.heap.size < w2.heap.size := (Fr8).lt
  obtain ⟨W2, hW2⟩ : ∃ W, w2.alloc (.cells #[.int .u8 (x0.toNat : Int), .int .u8 (x1.toNat : Int), .int .u8 (x2.toNat : Int), .int .u8 (x3.toNat : Int), .int .u8 (ck.toNat : Int)] 35) = W := ⟨_, rfl⟩
  have Fb9 := Fb6.alloc (.cells #[.int .u8 (x0.toNat : Int), .int .u8 (x1.toNat : Int), .int .u8 (x2.toNat : Int), .int .u8 (x3.toNat : Int), .int .u8 (ck.toNat : Int)] 35)
  have Fa10 := Fa7.alloc (.cells #[.int .u8 (x0.toNat : Int), .int .u8 (x1.toNat : Int), .int .u8 (x2.toNat : Int), .int .u8 (x3.toNat : Int), .int .u8 (ck.toNat : Int)] 35)
  have Fr11 := Fr8.alloc (.cells #[.int .u8 (x0.toNat : Int), .int .u8 (x1.toNat : Int), .int .u8 (x2.toNat : Int), .int .u8 (x3.toNat : Int), .int .u8 (ck.toNat : Int)] 35)
  clear Fb6 Fa7 Fr8
  have Fs12 := bk_new w2 #[.int .u8 (x0.toNat : Int), .int .u8 (x1.toNat : Int), .int .u8 (x2.toNat : Int), .int .u8 (x3.toNat : Int), .int .u8 (ck.toNat : Int)] 35
  have B2a : Below w.heap.size w (w2.alloc (.cells #[.int .u8 (x0.toNat : Int), .int .u8 (x1.toNat : Int), .int .u8 (x2.toNat : Int), .int .u8 (x3.toNat : Int), .int .u8 (ck.toNat : Int)] 35)) := B2.alloc B2.size _
  have s2 : (w2.alloc (.cells #[.int .u8 (x0.toNat : Int), .int .u8 (x1.toNat : Int), .int .u8 (x2.toNat : Int), .int .u8 (x3.toNat : Int), .int .u8 (ck.toNat : Int)] 35)).heap.size = w2.heap.size + 1 := by simp
  rw [hW2] at B2a s2 Fb9 Fa10 Fr11 Fs12
  clear B2
  have I2 := BK.isB (zs := [x0, x1, x2, x3, ck]) Fs12
  obtain ⟨o0, o1, o2, o3, o4, hO⟩ := flip_list5 x0 x1 x2 x3 ck p
  have HO : Hid (flipN [x0, x1, x2, x3, ck] p = [o0, o1, o2, o3, o4]) := hO
  clear hO
  go_wp2_with fail
  refine (flip_calls _ 5 5 [x0, x1, x2, x3, ck] _ I2 (Nat.le_refl _) (by intro h; cases h) (by decide) p (by omega)).mono ?_
  rintro e w3 ⟨ao, co, rfl, oo, bb⟩
  rw [HO.out] at oo
  obtain ⟨go, rfl, e0, e1, e2, e3, e4⟩ := oo.five
  have B3 : Below w.heap.size w w3 := B2a.trans (bb.mono B2a.size)
  clear hW2 I2 oo B2a
  have Fb13 := Fb9.below bb Fb9.lt
  have Fa14 := Fa10.below bb Fa10.lt
  have Fr15 := Fr11.below bb Fr11.lt
  clear Fb9 Fa10 Fr11
  clear bb
  have zo : w1.heap.size < w3.heap.size := (Fr15).lt
  obtain ⟨W3, hW3⟩ : ∃ W, w3.alloc (.cells #[.int .u8 (o0.toNat : Int), .int .u8 (o1.toNat : Int), .int .u8 (o2.toNat : Int), .int .u8 (o3.toNat : Int), .int .u8 (o4.toNat : Int)] 35) = W := ⟨_, rfl⟩
  have Fb16 := Fb13.alloc (.cells #[.int .u8 (o0.toNat : Int), .int .u8 (o1.toNat : Int), .int .u8 (o2.toNat : Int), .int .u8 (o3.toNat : Int), .int .u8 (o4.toNat : Int)] 35)
  have Fa17 := Fa14.alloc (.cells #[.int .u8 (o0.toNat : Int), .int .u8 (o1.toNat : Int), .int .u8 (o2.toNat : Int), .int .u8 (o3.toNat : Int), .int .u8 (o4.toNat : Int)] 35)
  have Fr18 := Fr15.alloc (.cells #[.int .u8 (o0.toNat : Int), .int .u8 (o1.toNat : Int), .int .u8 (o2.toNat : Int), .int .u8 (o3.toNat : Int), .int .u8 (o4.toNat : Int)] 35)
  clear Fb13 Fa14 Fr15
  have Fo19 := bk_new w3 #[.int .u8 (o0.toNat : Int), .int .u8 (o1.toNat : Int), .int .u8 (o2.toNat : Int), .int .u8 (o3.toNat : Int), .int .u8 (o4.toNat : Int)] 35
  have B3a : Below w.heap.size w (w3.alloc (.cells #[.int .u8 (o0.toNat : Int), .int .u8 (o1.toNat : Int), .int .u8 (o2.toNat : Int), .int .u8 (o3.toNat : Int), .int .u8 (o4.toNat : Int)] 35)) := B3.alloc B3.size _
  have s3 : (w3.alloc (.cells #[.int .u8 (o0.toNat : Int), .int .u8 (o1.toNat : Int), .int .u8 (o2.toNat : Int), .int .u8 (o3.toNat : Int), .int .u8 (o4.toNat : Int)] 35)).heap.size = w3.heap.size + 1 := by simp
  rw [hW3] at B3a s3 Fb16 Fa17 Fr18 Fo19
  clear B3
  have I3 := BK.isB (zs := [o0, o1, o2, o3, o4]) Fo19
  obtain ⟨t0, t1, t2, t3, t4, hT⟩ := flip_list5 o0 o1 o2 o3 o4 p
  have HT : Hid (flipN [o0, o1, o2, o3, o4] p = [t0, t1, t2, t3, t4]) := hT
  clear hT
  go_wp2_with fail
  refine (flip_calls _ 5 5 [o0, o1, o2, o3, o4] _ I3 (Nat.le_refl _) (by intro h; cases h) (by decide) p (by omega)).mono ?_
  rintro e w4 ⟨at4, ct, rfl, ot, bb⟩
  rw [HT.out] at ot
  obtain ⟨gt, rfl, f0, f1, f2, f3, f4⟩ := ot.five
  have B4 : Below w.heap.size w w4 := B3a.trans (bb.mono B3a.size)
  clear hW3 I3 ot B3a e0 e1 e2 e3 e4
  have Fb20 := Fb16.below bb Fb16.lt
  have Fa21 := Fa17.below bb Fa17.lt
  have Fr22 := Fr18.below bb Fr18.lt
  have Fo23 := Fo19.below bb Fo19.lt
  clear Fb16 Fa17 Fr18 Fo19
  clear bb
  have zt : w1.heap.size < w4.heap.size := (Fr22).lt
  have zot : w3.heap.size < w4.heap.size := (Fo23).lt
  obtain ⟨W4, hW4⟩ : ∃ W, w4.alloc (.cells #[.int .u8 (t0.toNat : Int), .int .u8 (t1.toNat : Int), .int .u8 (t2.toNat : Int), .int .u8 (t3.toNat : Int), .int .u8 (t4.toNat : Int)] 35) = W := ⟨_, rfl⟩
  have Fb24 := Fb20.alloc (.cells #[.int .u8 (t0.toNat : Int), .int .u8 (t1.toNat : Int), .int .u8 (t2.toNat : Int), .int .u8 (t3.toNat : Int), .int .u8 (t4.toNat : Int)] 35)
  have Fa25 := Fa21.alloc (.cells #[.int .u8 (t0.toNat : Int), .int .u8 (t1.toNat : Int), .int .u8 (t2.toNat : Int), .int .u8 (t3.toNat : Int), .int .u8 (t4.toNat : Int)] 35)
  have Fr26 := Fr22.alloc (.cells #[.int .u8 (t0.toNat : Int), .int .u8 (t1.toNat : Int), .int .u8 (t2.toNat : Int), .int .u8 (t3.toNat : Int), .int .u8 (t4.toNat : Int)] 35)
  have Fo27 := Fo23.alloc (.cells #[.int .u8 (t0.toNat : Int), .int .u8 (t1.toNat : Int), .int .u8 (t2.toNat : Int), .int .u8 (t3.toNat : Int), .int .u8 (t4.toNat : Int)] 35)
  clear Fb20 Fa21 Fr22 Fo23
  have Ft28 := bk_new w4 #[.int .u8 (t0.toNat : Int), .int .u8 (t1.toNat : Int), .int .u8 (t2.toNat : Int), .int .u8 (t3.toNat : Int), .int .u8 (t4.toNat : Int)] 35
  have B4a : Below w.heap.size w (w4.alloc (.cells #[.int .u8 (t0.toNat : Int), .int .u8 (t1.toNat : Int), .int .u8 (t2.toNat : Int), .int .u8 (t3.toNat : Int), .int .u8 (t4.toNat : Int)] 35)) := B4.alloc B4.size _
  have s4 : (w4.alloc (.cells #[.int .u8 (t0.toNat : Int), .int .u8 (t1.toNat : Int), .int .u8 (t2.toNat : Int), .int .u8 (t3.toNat : Int), .int .u8 (t4.toNat : Int)] 35)).heap.size = w4.heap.size + 1 := by simp
  rw [hW4] at B4a s4 Fb24 Fa25 Fr26 Fo27 Ft28
  clear B4
  have so : synN [o0, o1, o2, o3, o4] = synN (dam p) := by rw [← HO.out, syn_flip _ _ _ _ _ _ hp40, SC.out, Nat.zero_xor]
  have bo : bitN (synN [o0, o1, o2, o3, o4]) = some p := by rw [so]; exact bitN_dam p hp40
  have no : synN [o0, o1, o2, o3, o4] ≠ 0 := by
    intro h
    rw [h] at bo
    have : bitN 0 = none := by kernel_rfl
    rw [this] at bo
    cases bo
  have BO : Hid (bitN (synN [o0, o1, o2, o3, o4]) = some p) := bo
  have NO : Hid (synN [o0, o1, o2, o3, o4] ≠ 0) := no
  have fo : (flipN [o0, o1, o2, o3, o4] p).take 4 = [x0, x1, x2, x3] := by rw [← HO.out, flip_back _ _ _ _ _ _ hp40]; rfl
  have FO : Hid ((flipN [o0, o1, o2, o3, o4] p).take 4 = [x0, x1, x2, x3]) := fo
  have st : synN [t0, t1, t2, t3, t4] = synN (dam p) ^^^ synN (dam p) := by rw [← HT.out, syn_flip _ _ _ _ _ _ hp40, so]
  have tt : [t0, t1, t2, t3, t4] = [x0, x1, x2, x3, ck] := by rw [← HT.out, ← HO.out, flip_back _ _ _ _ _ _ hp40]
  simp only [List.cons.injEq, and_true] at tt
  have TT : Hid (t0 = x0 ∧ t1 = x1 ∧ t2 = x2 ∧ t3 = x3) := ⟨tt.1, tt.2.1, tt.2.2.1, tt.2.2.2.1⟩
  have ST : Hid (synN [t0, t1, t2, t3, t4] = 0) := by show synN _ = 0; rw [st, Nat.xor_self]
  clear so bo no fo st tt HO HT SC
  obtain ⟨⟨c0, c1, c2, c3⟩, _⟩ := BK.four Fa25
  go_wp2_with fail
  refine (seal_calls u0 u1 u2 u3 _).mono ?_
  rintro e w5 ⟨rfl, bb⟩
  obtain ⟨cu, hcu⟩ : ∃ cu, chk u0 u1 u2 u3 = cu := ⟨_, rfl⟩
  rw [hcu] at SU ⊢
  clear hcu
  have B5 : Below w.heap.size w w5 := B4a.trans (bb.mono B4a.size)
  clear hW4 B4a c0 c1 c2 c3 f0 f1 f2 f3 f4
  have Fb29 := Fb24.below bb Fb24.lt
  have Fa30 := Fa25.below bb Fa25.lt
  have Fr31 := Fr26.below bb Fr26.lt
  have Fo32 := Fo27.below bb Fo27.lt
  have Ft33 := Ft28.below bb Ft28.lt
  clear Fb24 Fa25 Fr26 Fo27 Ft28
  clear bb
  go_wp2_with fail
  refine (take_right w1.heap.size 0 0 false u0 u1 u2 u3 cu _ Fr31 SU.out).mono ?_
  rintro e w6 ⟨rfl, R6, bb⟩
  have B6 : Below w.heap.size w w6 := B5.trans (bb.below B5.size (by omega))
  have Fb34 := Fb29.but bb Fb29.lt (by omega)
  have Fa35 := Fa30.but bb Fa30.lt (by omega)
  have Fo36 := Fo32.but bb Fo32.lt (by omega)
  have Ft37 := Ft33.but bb Ft33.lt (by omega)
  clear Fb29 Fa30 Fo32 Ft33
  clear bb 
  obtain ⟨c0, c1, c2, c3, c4⟩ := BK.five (x0 := o0) (x1 := o1) (x2 := o2) (x3 := o3) (x4 := o4) Fo36
  go_wp2_with fail
  refine (take_fixed w1.heap.size 0 0 o0 o1 o2 o3 o4 _ R6 (by decide) p NO.out BO.out).mono ?_
  rintro e w7 ⟨y0, y1, y2, y3, fl, rfl, R7, bb⟩
  have B7 : Below w.heap.size w w7 := B6.trans (bb.below B6.size (by omega))
  have Fb38 := Fb34.but bb Fb34.lt (by omega)
  have Fa39 := Fa35.but bb Fa35.lt (by omega)
  have Fo40 := Fo36.but bb Fo36.lt (by omega)
  have Ft41 := Ft37.but bb Ft37.lt (by omega)
  clear Fb34 Fa35 Fo36 Ft37
  clear bb c0 c1 c2 c3 c4
  rw [FO.out] at fl
  simp only [List.cons.injEq, and_true] at fl
  obtain ⟨rfl, rfl, rfl, rfl⟩ := fl
  have zc : w1.heap.size < w7.heap.size := R7.lt
  obtain ⟨W7, hW7⟩ : ∃ W, w7.alloc (.cells #[.int .u8 (x0.toNat : Int), .int .u8 (x1.toNat : Int), .int .u8 (x2.toNat : Int), .int .u8 (x3.toNat : Int)] 32) = W := ⟨_, rfl⟩
  have Fb42 := Fb38.alloc (.cells #[.int .u8 (x0.toNat : Int), .int .u8 (x1.toNat : Int), .int .u8 (x2.toNat : Int), .int .u8 (x3.toNat : Int)] 32)
  have Fa43 := Fa39.alloc (.cells #[.int .u8 (x0.toNat : Int), .int .u8 (x1.toNat : Int), .int .u8 (x2.toNat : Int), .int .u8 (x3.toNat : Int)] 32)
  have Fo44 := Fo40.alloc (.cells #[.int .u8 (x0.toNat : Int), .int .u8 (x1.toNat : Int), .int .u8 (x2.toNat : Int), .int .u8 (x3.toNat : Int)] 32)
  have Ft45 := Ft41.alloc (.cells #[.int .u8 (x0.toNat : Int), .int .u8 (x1.toNat : Int), .int .u8 (x2.toNat : Int), .int .u8 (x3.toNat : Int)] 32)
  have Fr46 := R7.alloc (.cells #[.int .u8 (x0.toNat : Int), .int .u8 (x1.toNat : Int), .int .u8 (x2.toNat : Int), .int .u8 (x3.toNat : Int)] 32)
  clear Fb38 Fa39 Fo40 Ft41 R7
  have Fc47 := bk_new w7 #[.int .u8 (x0.toNat : Int), .int .u8 (x1.toNat : Int), .int .u8 (x2.toNat : Int), .int .u8 (x3.toNat : Int)] 32
  have B7a : Below w.heap.size w (w7.alloc (.cells #[.int .u8 (x0.toNat : Int), .int .u8 (x1.toNat : Int), .int .u8 (x2.toNat : Int), .int .u8 (x3.toNat : Int)] 32)) := B7.alloc B7.size _
  have s7 : (w7.alloc (.cells #[.int .u8 (x0.toNat : Int), .int .u8 (x1.toNat : Int), .int .u8 (x2.toNat : Int), .int .u8 (x3.toNat : Int)] 32)).heap.size = w7.heap.size + 1 := by simp
  rw [hW7] at B7a s7 Fb42 Fa43 Fo44 Ft45 Fr46 Fc47
  clear B7
  obtain ⟨c0, c1, c2, c3, c4⟩ := BK.five (x0 := o0) (x1 := o1) (x2 := o2) (x3 := o3) (x4 := o4) Fo44
  go_wp2_with fail
  refine (take_goneB w1.heap.size 1 0 o0 o1 o2 o3 o4 _ Fr46 (by decide) p NO.out BO.out).mono ?_
  rintro e w8 ⟨rfl, R8, bb⟩
  have B8 : Below w.heap.size w w8 := B7a.trans (bb.below B7a.size (by omega))
  have Fb48 := Fb42.but bb Fb42.lt (by omega)
  have Fa49 := Fa43.but bb Fa43.lt (by omega)
  have Fo50 := Fo44.but bb Fo44.lt (by omega)
  have Ft51 := Ft45.but bb Ft45.lt (by omega)
  have Fc52 := Fc47.but bb Fc47.lt (by omega)
  clear Fb42 Fa43 Fo44 Ft45 Fc47
  clear bb c0 c1 c2 c3 c4 hW7
  have zd : w1.heap.size < w8.heap.size := R8.lt
  obtain ⟨⟨c0, c1, c2, c3⟩, _⟩ := BK.four Fa49
  have zza8 := Fa49.lt
  have Fb53 := Fb48.alloc (.cells #[.int .u8 0, .int .u8 0, .int .u8 0, .int .u8 0] 32)
  have Fa54 := Fa49.alloc (.cells #[.int .u8 0, .int .u8 0, .int .u8 0, .int .u8 0] 32)
  have Fo55 := Fo50.alloc (.cells #[.int .u8 0, .int .u8 0, .int .u8 0, .int .u8 0] 32)
  have Ft56 := Ft51.alloc (.cells #[.int .u8 0, .int .u8 0, .int .u8 0, .int .u8 0] 32)
  have Fc57 := Fc52.alloc (.cells #[.int .u8 0, .int .u8 0, .int .u8 0, .int .u8 0] 32)
  have Fr58 := R8.alloc (.cells #[.int .u8 0, .int .u8 0, .int .u8 0, .int .u8 0] 32)
  clear Fb48 Fa49 Fo50 Ft51 Fc52 R8
  have Fd59 := bk_new w8 #[.int .u8 0, .int .u8 0, .int .u8 0, .int .u8 0] 32
  have B8a : Below w.heap.size w (w8.alloc (.cells #[.int .u8 0, .int .u8 0, .int .u8 0, .int .u8 0] 32)) := B8.alloc B8.size _
  clear B8
  have s8 : (w8.alloc (.cells #[.int .u8 0, .int .u8 0, .int .u8 0, .int .u8 0] 32)).heap.size = w8.heap.size + 1 := by simp
  go_wp2_with fail
  refine (seal_calls u0 u1 u2 u3 _).mono ?_
  rintro e w9 ⟨rfl, bb⟩
  obtain ⟨cv, hcv⟩ : ∃ cv, chk u0 u1 u2 u3 = cv := ⟨_, rfl⟩
  have SV : Hid (synN [u0, u1, u2, u3, cv] = 0) := by show synN _ = 0; rw [← hcv]; exact syn_chk u0 u1 u2 u3
  rw [hcv]
  clear hcv
  have B9 : Below w.heap.size w w9 := B8a.trans (bb.mono B8a.size)
  clear c0 c1 c2 c3 s8
  have Fb60 := Fb53.below bb Fb53.lt
  have Fa61 := Fa54.below bb Fa54.lt
  have Fo62 := Fo55.below bb Fo55.lt
  have Ft63 := Ft56.below bb Ft56.lt
  have Fc64 := Fc57.below bb Fc57.lt
  have Fr65 := Fr58.below bb Fr58.lt
  have Fd66 := Fd59.below bb Fd59.lt
  clear Fb53 Fa54 Fo55 Ft56 Fc57 Fr58 Fd59
  clear bb
  go_wp2_with fail
  refine (take_right w1.heap.size 1 1 true u0 u1 u2 u3 cv _ Fr65 SV.out).mono ?_
  rintro e w10 ⟨rfl, R10, bb⟩
  have B10 : Below w.heap.size w w10 := B9.trans (bb.below B9.size (by omega))
  have Fb67 := Fb60.but bb Fb60.lt (by omega)
  have Fa68 := Fa61.but bb Fa61.lt (by omega)
  have Fo69 := Fo62.but bb Fo62.lt (by omega)
  have Ft70 := Ft63.but bb Ft63.lt (by omega)
  have Fc71 := Fc64.but bb Fc64.lt (by omega)
  have Fd72 := Fd66.but bb Fd66.lt (by omega)
  clear Fb60 Fa61 Fo62 Ft63 Fc64 Fd66
  clear bb 
  obtain ⟨c0, c1, c2, c3, c4⟩ := BK.five (x0 := t0) (x1 := t1) (x2 := t2) (x3 := t3) (x4 := t4) Ft70
  go_wp2_with fail
  refine (take_right w1.heap.size 1 1 false t0 t1 t2 t3 t4 _ R10 ST.out).mono ?_
  rintro e w11 ⟨rfl, R11, bb⟩
  have B11 : Below w.heap.size w w11 := B10.trans (bb.below B10.size (by omega))
  have Fb73 := Fb67.but bb Fb67.lt (by omega)
  have Fa74 := Fa68.but bb Fa68.lt (by omega)
  have Fo75 := Fo69.but bb Fo69.lt (by omega)
  have Ft76 := Ft70.but bb Ft70.lt (by omega)
  have Fc77 := Fc71.but bb Fc71.lt (by omega)
  have Fd78 := Fd72.but bb Fd72.lt (by omega)
  clear Fb67 Fa68 Fo69 Ft70 Fc71 Fd72
  clear bb c0 c1 c2 c3 c4
  rw [TT.out.1, TT.out.2.1, TT.out.2.2.1, TT.out.2.2.2]
  obtain ⟨W11, hW11⟩ : ∃ W, w11.alloc (.cells #[.int .u8 (x0.toNat : Int), .int .u8 (x1.toNat : Int), .int .u8 (x2.toNat : Int), .int .u8 (x3.toNat : Int)] 32) = W := ⟨_, rfl⟩
  have Fb79 := Fb73.alloc (.cells #[.int .u8 (x0.toNat : Int), .int .u8 (x1.toNat : Int), .int .u8 (x2.toNat : Int), .int .u8 (x3.toNat : Int)] 32)
  have Fa80 := Fa74.alloc (.cells #[.int .u8 (x0.toNat : Int), .int .u8 (x1.toNat : Int), .int .u8 (x2.toNat : Int), .int .u8 (x3.toNat : Int)] 32)
  have Fo81 := Fo75.alloc (.cells #[.int .u8 (x0.toNat : Int), .int .u8 (x1.toNat : Int), .int .u8 (x2.toNat : Int), .int .u8 (x3.toNat : Int)] 32)
  have Ft82 := Ft76.alloc (.cells #[.int .u8 (x0.toNat : Int), .int .u8 (x1.toNat : Int), .int .u8 (x2.toNat : Int), .int .u8 (x3.toNat : Int)] 32)
  have Fc83 := Fc77.alloc (.cells #[.int .u8 (x0.toNat : Int), .int .u8 (x1.toNat : Int), .int .u8 (x2.toNat : Int), .int .u8 (x3.toNat : Int)] 32)
  have Fd84 := Fd78.alloc (.cells #[.int .u8 (x0.toNat : Int), .int .u8 (x1.toNat : Int), .int .u8 (x2.toNat : Int), .int .u8 (x3.toNat : Int)] 32)
  have Fr85 := R11.alloc (.cells #[.int .u8 (x0.toNat : Int), .int .u8 (x1.toNat : Int), .int .u8 (x2.toNat : Int), .int .u8 (x3.toNat : Int)] 32)
  clear Fb73 Fa74 Fo75 Ft76 Fc77 Fd78 R11
  have Fe86 := bk_new w11 #[.int .u8 (x0.toNat : Int), .int .u8 (x1.toNat : Int), .int .u8 (x2.toNat : Int), .int .u8 (x3.toNat : Int)] 32
  have B11a : Below w.heap.size w (w11.alloc (.cells #[.int .u8 (x0.toNat : Int), .int .u8 (x1.toNat : Int), .int .u8 (x2.toNat : Int), .int .u8 (x3.toNat : Int)] 32)) := B11.alloc B11.size _
  have s11 : (w11.alloc (.cells #[.int .u8 (x0.toNat : Int), .int .u8 (x1.toNat : Int), .int .u8 (x2.toNat : Int), .int .u8 (x3.toNat : Int)] 32)).heap.size = w11.heap.size + 1 := by simp
  rw [hW11] at B11a s11 Fb79 Fa80 Fo81 Ft82 Fc83 Fd84 Fr85 Fe86
  clear B11
  obtain ⟨⟨c0, c1, c2, c3⟩, _⟩ := BK.four Fb79
  obtain ⟨⟨d0, d1, d2, d3⟩, _⟩ := BK.four Fc83
  obtain ⟨⟨e0, e1, e2, e3⟩, _⟩ := BK.four Fd84
  obtain ⟨⟨g0, g1, g2, g3⟩, _⟩ := BK.four Fe86
  go_wp2
  go_ret
  exact ⟨rfl, B11a⟩

set_option maxHeartbeats 4000000 in
theorem repairs_other (x0 x1 x2 x3 u0 u1 u2 u3 : UInt8) (i k p q : Nat) (hi : i < 256) (hk : k < 256) (hp : i % 40 = p) (hq : k % 40 = q) (hpq : p ≠ q) (w : World) :
    Calls Try.prog 5 #[.agg #[.int .u8 (x0.toNat : Int), .int .u8 (x1.toNat : Int), .int .u8 (x2.toNat : Int), .int .u8 (x3.toNat : Int)], .agg #[.int .u8 (u0.toNat : Int), .int .u8 (u1.toNat : Int), .int .u8 (u2.toNat : Int), .int .u8 (u3.toNat : Int)], .int .u8 i, .int .u8 k] w fun e w' => e = .returned (.bool true) ∧ Below w.heap.size w w' := by
  have hp40 : p < 40 := by omega
  have hq40 : q < 40 := by omega
  have ip : (i : Int) % 40 = (p : Int) := by omega
  have kq : (k : Int) % 40 = (q : Int) := by omega
  clear hp hq
  have art := fun (w : World) (a : Option Addr) (cap : Nat) => run_arrayAt (P := Try.prog) (w := w) 35 5 5 a 5 cap Try.underlying35 (Nat.le_refl _)
  have eqx := eql_self (x0.toNat : Int) (x1.toNat : Int) (x2.toNat : Int) (x3.toNat : Int)
  have nex := neq_self (x0.toNat : Int) (x1.toNat : Int) (x2.toNat : Int) (x3.toNat : Int)
  have nez := neq_self 0 0 0 0
  have A1 := bk_new w #[.int .u8 (x0.toNat : Int), .int .u8 (x1.toNat : Int), .int .u8 (x2.toNat : Int), .int .u8 (x3.toNat : Int)] 32
  have Fb0 := A1.alloc (.cells #[.int .u8 (u0.toNat : Int), .int .u8 (u1.toNat : Int), .int .u8 (u2.toNat : Int), .int .u8 (u3.toNat : Int)] 32)
  have Fa0 := bk_new (w.alloc (.cells #[.int .u8 (x0.toNat : Int), .int .u8 (x1.toNat : Int), .int .u8 (x2.toNat : Int), .int .u8 (x3.toNat : Int)] 32)) #[.int .u8 (u0.toNat : Int), .int .u8 (u1.toNat : Int), .int .u8 (u2.toNat : Int), .int .u8 (u3.toNat : Int)] 32
  rw [World.size_alloc] at Fa0
  have B0 : Below w.heap.size w ((w.alloc (.cells #[.int .u8 (x0.toNat : Int), .int .u8 (x1.toNat : Int), .int .u8 (x2.toNat : Int), .int .u8 (x3.toNat : Int)] 32)).alloc (.cells #[.int .u8 (u0.toNat : Int), .int .u8 (u1.toNat : Int), .int .u8 (u2.toNat : Int), .int .u8 (u3.toNat : Int)] 32)) := ((Below.refl _ w).alloc (Nat.le_refl _) _).alloc (by simp) _
  obtain ⟨W0, hW0⟩ : ∃ W, (w.alloc (.cells #[.int .u8 (x0.toNat : Int), .int .u8 (x1.toNat : Int), .int .u8 (x2.toNat : Int), .int .u8 (x3.toNat : Int)] 32)).alloc (.cells #[.int .u8 (u0.toNat : Int), .int .u8 (u1.toNat : Int), .int .u8 (u2.toNat : Int), .int .u8 (u3.toNat : Int)] 32) = W := ⟨_, rfl⟩
  rw [hW0] at Fb0 Fa0 B0
  have SC : Hid (synN [x0, x1, x2, x3, chk x0 x1 x2 x3] = 0) := syn_chk x0 x1 x2 x3
  have SU : Hid (synN [u0, u1, u2, u3, chk u0 u1 u2 u3] = 0) := syn_chk u0 u1 u2 u3
  clear A1
  go_enter Try.func5, Try.ntmps5
  go_wp2_with fail
  refine (awake_calls _).mono ?_
  rintro e w1 ⟨rfl, bb⟩
  have B1 : Below w.heap.size w w1 := B0.trans (bb.mono B0.size)
  have Fb1 := Fb0.below bb Fb0.lt
  have Fa2 := Fa0.below bb Fa0.lt
  clear Fb0 Fa0
  have z1 := Fa2.lt
  clear hW0 B0 bb
  obtain ⟨W1, hW1⟩ : ∃ W, w1.alloc (.cells #[.int .i64 0, .int .i64 0, .bool false] 28) = W := ⟨_, rfl⟩
  have Fb3 := Fb1.alloc (.cells #[.int .i64 0, .int .i64 0, .bool false] 28)
  have Fa4 := Fa2.alloc (.cells #[.int .i64 0, .int .i64 0, .bool false] 28)
  clear Fb1 Fa2
  have Fr5 := bk_new w1 #[.int .i64 0, .int .i64 0, .bool false] 28
  have B1a : Below w.heap.size w (w1.alloc (.cells #[.int .i64 0, .int .i64 0, .bool false] 28)) := B1.alloc B1.size _
  have s1 : (w1.alloc (.cells #[.int .i64 0, .int .i64 0, .bool false] 28)).heap.size = w1.heap.size + 1 := by simp
  rw [hW1] at B1a s1 Fb3 Fa4 Fr5
  clear B1
  obtain ⟨⟨c0, c1, c2, c3⟩, _⟩ := BK.four Fb3
  go_wp2_with fail
  refine (seal_calls x0 x1 x2 x3 _).mono ?_
  rintro e w2 ⟨rfl, bb⟩
  generalize chk x0 x1 x2 x3 = ck at *
  have B2 : Below w.heap.size w w2 := B1a.trans (bb.mono B1a.size)
  clear hW1 c0 c1 c2 c3 B1a
  have Fb6 := Fb3.below bb Fb3.lt
  have Fa7 := Fa4.below bb Fa4.lt
  have Fr8 := Fr5.below bb Fr5.lt
  clear Fb3 Fa4 Fr5
  clear bb
  have zr : w1.heap.size < w2.heap.size := (Fr8).lt
  obtain ⟨W2, hW2⟩ : ∃ W, w2.alloc (.cells #[.int .u8 (x0.toNat : Int), .int .u8 (x1.toNat : Int), .int .u8 (x2.toNat : Int), .int .u8 (x3.toNat : Int), .int .u8 (ck.toNat : Int)] 35) = W := ⟨_, rfl⟩
  have Fb9 := Fb6.alloc (.cells #[.int .u8 (x0.toNat : Int), .int .u8 (x1.toNat : Int), .int .u8 (x2.toNat : Int), .int .u8 (x3.toNat : Int), .int .u8 (ck.toNat : Int)] 35)
  have Fa10 := Fa7.alloc (.cells #[.int .u8 (x0.toNat : Int), .int .u8 (x1.toNat : Int), .int .u8 (x2.toNat : Int), .int .u8 (x3.toNat : Int), .int .u8 (ck.toNat : Int)] 35)
  have Fr11 := Fr8.alloc (.cells #[.int .u8 (x0.toNat : Int), .int .u8 (x1.toNat : Int), .int .u8 (x2.toNat : Int), .int .u8 (x3.toNat : Int), .int .u8 (ck.toNat : Int)] 35)
  clear Fb6 Fa7 Fr8
  have Fs12 := bk_new w2 #[.int .u8 (x0.toNat : Int), .int .u8 (x1.toNat : Int), .int .u8 (x2.toNat : Int), .int .u8 (x3.toNat : Int), .int .u8 (ck.toNat : Int)] 35
  have B2a : Below w.heap.size w (w2.alloc (.cells #[.int .u8 (x0.toNat : Int), .int .u8 (x1.toNat : Int), .int .u8 (x2.toNat : Int), .int .u8 (x3.toNat : Int), .int .u8 (ck.toNat : Int)] 35)) := B2.alloc B2.size _
  have s2 : (w2.alloc (.cells #[.int .u8 (x0.toNat : Int), .int .u8 (x1.toNat : Int), .int .u8 (x2.toNat : Int), .int .u8 (x3.toNat : Int), .int .u8 (ck.toNat : Int)] 35)).heap.size = w2.heap.size + 1 := by simp
  rw [hW2] at B2a s2 Fb9 Fa10 Fr11 Fs12
  clear B2
  have I2 := BK.isB (zs := [x0, x1, x2, x3, ck]) Fs12
  obtain ⟨o0, o1, o2, o3, o4, hO⟩ := flip_list5 x0 x1 x2 x3 ck p
  have HO : Hid (flipN [x0, x1, x2, x3, ck] p = [o0, o1, o2, o3, o4]) := hO
  clear hO
  go_wp2_with fail
  refine (flip_calls _ 5 5 [x0, x1, x2, x3, ck] _ I2 (Nat.le_refl _) (by intro h; cases h) (by decide) p (by omega)).mono ?_
  rintro e w3 ⟨ao, co, rfl, oo, bb⟩
  rw [HO.out] at oo
  obtain ⟨go, rfl, e0, e1, e2, e3, e4⟩ := oo.five
  have B3 : Below w.heap.size w w3 := B2a.trans (bb.mono B2a.size)
  clear hW2 I2 oo B2a
  have Fb13 := Fb9.below bb Fb9.lt
  have Fa14 := Fa10.below bb Fa10.lt
  have Fr15 := Fr11.below bb Fr11.lt
  clear Fb9 Fa10 Fr11
  clear bb
  have zo : w1.heap.size < w3.heap.size := (Fr15).lt
  obtain ⟨W3, hW3⟩ : ∃ W, w3.alloc (.cells #[.int .u8 (o0.toNat : Int), .int .u8 (o1.toNat : Int), .int .u8 (o2.toNat : Int), .int .u8 (o3.toNat : Int), .int .u8 (o4.toNat : Int)] 35) = W := ⟨_, rfl⟩
  have Fb16 := Fb13.alloc (.cells #[.int .u8 (o0.toNat : Int), .int .u8 (o1.toNat : Int), .int .u8 (o2.toNat : Int), .int .u8 (o3.toNat : Int), .int .u8 (o4.toNat : Int)] 35)
  have Fa17 := Fa14.alloc (.cells #[.int .u8 (o0.toNat : Int), .int .u8 (o1.toNat : Int), .int .u8 (o2.toNat : Int), .int .u8 (o3.toNat : Int), .int .u8 (o4.toNat : Int)] 35)
  have Fr18 := Fr15.alloc (.cells #[.int .u8 (o0.toNat : Int), .int .u8 (o1.toNat : Int), .int .u8 (o2.toNat : Int), .int .u8 (o3.toNat : Int), .int .u8 (o4.toNat : Int)] 35)
  clear Fb13 Fa14 Fr15
  have Fo19 := bk_new w3 #[.int .u8 (o0.toNat : Int), .int .u8 (o1.toNat : Int), .int .u8 (o2.toNat : Int), .int .u8 (o3.toNat : Int), .int .u8 (o4.toNat : Int)] 35
  have B3a : Below w.heap.size w (w3.alloc (.cells #[.int .u8 (o0.toNat : Int), .int .u8 (o1.toNat : Int), .int .u8 (o2.toNat : Int), .int .u8 (o3.toNat : Int), .int .u8 (o4.toNat : Int)] 35)) := B3.alloc B3.size _
  have s3 : (w3.alloc (.cells #[.int .u8 (o0.toNat : Int), .int .u8 (o1.toNat : Int), .int .u8 (o2.toNat : Int), .int .u8 (o3.toNat : Int), .int .u8 (o4.toNat : Int)] 35)).heap.size = w3.heap.size + 1 := by simp
  rw [hW3] at B3a s3 Fb16 Fa17 Fr18 Fo19
  clear B3
  have I3 := BK.isB (zs := [o0, o1, o2, o3, o4]) Fo19
  obtain ⟨t0, t1, t2, t3, t4, hT⟩ := flip_list5 o0 o1 o2 o3 o4 q
  have HT : Hid (flipN [o0, o1, o2, o3, o4] q = [t0, t1, t2, t3, t4]) := hT
  clear hT
  go_wp2_with fail
  refine (flip_calls _ 5 5 [o0, o1, o2, o3, o4] _ I3 (Nat.le_refl _) (by intro h; cases h) (by decide) q (by omega)).mono ?_
  rintro e w4 ⟨at4, ct, rfl, ot, bb⟩
  rw [HT.out] at ot
  obtain ⟨gt, rfl, f0, f1, f2, f3, f4⟩ := ot.five
  have B4 : Below w.heap.size w w4 := B3a.trans (bb.mono B3a.size)
  clear hW3 I3 ot B3a e0 e1 e2 e3 e4
  have Fb20 := Fb16.below bb Fb16.lt
  have Fa21 := Fa17.below bb Fa17.lt
  have Fr22 := Fr18.below bb Fr18.lt
  have Fo23 := Fo19.below bb Fo19.lt
  clear Fb16 Fa17 Fr18 Fo19
  clear bb
  have zt : w1.heap.size < w4.heap.size := (Fr22).lt
  have zot : w3.heap.size < w4.heap.size := (Fo23).lt
  obtain ⟨W4, hW4⟩ : ∃ W, w4.alloc (.cells #[.int .u8 (t0.toNat : Int), .int .u8 (t1.toNat : Int), .int .u8 (t2.toNat : Int), .int .u8 (t3.toNat : Int), .int .u8 (t4.toNat : Int)] 35) = W := ⟨_, rfl⟩
  have Fb24 := Fb20.alloc (.cells #[.int .u8 (t0.toNat : Int), .int .u8 (t1.toNat : Int), .int .u8 (t2.toNat : Int), .int .u8 (t3.toNat : Int), .int .u8 (t4.toNat : Int)] 35)
  have Fa25 := Fa21.alloc (.cells #[.int .u8 (t0.toNat : Int), .int .u8 (t1.toNat : Int), .int .u8 (t2.toNat : Int), .int .u8 (t3.toNat : Int), .int .u8 (t4.toNat : Int)] 35)
  have Fr26 := Fr22.alloc (.cells #[.int .u8 (t0.toNat : Int), .int .u8 (t1.toNat : Int), .int .u8 (t2.toNat : Int), .int .u8 (t3.toNat : Int), .int .u8 (t4.toNat : Int)] 35)
  have Fo27 := Fo23.alloc (.cells #[.int .u8 (t0.toNat : Int), .int .u8 (t1.toNat : Int), .int .u8 (t2.toNat : Int), .int .u8 (t3.toNat : Int), .int .u8 (t4.toNat : Int)] 35)
  clear Fb20 Fa21 Fr22 Fo23
  have Ft28 := bk_new w4 #[.int .u8 (t0.toNat : Int), .int .u8 (t1.toNat : Int), .int .u8 (t2.toNat : Int), .int .u8 (t3.toNat : Int), .int .u8 (t4.toNat : Int)] 35
  have B4a : Below w.heap.size w (w4.alloc (.cells #[.int .u8 (t0.toNat : Int), .int .u8 (t1.toNat : Int), .int .u8 (t2.toNat : Int), .int .u8 (t3.toNat : Int), .int .u8 (t4.toNat : Int)] 35)) := B4.alloc B4.size _
  have s4 : (w4.alloc (.cells #[.int .u8 (t0.toNat : Int), .int .u8 (t1.toNat : Int), .int .u8 (t2.toNat : Int), .int .u8 (t3.toNat : Int), .int .u8 (t4.toNat : Int)] 35)).heap.size = w4.heap.size + 1 := by simp
  rw [hW4] at B4a s4 Fb24 Fa25 Fr26 Fo27 Ft28
  clear B4
  have so : synN [o0, o1, o2, o3, o4] = synN (dam p) := by rw [← HO.out, syn_flip _ _ _ _ _ _ hp40, SC.out, Nat.zero_xor]
  have bo : bitN (synN [o0, o1, o2, o3, o4]) = some p := by rw [so]; exact bitN_dam p hp40
  have no : synN [o0, o1, o2, o3, o4] ≠ 0 := by
    intro h
    rw [h] at bo
    have : bitN 0 = none := by kernel_rfl
    rw [this] at bo
    cases bo
  have BO : Hid (bitN (synN [o0, o1, o2, o3, o4]) = some p) := bo
  have NO : Hid (synN [o0, o1, o2, o3, o4] ≠ 0) := no
  have fo : (flipN [o0, o1, o2, o3, o4] p).take 4 = [x0, x1, x2, x3] := by rw [← HO.out, flip_back _ _ _ _ _ _ hp40]; rfl
  have FO : Hid ((flipN [o0, o1, o2, o3, o4] p).take 4 = [x0, x1, x2, x3]) := fo
  have st : synN [t0, t1, t2, t3, t4] = synN (dam p) ^^^ synN (dam q) := by rw [← HT.out, syn_flip _ _ _ _ _ _ hq40, so]
  have bt : bitN (synN [t0, t1, t2, t3, t4]) = none := by rw [st]; exact two_none p q hp40 hq40 hpq
  have nt : synN [t0, t1, t2, t3, t4] ≠ 0 := by
    rw [st]
    exact fun h => hpq (dam_inj p q hp40 hq40 (by have := xor_twice (synN (dam p)) (synN (dam q)); rw [h, Nat.zero_xor] at this; exact this.symm))
  have BT : Hid (bitN (synN [t0, t1, t2, t3, t4]) = none) := bt
  have NT : Hid (synN [t0, t1, t2, t3, t4] ≠ 0) := nt
  have pq : ((p : Int) == (q : Int)) = false := beq_eq_false_iff_ne.2 (by omega)
  clear so bo no fo st bt nt HO HT SC hpq
  obtain ⟨⟨c0, c1, c2, c3⟩, _⟩ := BK.four Fa25
  go_wp2_with fail
  refine (seal_calls u0 u1 u2 u3 _).mono ?_
  rintro e w5 ⟨rfl, bb⟩
  obtain ⟨cu, hcu⟩ : ∃ cu, chk u0 u1 u2 u3 = cu := ⟨_, rfl⟩
  rw [hcu] at SU ⊢
  clear hcu
  have B5 : Below w.heap.size w w5 := B4a.trans (bb.mono B4a.size)
  clear hW4 B4a c0 c1 c2 c3 f0 f1 f2 f3 f4
  have Fb29 := Fb24.below bb Fb24.lt
  have Fa30 := Fa25.below bb Fa25.lt
  have Fr31 := Fr26.below bb Fr26.lt
  have Fo32 := Fo27.below bb Fo27.lt
  have Ft33 := Ft28.below bb Ft28.lt
  clear Fb24 Fa25 Fr26 Fo27 Ft28
  clear bb
  go_wp2_with fail
  refine (take_right w1.heap.size 0 0 false u0 u1 u2 u3 cu _ Fr31 SU.out).mono ?_
  rintro e w6 ⟨rfl, R6, bb⟩
  have B6 : Below w.heap.size w w6 := B5.trans (bb.below B5.size (by omega))
  have Fb34 := Fb29.but bb Fb29.lt (by omega)
  have Fa35 := Fa30.but bb Fa30.lt (by omega)
  have Fo36 := Fo32.but bb Fo32.lt (by omega)
  have Ft37 := Ft33.but bb Ft33.lt (by omega)
  clear Fb29 Fa30 Fo32 Ft33
  clear bb 
  obtain ⟨c0, c1, c2, c3, c4⟩ := BK.five (x0 := o0) (x1 := o1) (x2 := o2) (x3 := o3) (x4 := o4) Fo36
  go_wp2_with fail
  refine (take_fixed w1.heap.size 0 0 o0 o1 o2 o3 o4 _ R6 (by decide) p NO.out BO.out).mono ?_
  rintro e w7 ⟨y0, y1, y2, y3, fl, rfl, R7, bb⟩
  have B7 : Below w.heap.size w w7 := B6.trans (bb.below B6.size (by omega))
  have Fb38 := Fb34.but bb Fb34.lt (by omega)
  have Fa39 := Fa35.but bb Fa35.lt (by omega)
  have Fo40 := Fo36.but bb Fo36.lt (by omega)
  have Ft41 := Ft37.but bb Ft37.lt (by omega)
  clear Fb34 Fa35 Fo36 Ft37
  clear bb c0 c1 c2 c3 c4
  rw [FO.out] at fl
  simp only [List.cons.injEq, and_true] at fl
  obtain ⟨rfl, rfl, rfl, rfl⟩ := fl
  have zc : w1.heap.size < w7.heap.size := R7.lt
  obtain ⟨W7, hW7⟩ : ∃ W, w7.alloc (.cells #[.int .u8 (x0.toNat : Int), .int .u8 (x1.toNat : Int), .int .u8 (x2.toNat : Int), .int .u8 (x3.toNat : Int)] 32) = W := ⟨_, rfl⟩
  have Fb42 := Fb38.alloc (.cells #[.int .u8 (x0.toNat : Int), .int .u8 (x1.toNat : Int), .int .u8 (x2.toNat : Int), .int .u8 (x3.toNat : Int)] 32)
  have Fa43 := Fa39.alloc (.cells #[.int .u8 (x0.toNat : Int), .int .u8 (x1.toNat : Int), .int .u8 (x2.toNat : Int), .int .u8 (x3.toNat : Int)] 32)
  have Fo44 := Fo40.alloc (.cells #[.int .u8 (x0.toNat : Int), .int .u8 (x1.toNat : Int), .int .u8 (x2.toNat : Int), .int .u8 (x3.toNat : Int)] 32)
  have Ft45 := Ft41.alloc (.cells #[.int .u8 (x0.toNat : Int), .int .u8 (x1.toNat : Int), .int .u8 (x2.toNat : Int), .int .u8 (x3.toNat : Int)] 32)
  have Fr46 := R7.alloc (.cells #[.int .u8 (x0.toNat : Int), .int .u8 (x1.toNat : Int), .int .u8 (x2.toNat : Int), .int .u8 (x3.toNat : Int)] 32)
  clear Fb38 Fa39 Fo40 Ft41 R7
  have Fc47 := bk_new w7 #[.int .u8 (x0.toNat : Int), .int .u8 (x1.toNat : Int), .int .u8 (x2.toNat : Int), .int .u8 (x3.toNat : Int)] 32
  have B7a : Below w.heap.size w (w7.alloc (.cells #[.int .u8 (x0.toNat : Int), .int .u8 (x1.toNat : Int), .int .u8 (x2.toNat : Int), .int .u8 (x3.toNat : Int)] 32)) := B7.alloc B7.size _
  have s7 : (w7.alloc (.cells #[.int .u8 (x0.toNat : Int), .int .u8 (x1.toNat : Int), .int .u8 (x2.toNat : Int), .int .u8 (x3.toNat : Int)] 32)).heap.size = w7.heap.size + 1 := by simp
  rw [hW7] at B7a s7 Fb42 Fa43 Fo44 Ft45 Fr46 Fc47
  clear B7
  obtain ⟨c0, c1, c2, c3, c4⟩ := BK.five (x0 := o0) (x1 := o1) (x2 := o2) (x3 := o3) (x4 := o4) Fo44
  go_wp2_with fail
  refine (take_goneB w1.heap.size 1 0 o0 o1 o2 o3 o4 _ Fr46 (by decide) p NO.out BO.out).mono ?_
  rintro e w8 ⟨rfl, R8, bb⟩
  have B8 : Below w.heap.size w w8 := B7a.trans (bb.below B7a.size (by omega))
  have Fb48 := Fb42.but bb Fb42.lt (by omega)
  have Fa49 := Fa43.but bb Fa43.lt (by omega)
  have Fo50 := Fo44.but bb Fo44.lt (by omega)
  have Ft51 := Ft45.but bb Ft45.lt (by omega)
  have Fc52 := Fc47.but bb Fc47.lt (by omega)
  clear Fb42 Fa43 Fo44 Ft45 Fc47
  clear bb c0 c1 c2 c3 c4 hW7
  have zd : w1.heap.size < w8.heap.size := R8.lt
  obtain ⟨⟨c0, c1, c2, c3⟩, _⟩ := BK.four Fa49
  have zza8 := Fa49.lt
  have Fb53 := Fb48.alloc (.cells #[.int .u8 0, .int .u8 0, .int .u8 0, .int .u8 0] 32)
  have Fa54 := Fa49.alloc (.cells #[.int .u8 0, .int .u8 0, .int .u8 0, .int .u8 0] 32)
  have Fo55 := Fo50.alloc (.cells #[.int .u8 0, .int .u8 0, .int .u8 0, .int .u8 0] 32)
  have Ft56 := Ft51.alloc (.cells #[.int .u8 0, .int .u8 0, .int .u8 0, .int .u8 0] 32)
  have Fc57 := Fc52.alloc (.cells #[.int .u8 0, .int .u8 0, .int .u8 0, .int .u8 0] 32)
  have Fr58 := R8.alloc (.cells #[.int .u8 0, .int .u8 0, .int .u8 0, .int .u8 0] 32)
  clear Fb48 Fa49 Fo50 Ft51 Fc52 R8
  have Fd59 := bk_new w8 #[.int .u8 0, .int .u8 0, .int .u8 0, .int .u8 0] 32
  have B8a : Below w.heap.size w (w8.alloc (.cells #[.int .u8 0, .int .u8 0, .int .u8 0, .int .u8 0] 32)) := B8.alloc B8.size _
  clear B8
  have s8 : (w8.alloc (.cells #[.int .u8 0, .int .u8 0, .int .u8 0, .int .u8 0] 32)).heap.size = w8.heap.size + 1 := by simp
  go_wp2_with fail
  refine (seal_calls u0 u1 u2 u3 _).mono ?_
  rintro e w9 ⟨rfl, bb⟩
  obtain ⟨cv, hcv⟩ : ∃ cv, chk u0 u1 u2 u3 = cv := ⟨_, rfl⟩
  have SV : Hid (synN [u0, u1, u2, u3, cv] = 0) := by show synN _ = 0; rw [← hcv]; exact syn_chk u0 u1 u2 u3
  rw [hcv]
  clear hcv
  have B9 : Below w.heap.size w w9 := B8a.trans (bb.mono B8a.size)
  clear c0 c1 c2 c3 s8
  have Fb60 := Fb53.below bb Fb53.lt
  have Fa61 := Fa54.below bb Fa54.lt
  have Fo62 := Fo55.below bb Fo55.lt
  have Ft63 := Ft56.below bb Ft56.lt
  have Fc64 := Fc57.below bb Fc57.lt
  have Fr65 := Fr58.below bb Fr58.lt
  have Fd66 := Fd59.below bb Fd59.lt
  clear Fb53 Fa54 Fo55 Ft56 Fc57 Fr58 Fd59
  clear bb
  go_wp2_with fail
  refine (take_right w1.heap.size 1 1 true u0 u1 u2 u3 cv _ Fr65 SV.out).mono ?_
  rintro e w10 ⟨rfl, R10, bb⟩
  have B10 : Below w.heap.size w w10 := B9.trans (bb.below B9.size (by omega))
  have Fb67 := Fb60.but bb Fb60.lt (by omega)
  have Fa68 := Fa61.but bb Fa61.lt (by omega)
  have Fo69 := Fo62.but bb Fo62.lt (by omega)
  have Ft70 := Ft63.but bb Ft63.lt (by omega)
  have Fc71 := Fc64.but bb Fc64.lt (by omega)
  have Fd72 := Fd66.but bb Fd66.lt (by omega)
  clear Fb60 Fa61 Fo62 Ft63 Fc64 Fd66
  clear bb 
  obtain ⟨c0, c1, c2, c3, c4⟩ := BK.five (x0 := t0) (x1 := t1) (x2 := t2) (x3 := t3) (x4 := t4) Ft70
  go_wp2_with fail
  refine (take_goneA w1.heap.size 1 1 false t0 t1 t2 t3 t4 _ R10 (by decide) NT.out BT.out).mono ?_
  rintro e w11 ⟨rfl, R11, bb⟩
  have B11 : Below w.heap.size w w11 := B10.trans (bb.below B10.size (by omega))
  have Fb73 := Fb67.but bb Fb67.lt (by omega)
  have Fa74 := Fa68.but bb Fa68.lt (by omega)
  have Fo75 := Fo69.but bb Fo69.lt (by omega)
  have Ft76 := Ft70.but bb Ft70.lt (by omega)
  have Fc77 := Fc71.but bb Fc71.lt (by omega)
  have Fd78 := Fd72.but bb Fd72.lt (by omega)
  clear Fb67 Fa68 Fo69 Ft70 Fc71 Fd72
  clear bb c0 c1 c2 c3 c4
  obtain ⟨⟨c0, c1, c2, c3⟩, _⟩ := BK.four Fb73
  have zzb11 := Fb73.lt
  obtain ⟨⟨d0, d1, d2, d3⟩, _⟩ := BK.four Fc77
  have zzc11 := Fc77.lt
  obtain ⟨⟨e0, e1, e2, e3⟩, _⟩ := BK.four Fd78
  have zzd11 := Fd78.lt
  have Fb79 := Fb73.alloc (.cells #[.int .u8 0, .int .u8 0, .int .u8 0, .int .u8 0] 32)
  have Fa80 := Fa74.alloc (.cells #[.int .u8 0, .int .u8 0, .int .u8 0, .int .u8 0] 32)
  have Fo81 := Fo75.alloc (.cells #[.int .u8 0, .int .u8 0, .int .u8 0, .int .u8 0] 32)
  have Ft82 := Ft76.alloc (.cells #[.int .u8 0, .int .u8 0, .int .u8 0, .int .u8 0] 32)
  have Fc83 := Fc77.alloc (.cells #[.int .u8 0, .int .u8 0, .int .u8 0, .int .u8 0] 32)
  have Fd84 := Fd78.alloc (.cells #[.int .u8 0, .int .u8 0, .int .u8 0, .int .u8 0] 32)
  have Fr85 := R11.alloc (.cells #[.int .u8 0, .int .u8 0, .int .u8 0, .int .u8 0] 32)
  clear Fb73 Fa74 Fo75 Ft76 Fc77 Fd78 R11
  have Fe86 := bk_new w11 #[.int .u8 0, .int .u8 0, .int .u8 0, .int .u8 0] 32
  have B11a : Below w.heap.size w (w11.alloc (.cells #[.int .u8 0, .int .u8 0, .int .u8 0, .int .u8 0] 32)) := B11.alloc B11.size _
  clear B11
  have s11 : (w11.alloc (.cells #[.int .u8 0, .int .u8 0, .int .u8 0, .int .u8 0] 32)).heap.size = w11.heap.size + 1 := by simp
  go_wp2_with fail
  refine (dropped_calls w1.heap.size 1 2 true _ Fr85).mono ?_
  rintro e w12 ⟨rfl, rfl⟩
  go_wp2_with fail
  refine (repaired_calls w1.heap.size 1 2 true _ Fr85).mono ?_
  rintro e w13 ⟨rfl, rfl⟩
  go_wp2
  go_ret
  exact ⟨rfl, B11a⟩

theorem repairs_walk (x0 x1 x2 x3 u0 u1 u2 u3 : UInt8) (i k : Nat) (hi : i < 256) (hk : k < 256) (w : World) :
    Calls Try.prog 5 #[.agg #[.int .u8 (x0.toNat : Int), .int .u8 (x1.toNat : Int), .int .u8 (x2.toNat : Int), .int .u8 (x3.toNat : Int)], .agg #[.int .u8 (u0.toNat : Int), .int .u8 (u1.toNat : Int), .int .u8 (u2.toNat : Int), .int .u8 (u3.toNat : Int)], .int .u8 i, .int .u8 k] w fun e w' => e = .returned (.bool true) ∧ Below w.heap.size w w' := by
  by_cases h : i % 40 = k % 40
  · exact repairs_same x0 x1 x2 x3 u0 u1 u2 u3 i k _ _ hi hk rfl rfl h w
  · exact repairs_other x0 x1 x2 x3 u0 u1 u2 u3 i k _ _ hi hk rfl rfl h w
end Go.Proofs.Ytcehhldeocpanaa
