/- Proved here: the walk of HeaderBack. Conditions: as each theorem states them. -/
import Derived.Test.YtehkcdnblhfnaaaDoorSidesW
import Derived.Test.YtehkcdnblhfnaaaDoorShortW
namespace Go.Proofs.YtehkcdnblhfnaaaDoor
open Go.RowKit

/-- A header's five cells. -/
def HC (w : World) (b : Nat) (g p v t c : Int) : Prop :=
  w.cell? ⟨b, 0, none⟩ = some (.int .i64 g) ∧ w.cell? ⟨b, 1, none⟩ = some (.int .i64 p) ∧ w.cell? ⟨b, 2, none⟩ = some (.int .i64 v) ∧ w.cell? ⟨b, 3, none⟩ = some (.int .i64 t) ∧ w.cell? ⟨b, 4, none⟩ = some (.int .i64 c)
theorem HC.below {w w' : World} {b n : Nat} {g p v t c : Int} (h : HC w b g p v t c) (hb : Below n w w') (hn : b < n) : HC w' b g p v t c := cells_later hb hn h
theorem hc_new (w : World) (g p v t c : Int) (ty : TypeId) : HC (w.alloc (.cells #[.int .i64 g, .int .i64 p, .int .i64 v, .int .i64 t, .int .i64 c] ty)) w.heap.size g p v t c :=
  ⟨cell_new_any w _ ty (0, 0) 0 _ rfl, cell_new_any w _ ty (0, 0) 1 _ rfl, cell_new_any w _ ty (0, 0) 2 _ rfl, cell_new_any w _ ty (0, 0) 3 _ rfl, cell_new_any w _ ty (0, 0) 4 _ rfl⟩
/-- Unpack of what Pack wrote. -/
theorem unpack_packed (nni : Bool) (g p v t c : Int) (a : Option Addr) (cap : Nat) (w : World) (tab : Tab w) (h : rightB nni g p v t c = true) (hI : IsB w.heap.size w a 4 (bytesN (word g p v t c).toNat)) :
    Calls Tryd.prog 11 #[.slice a 4 cap, .bool nni] w fun e w' => e = .returned (.tuple #[.agg #[.int .i64 g, .int .i64 p, .int .i64 v, .int .i64 t, .int .i64 c], .int .i64 0]) ∧ Below w.heap.size w w' := by
  have hw := word_lt h
  have hn : word g p v t c = ((word g p v t c).toNat : Int) := by omega
  obtain ⟨n, hnn⟩ : ∃ n, (word g p v t c).toNat = n := ⟨_, rfl⟩
  rw [hnn] at hn hI
  obtain ⟨e0, e1, e2, e3, e4⟩ := of_word h hn
  refine (unpack_four nni a cap _ _ _ _ w hI (Nat.le_refl _) tab).mono ?_
  rintro e w1 ⟨rfl, b1⟩
  rw [numN_bytes n (by omega), e0, e1, e2, e3, e4]
  exact ⟨rfl, b1⟩

set_option maxHeartbeats 2000000 in
theorem back_walk (g p v t c : Int) (x0 x1 x2 x3 : UInt8) (nni : Bool) (w : World) (tab : Tab w) :
    Calls Tryd.prog 4 #[.agg #[.int .i64 g, .int .i64 p, .int .i64 v, .int .i64 t, .int .i64 c], .agg #[.int .u8 (x0.toNat : Int), .int .u8 (x1.toNat : Int), .int .u8 (x2.toNat : Int), .int .u8 (x3.toNat : Int)], .bool nni] w fun e w' => e = .returned (.bool true) ∧ Below w.heap.size w w' := by
  have A0 : Below w.heap.size w (w.alloc (.cells #[.int .i64 g, .int .i64 p, .int .i64 v, .int .i64 t, .int .i64 c] 23)) := (Below.refl _ w).alloc (Nat.le_refl _) _
  have A1 : Below w.heap.size w ((w.alloc (.cells #[.int .i64 g, .int .i64 p, .int .i64 v, .int .i64 t, .int .i64 c] 23)).alloc (.cells #[.int .u8 (x0.toNat : Int), .int .u8 (x1.toNat : Int), .int .u8 (x2.toNat : Int), .int .u8 (x3.toNat : Int)] 38)) := A0.alloc (by simp) _
  have A01 : Below (w.heap.size + 1) (w.alloc (.cells #[.int .i64 g, .int .i64 p, .int .i64 v, .int .i64 t, .int .i64 c] 23)) ((w.alloc (.cells #[.int .i64 g, .int .i64 p, .int .i64 v, .int .i64 t, .int .i64 c] 23)).alloc (.cells #[.int .u8 (x0.toNat : Int), .int .u8 (x1.toNat : Int), .int .u8 (x2.toNat : Int), .int .u8 (x3.toNat : Int)] 38)) := (Below.refl _ _).alloc (by simp) _
  have H0 : HC ((w.alloc (.cells #[.int .i64 g, .int .i64 p, .int .i64 v, .int .i64 t, .int .i64 c] 23)).alloc (.cells #[.int .u8 (x0.toNat : Int), .int .u8 (x1.toNat : Int), .int .u8 (x2.toNat : Int), .int .u8 (x3.toNat : Int)] 38)) w.heap.size g p v t c := (hc_new w g p v t c 23).below A01 (by omega)
  have I0 : IsB (w.heap.size + 2) ((w.alloc (.cells #[.int .i64 g, .int .i64 p, .int .i64 v, .int .i64 t, .int .i64 c] 23)).alloc (.cells #[.int .u8 (x0.toNat : Int), .int .u8 (x1.toNat : Int), .int .u8 (x2.toNat : Int), .int .u8 (x3.toNat : Int)] 38)) (some ⟨w.heap.size + 1, 0, none⟩) 4 [x0, x1, x2, x3] := by
    have e := isB_new (w.alloc (.cells #[.int .i64 g, .int .i64 p, .int .i64 v, .int .i64 t, .int .i64 c] 23)) [x0, x1, x2, x3] 38 (0, 0)
    rw [World.size_alloc] at e
    exact e
  obtain ⟨n, hn⟩ : ∃ n, numN x0 x1 x2 x3 = n := ⟨_, rfl⟩
  have hlt : n < 4294967296 := by rw [← hn]; exact numN_lt _ _ _ _
  have HB : Hid (bytesN n = [x0, x1, x2, x3]) := by show bytesN n = [x0, x1, x2, x3]; rw [← hn]; exact bytesN_num _ _ _ _
  have rx := right_of nni n hlt
  have wx := word_of nni n hlt
  obtain ⟨g1, eg⟩ : ∃ g1, dG nni n = g1 := ⟨_, rfl⟩
  obtain ⟨p1, ep⟩ : ∃ p1, dP nni n = p1 := ⟨_, rfl⟩
  obtain ⟨v1, ev⟩ : ∃ v1, dV n = v1 := ⟨_, rfl⟩
  obtain ⟨t1, et⟩ : ∃ t1, dT n = t1 := ⟨_, rfl⟩
  obtain ⟨c1, ec⟩ : ∃ c1, dC n = c1 := ⟨_, rfl⟩
  rw [eg, ep, ev, et, ec] at rx wx
  have RX : Hid (rightB nni g1 p1 v1 t1 c1 = true) := rx
  have WX : Hid (word g1 p1 v1 t1 c1 = (n : Int)) := wx
  have EQ : Hid (dG nni (numN x0 x1 x2 x3) = g1 ∧ dP nni (numN x0 x1 x2 x3) = p1 ∧ dV (numN x0 x1 x2 x3) = v1 ∧ dT (numN x0 x1 x2 x3) = t1 ∧ dC (numN x0 x1 x2 x3) = c1) := by
    show _ ∧ _ ∧ _ ∧ _ ∧ _
    rw [hn]; exact ⟨eg, ep, ev, et, ec⟩
  clear hn eg ep ev et ec rx wx
  go_enter Tryd.func4, Tryd.ntmps4
  go_wp2_with fail
  refine (awake_calls _ (tab.below A1 tab.1)).mono ?_
  rintro e w1 ⟨rfl, b1⟩
  have B1 := A1.trans (b1.mono (by simp; omega))
  have H1 : Hid (HC w1 w.heap.size g p v t c) := H0.below b1 (by simp; omega)
  have I1 := I0.below b1 (by simp)
  have z1 : w.heap.size + 2 ≤ w1.heap.size := by have := b1.size; simp at this; omega
  clear b1 H0 I0 A0 A1 A01
  go_wp2_with fail
  refine (unpack_four nni _ _ x0 x1 x2 x3 _ I1 z1 (tab.below B1 tab.1)).mono ?_
  rintro e w2 ⟨rfl, b2⟩
  rw [EQ.out.1, EQ.out.2.1, EQ.out.2.2.1, EQ.out.2.2.2.1, EQ.out.2.2.2.2]
  have b2a : Below w1.heap.size w1 (w2.alloc (.cells #[.int .i64 g1, .int .i64 p1, .int .i64 v1, .int .i64 t1, .int .i64 c1] 23)) := b2.alloc b2.size _
  have B2 : Below w.heap.size w (w2.alloc (.cells #[.int .i64 g1, .int .i64 p1, .int .i64 v1, .int .i64 t1, .int .i64 c1] 23)) := B1.trans (b2a.mono B1.size)
  have H2 : Hid (HC (w2.alloc (.cells #[.int .i64 g1, .int .i64 p1, .int .i64 v1, .int .i64 t1, .int .i64 c1] 23)) w.heap.size g p v t c) := H1.out.below b2a (by omega)
  have X2 : Hid (HC (w2.alloc (.cells #[.int .i64 g1, .int .i64 p1, .int .i64 v1, .int .i64 t1, .int .i64 c1] 23)) w2.heap.size g1 p1 v1 t1 c1) := hc_new w2 g1 p1 v1 t1 c1 23
  have I2 := I1.below b2a z1
  have z2 : w.heap.size + 2 ≤ w2.heap.size := Nat.le_trans z1 b2.size
  clear b2 b2a H1 I1
  go_wp2_with fail
  refine (pack_yes nni g1 p1 v1 t1 c1 n _ (tab.below B2 tab.1) RX.out WX.out).mono ?_
  rintro e w3 ⟨a3, rfl, I3, b3⟩
  have B3 := B2.trans (b3.mono (by simp; omega))
  have H3 : Hid (HC w3 w.heap.size g p v t c) := H2.out.below b3 (by simp; omega)
  have X3 : Hid (HC w3 w2.heap.size g1 p1 v1 t1 c1) := X2.out.below b3 (by simp)
  have J3 := I2.below b3 (by simp; omega)
  have z3 : w2.heap.size + 1 ≤ w3.heap.size := by have := b3.size; simp at this; omega
  clear b3 H2 X2 I2
  obtain ⟨k0, k1, k2, k3, k4⟩ := H3.out
  go_wp2_with fail
  refine (pack_any nni g p v t c _ (tab.below B3 tab.1)).mono ?_
  rintro e w4 ⟨a4, n4, cp4, er4, rfl, h4, b4⟩
  have B4 := B3.trans (b4.mono B3.size)
  have H4 : Hid (HC w4 w.heap.size g p v t c) := H3.out.below b4 (by omega)
  have X4 : Hid (HC w4 w2.heap.size g1 p1 v1 t1 c1) := X3.out.below b4 (by omega)
  have J4 := J3.below b4 (by omega)
  have I4 := I3.below b4 (Nat.le_refl _)
  have z4 : w3.heap.size ≤ w4.heap.size := b4.size
  have K4 : Hid ((rightB nni g p v t c = true ∧ n4 = 4 ∧ er4 = 0 ∧ IsB w4.heap.size w4 a4 n4 (bytesN (word g p v t c).toNat)) ∨ (rightB nni g p v t c = false ∧ n4 = 0 ∧ er4 = 1 ∧ IsB w4.heap.size w4 a4 n4 [])) := h4
  clear b4 H3 X3 J3 I3 k0 k1 k2 k3 k4 h4
  go_wp2_with fail
  refine (same_calls _ _ _ _ _ _ (bytesN n) [x0, x1, x2, x3] _ I4 J4 z4 (by omega) (by decide)).mono ?_
  rintro e w5 ⟨rfl, b5⟩
  rw [HB.out, beq_self_eq_true]
  have B5 := B4.trans (b5.mono B4.size)
  have H5 : Hid (HC w5 w.heap.size g p v t c) := H4.out.below b5 (by omega)
  have X5 : Hid (HC w5 w2.heap.size g1 p1 v1 t1 c1) := X4.out.below b5 (by omega)
  have z5 : w4.heap.size ≤ w5.heap.size := b5.size
  clear H4 X4 I4 J4
  obtain ⟨k0, k1, k2, k3, k4⟩ := X5.out
  go_wp2_with fail
  refine (right_calls nni g1 p1 v1 t1 c1 _ (tab.below B5 tab.1)).mono ?_
  rintro e w6 ⟨rfl, b6⟩
  rw [RX.out]
  have B6 := B5.trans (b6.mono B5.size)
  have H6 : Hid (HC w6 w.heap.size g p v t c) := H5.out.below b6 (by omega)
  have b46 : Below w4.heap.size w4 w6 := b5.trans (b6.mono z5)
  clear H5 X5 b5 b6 k0 k1 k2 k3 k4
  have z6 : w.heap.size < w6.heap.size := by have := b46.size; omega
  rcases K4.out with ⟨r4, rfl, rfl, I4⟩ | ⟨r4, rfl, rfl, I4⟩
  · have I6 := (I4.below b46 (Nat.le_refl _)).mono b46.size
    have R4 : Hid (rightB nni g p v t c = true) := r4
    clear K4 I4 r4
    go_wp2_with fail
    refine (unpack_packed nni g p v t c a4 cp4 _ (tab.below B6 tab.1) R4.out I6).mono ?_
    rintro e w7 ⟨rfl, b7⟩
    have B7 := B6.trans (b7.mono B6.size)
    have b7a : Below w6.heap.size w6 (w7.alloc (.cells #[.int .i64 g, .int .i64 p, .int .i64 v, .int .i64 t, .int .i64 c] 23)) := b7.alloc b7.size _
    obtain ⟨k0, k1, k2, k3, k4⟩ := H6.out.below b7 z6
    have z7 : w.heap.size < w7.heap.size := Nat.lt_of_lt_of_le z6 b7.size
    clear b7 b7a H6 I6 b46
    go_wp2
    go_ret
    exact ⟨rfl, B7.alloc B7.size _⟩
  · have R4 : Hid (rightB nni g p v t c = false) := r4
    clear K4 I4 r4
    obtain ⟨k0, k1, k2, k3, k4⟩ := H6.out
    go_wp2_with fail
    refine (right_calls nni g p v t c _ (tab.below B6 tab.1)).mono ?_
    rintro e w7 ⟨rfl, b7⟩
    rw [R4.out]
    go_wp2
    go_ret
    exact ⟨rfl, B6.trans (b7.mono B6.size)⟩
end Go.Proofs.YtehkcdnblhfnaaaDoor
