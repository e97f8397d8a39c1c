/- Proved here: the walk of HeaderUnlike. Conditions: as each theorem states them. -/
import Derived.Test.YtehkcdnblhfnaaaDoorBackW
import Derived.BigQuiet
import Derived.Deep.QuietTactic
import Derived.Deep.RegionHeld
import Derived.Test.YtehkcdnblhfnaaaDoorRefU
import Derived.Test.YtehkcdnblhfnaaaDoorEql
namespace Go.Proofs.YtehkcdnblhfnaaaDoor
open Go.RowKit

theorem word_inj {nni : Bool} {g p v t c g' p' v' t' c' : Int} (h : rightB nni g p v t c = true) (h' : rightB nni g' p' v' t' c' = true) (e : (word g p v t c).toNat = (word g' p' v' t' c').toNat) : g = g' ∧ p = p' ∧ v = v' ∧ t = t' ∧ c = c' := by
  have hw := word_lt h
  have hw' := word_lt h'
  have a := of_word h (n := (word g p v t c).toNat) (by omega)
  have b := of_word h' (n := (word g p v t c).toNat) (by omega)
  exact ⟨a.1.symm.trans b.1, a.2.1.symm.trans b.2.1, a.2.2.1.symm.trans b.2.2.1, a.2.2.2.1.symm.trans b.2.2.2.1, a.2.2.2.2.symm.trans b.2.2.2.2⟩
theorem num_inj {x0 x1 x2 x3 y0 y1 y2 y3 : UInt8} (h : numN x0 x1 x2 x3 = numN y0 y1 y2 y3) : x0 = y0 ∧ x1 = y1 ∧ x2 = y2 ∧ x3 = y3 := by
  have a := bytesN_num x0 x1 x2 x3
  rw [h, bytesN_num] at a
  simp only [List.cons.injEq, and_true] at a
  exact ⟨a.1.symm, a.2.1.symm, a.2.2.1.symm, a.2.2.2.symm⟩
theorem hdr_inj {nni : Bool} {m n : Nat} (hm : m < 4294967296) (hn : n < 4294967296) (h : dG nni m = dG nni n ∧ dP nni m = dP nni n ∧ dV m = dV n ∧ dT m = dT n ∧ dC m = dC n) : m = n := by
  have a := word_of nni m hm
  have b := word_of nni n hn
  rw [h.1, h.2.1, h.2.2.1, h.2.2.2.1, h.2.2.2.2, b] at a
  omega

/-- Four bytes' cells. -/
def BC (w : World) (b : Nat) (x0 x1 x2 x3 : UInt8) : Prop :=
  w.cell? ⟨b, 0, none⟩ = some (.int .u8 (x0.toNat : Int)) ∧ w.cell? ⟨b, 1, none⟩ = some (.int .u8 (x1.toNat : Int)) ∧ w.cell? ⟨b, 2, none⟩ = some (.int .u8 (x2.toNat : Int)) ∧ w.cell? ⟨b, 3, none⟩ = some (.int .u8 (x3.toNat : Int))
theorem BC.below {w w' : World} {b n : Nat} {x0 x1 x2 x3 : UInt8} (h : BC w b x0 x1 x2 x3) (hb : Below n w w') (hn : b < n) : BC w' b x0 x1 x2 x3 := by
  have hc : ∀ k, w'.cell? ⟨b, k, none⟩ = w.cell? ⟨b, k, none⟩ := fun k => hb.cell (p := ⟨b, k, none⟩) hn
  exact ⟨(hc 0).trans h.1, (hc 1).trans h.2.1, (hc 2).trans h.2.2.1, (hc 3).trans h.2.2.2⟩
theorem bc_new (w : World) (x0 x1 x2 x3 : UInt8) (ty : TypeId) : BC (w.alloc (.cells #[.int .u8 (x0.toNat : Int), .int .u8 (x1.toNat : Int), .int .u8 (x2.toNat : Int), .int .u8 (x3.toNat : Int)] ty)) w.heap.size x0 x1 x2 x3 :=
  ⟨cell_new_any w _ ty (0, 0) 0 _ rfl, cell_new_any w _ ty (0, 0) 1 _ rfl, cell_new_any w _ ty (0, 0) 2 _ rfl, cell_new_any w _ ty (0, 0) 3 _ rfl⟩
theorem BC.isB {w : World} {b n : Nat} {x0 x1 x2 x3 : UInt8} (h : BC w b x0 x1 x2 x3) (hn : b < n) : IsB n w (some ⟨b, 0, none⟩) 4 [x0, x1, x2, x3] := by
  refine ⟨rfl, .inr ⟨b, 0, rfl, hn, fun j x hx => ?_⟩⟩
  rw [Nat.zero_add]
  match j, hx with
  | 0, hx => cases hx; exact h.1
  | 1, hx => cases hx; exact h.2.1
  | 2, hx => cases hx; exact h.2.2.1
  | 3, hx => cases hx; exact h.2.2.2
  | _ + 4, hx => simp at hx

set_option maxHeartbeats 2000000 in
theorem unlike_walk (g p v t c g2 p2 v2 t2 c2 : Int) (x0 x1 x2 x3 y0 y1 y2 y3 : UInt8) (nni : Bool) (w : World) (tab : Tab w) :
    Calls Tryd.prog 8 #[.agg #[.int .i64 g, .int .i64 p, .int .i64 v, .int .i64 t, .int .i64 c], .agg #[.int .i64 g2, .int .i64 p2, .int .i64 v2, .int .i64 t2, .int .i64 c2], .agg #[.int .u8 (x0.toNat : Int), .int .u8 (x1.toNat : Int), .int .u8 (x2.toNat : Int), .int .u8 (x3.toNat : Int)], .agg #[.int .u8 (y0.toNat : Int), .int .u8 (y1.toNat : Int), .int .u8 (y2.toNat : Int), .int .u8 (y3.toNat : Int)], .bool nni] w fun e w' => e = .returned (.bool true) ∧ Below w.heap.size w w' := by
  have A1 : Below (w.heap.size + 1) (w.alloc (.cells #[.int .i64 g, .int .i64 p, .int .i64 v, .int .i64 t, .int .i64 c] 23)) ((((w.alloc (.cells #[.int .i64 g, .int .i64 p, .int .i64 v, .int .i64 t, .int .i64 c] 23)).alloc (.cells #[.int .i64 g2, .int .i64 p2, .int .i64 v2, .int .i64 t2, .int .i64 c2] 23)).alloc (.cells #[.int .u8 (x0.toNat : Int), .int .u8 (x1.toNat : Int), .int .u8 (x2.toNat : Int), .int .u8 (x3.toNat : Int)] 38)).alloc (.cells #[.int .u8 (y0.toNat : Int), .int .u8 (y1.toNat : Int), .int .u8 (y2.toNat : Int), .int .u8 (y3.toNat : Int)] 38)) := (((Below.refl _ _).alloc (by simp) _).alloc (by simp) _).alloc (by simp) _
  have A2 : Below (w.heap.size + 2) ((w.alloc (.cells #[.int .i64 g, .int .i64 p, .int .i64 v, .int .i64 t, .int .i64 c] 23)).alloc (.cells #[.int .i64 g2, .int .i64 p2, .int .i64 v2, .int .i64 t2, .int .i64 c2] 23)) ((((w.alloc (.cells #[.int .i64 g, .int .i64 p, .int .i64 v, .int .i64 t, .int .i64 c] 23)).alloc (.cells #[.int .i64 g2, .int .i64 p2, .int .i64 v2, .int .i64 t2, .int .i64 c2] 23)).alloc (.cells #[.int .u8 (x0.toNat : Int), .int .u8 (x1.toNat : Int), .int .u8 (x2.toNat : Int), .int .u8 (x3.toNat : Int)] 38)).alloc (.cells #[.int .u8 (y0.toNat : Int), .int .u8 (y1.toNat : Int), .int .u8 (y2.toNat : Int), .int .u8 (y3.toNat : Int)] 38)) := ((Below.refl _ _).alloc (by simp) _).alloc (by simp) _
  have A3 : Below (w.heap.size + 3) (((w.alloc (.cells #[.int .i64 g, .int .i64 p, .int .i64 v, .int .i64 t, .int .i64 c] 23)).alloc (.cells #[.int .i64 g2, .int .i64 p2, .int .i64 v2, .int .i64 t2, .int .i64 c2] 23)).alloc (.cells #[.int .u8 (x0.toNat : Int), .int .u8 (x1.toNat : Int), .int .u8 (x2.toNat : Int), .int .u8 (x3.toNat : Int)] 38)) ((((w.alloc (.cells #[.int .i64 g, .int .i64 p, .int .i64 v, .int .i64 t, .int .i64 c] 23)).alloc (.cells #[.int .i64 g2, .int .i64 p2, .int .i64 v2, .int .i64 t2, .int .i64 c2] 23)).alloc (.cells #[.int .u8 (x0.toNat : Int), .int .u8 (x1.toNat : Int), .int .u8 (x2.toNat : Int), .int .u8 (x3.toNat : Int)] 38)).alloc (.cells #[.int .u8 (y0.toNat : Int), .int .u8 (y1.toNat : Int), .int .u8 (y2.toNat : Int), .int .u8 (y3.toNat : Int)] 38)) := (Below.refl _ _).alloc (by simp) _
  have A0 : Below w.heap.size w ((((w.alloc (.cells #[.int .i64 g, .int .i64 p, .int .i64 v, .int .i64 t, .int .i64 c] 23)).alloc (.cells #[.int .i64 g2, .int .i64 p2, .int .i64 v2, .int .i64 t2, .int .i64 c2] 23)).alloc (.cells #[.int .u8 (x0.toNat : Int), .int .u8 (x1.toNat : Int), .int .u8 (x2.toNat : Int), .int .u8 (x3.toNat : Int)] 38)).alloc (.cells #[.int .u8 (y0.toNat : Int), .int .u8 (y1.toNat : Int), .int .u8 (y2.toNat : Int), .int .u8 (y3.toNat : Int)] 38)) := ((Below.refl _ w).alloc (Nat.le_refl _) _).trans (A1.mono (by omega))
  have H0 : HC ((((w.alloc (.cells #[.int .i64 g, .int .i64 p, .int .i64 v, .int .i64 t, .int .i64 c] 23)).alloc (.cells #[.int .i64 g2, .int .i64 p2, .int .i64 v2, .int .i64 t2, .int .i64 c2] 23)).alloc (.cells #[.int .u8 (x0.toNat : Int), .int .u8 (x1.toNat : Int), .int .u8 (x2.toNat : Int), .int .u8 (x3.toNat : Int)] 38)).alloc (.cells #[.int .u8 (y0.toNat : Int), .int .u8 (y1.toNat : Int), .int .u8 (y2.toNat : Int), .int .u8 (y3.toNat : Int)] 38)) w.heap.size g p v t c := (hc_new w g p v t c 23).below A1 (by omega)
  have G0 : HC ((((w.alloc (.cells #[.int .i64 g, .int .i64 p, .int .i64 v, .int .i64 t, .int .i64 c] 23)).alloc (.cells #[.int .i64 g2, .int .i64 p2, .int .i64 v2, .int .i64 t2, .int .i64 c2] 23)).alloc (.cells #[.int .u8 (x0.toNat : Int), .int .u8 (x1.toNat : Int), .int .u8 (x2.toNat : Int), .int .u8 (x3.toNat : Int)] 38)).alloc (.cells #[.int .u8 (y0.toNat : Int), .int .u8 (y1.toNat : Int), .int .u8 (y2.toNat : Int), .int .u8 (y3.toNat : Int)] 38)) (w.heap.size + 1) g2 p2 v2 t2 c2 := by
    have e := hc_new (w.alloc (.cells #[.int .i64 g, .int .i64 p, .int .i64 v, .int .i64 t, .int .i64 c] 23)) g2 p2 v2 t2 c2 23
    rw [World.size_alloc] at e
    exact e.below A2 (by omega)
  have X0 : BC ((((w.alloc (.cells #[.int .i64 g, .int .i64 p, .int .i64 v, .int .i64 t, .int .i64 c] 23)).alloc (.cells #[.int .i64 g2, .int .i64 p2, .int .i64 v2, .int .i64 t2, .int .i64 c2] 23)).alloc (.cells #[.int .u8 (x0.toNat : Int), .int .u8 (x1.toNat : Int), .int .u8 (x2.toNat : Int), .int .u8 (x3.toNat : Int)] 38)).alloc (.cells #[.int .u8 (y0.toNat : Int), .int .u8 (y1.toNat : Int), .int .u8 (y2.toNat : Int), .int .u8 (y3.toNat : Int)] 38)) (w.heap.size + 1 + 1) x0 x1 x2 x3 := by
    have e := bc_new ((w.alloc (.cells #[.int .i64 g, .int .i64 p, .int .i64 v, .int .i64 t, .int .i64 c] 23)).alloc (.cells #[.int .i64 g2, .int .i64 p2, .int .i64 v2, .int .i64 t2, .int .i64 c2] 23)) x0 x1 x2 x3 38
    rw [World.size_alloc, World.size_alloc] at e
    exact e.below A3 (by omega)
  have Y0 : BC ((((w.alloc (.cells #[.int .i64 g, .int .i64 p, .int .i64 v, .int .i64 t, .int .i64 c] 23)).alloc (.cells #[.int .i64 g2, .int .i64 p2, .int .i64 v2, .int .i64 t2, .int .i64 c2] 23)).alloc (.cells #[.int .u8 (x0.toNat : Int), .int .u8 (x1.toNat : Int), .int .u8 (x2.toNat : Int), .int .u8 (x3.toNat : Int)] 38)).alloc (.cells #[.int .u8 (y0.toNat : Int), .int .u8 (y1.toNat : Int), .int .u8 (y2.toNat : Int), .int .u8 (y3.toNat : Int)] 38)) (w.heap.size + 1 + 1 + 1) y0 y1 y2 y3 := by
    have e := bc_new (((w.alloc (.cells #[.int .i64 g, .int .i64 p, .int .i64 v, .int .i64 t, .int .i64 c] 23)).alloc (.cells #[.int .i64 g2, .int .i64 p2, .int .i64 v2, .int .i64 t2, .int .i64 c2] 23)).alloc (.cells #[.int .u8 (x0.toNat : Int), .int .u8 (x1.toNat : Int), .int .u8 (x2.toNat : Int), .int .u8 (x3.toNat : Int)] 38)) y0 y1 y2 y3 38
    rw [World.size_alloc, World.size_alloc, World.size_alloc] at e
    exact e
  clear A1 A2 A3
  go_enter Tryd.func8, Tryd.ntmps8
  go_wp2_with fail
  refine (awake_calls _ (tab.below A0 tab.1)).mono ?_
  rintro e w1 ⟨rfl, b1⟩
  have B1 := A0.trans (b1.mono (by simp; omega))
  have H1 : Hid (HC w1 w.heap.size g p v t c) := H0.below b1 (by simp; omega)
  have G1 : Hid (HC w1 (w.heap.size + 1) g2 p2 v2 t2 c2) := G0.below b1 (by simp)
  have X1 : Hid (BC w1 (w.heap.size + 1 + 1) x0 x1 x2 x3) := X0.below b1 (by simp)
  have Y1 : Hid (BC w1 (w.heap.size + 1 + 1 + 1) y0 y1 y2 y3) := Y0.below b1 (by simp)
  have z1 : w.heap.size + 4 ≤ w1.heap.size := by have := b1.size; simp at this; omega
  clear b1 H0 G0 X0 Y0 A0
  obtain ⟨k0, k1, k2, k3, k4⟩ := H1.out
  go_wp2_with fail
  refine (pack_any nni g p v t c _ (tab.below B1 tab.1)).mono ?_
  rintro e w2 ⟨a2, n2, cp2, er2, rfl, h2, b2⟩
  have B2 := B1.trans (b2.mono B1.size)
  have H2 : Hid (HC w2 w.heap.size g p v t c) := H1.out.below b2 (by omega)
  have G2 : Hid (HC w2 (w.heap.size + 1) g2 p2 v2 t2 c2) := G1.out.below b2 (by omega)
  have X2 : Hid (BC w2 (w.heap.size + 1 + 1) x0 x1 x2 x3) := X1.out.below b2 (by omega)
  have Y2 : Hid (BC w2 (w.heap.size + 1 + 1 + 1) y0 y1 y2 y3) := Y1.out.below b2 (by omega)
  have z2 : w.heap.size + 4 ≤ w2.heap.size := Nat.le_trans z1 b2.size
  have K2 : Hid ((rightB nni g p v t c = true ∧ n2 = 4 ∧ er2 = 0 ∧ IsB w2.heap.size w2 a2 n2 (bytesN (word g p v t c).toNat)) ∨ (rightB nni g p v t c = false ∧ n2 = 0 ∧ er2 = 1 ∧ IsB w2.heap.size w2 a2 n2 [])) := h2
  clear b2 H1 G1 X1 Y1 k0 k1 k2 k3 k4 h2
  obtain ⟨k0, k1, k2, k3, k4⟩ := G2.out
  go_wp2_with fail
  refine (pack_any nni g2 p2 v2 t2 c2 _ (tab.below B2 tab.1)).mono ?_
  rintro e w3 ⟨a3, n3, cp3, er3, rfl, h3, b3⟩
  have B3 := B2.trans (b3.mono B2.size)
  have H3 : Hid (HC w3 w.heap.size g p v t c) := H2.out.below b3 (by omega)
  have G3 : Hid (HC w3 (w.heap.size + 1) g2 p2 v2 t2 c2) := G2.out.below b3 (by omega)
  have X3 : Hid (BC w3 (w.heap.size + 1 + 1) x0 x1 x2 x3) := X2.out.below b3 (by omega)
  have Y3 : Hid (BC w3 (w.heap.size + 1 + 1 + 1) y0 y1 y2 y3) := Y2.out.below b3 (by omega)
  have z3 : w2.heap.size ≤ w3.heap.size := b3.size
  have K3 : Hid ((rightB nni g2 p2 v2 t2 c2 = true ∧ n3 = 4 ∧ er3 = 0 ∧ IsB w3.heap.size w3 a3 n3 (bytesN (word g2 p2 v2 t2 c2).toNat)) ∨ (rightB nni g2 p2 v2 t2 c2 = false ∧ n3 = 0 ∧ er3 = 1 ∧ IsB w3.heap.size w3 a3 n3 [])) := h3
  have L2 : Hid ((rightB nni g p v t c = true ∧ n2 = 4 ∧ er2 = 0 ∧ IsB w2.heap.size w3 a2 n2 (bytesN (word g p v t c).toNat)) ∨ (rightB nni g p v t c = false ∧ n2 = 0 ∧ er2 = 1 ∧ IsB w2.heap.size w3 a2 n2 [])) :=
    K2.out.imp (fun q => ⟨q.1, q.2.1, q.2.2.1, q.2.2.2.below b3 (Nat.le_refl _)⟩) (fun q => ⟨q.1, q.2.1, q.2.2.1, q.2.2.2.below b3 (Nat.le_refl _)⟩)
  clear b3 H2 G2 X2 Y2 k0 k1 k2 k3 k4 h3 K2
  obtain ⟨m, hm⟩ : ∃ m, numN x0 x1 x2 x3 = m := ⟨_, rfl⟩
  obtain ⟨n, hn⟩ : ∃ n, numN y0 y1 y2 y3 = n := ⟨_, rfl⟩
  have HM : Hid (numN x0 x1 x2 x3 = m) := hm
  have HN : Hid (numN y0 y1 y2 y3 = n) := hn
  clear hm hn
  go_wp2_with fail
  refine (unpack_four nni _ _ x0 x1 x2 x3 _ (X3.out.isB (Nat.lt_succ_self _)) (by omega) (tab.below B3 tab.1)).mono ?_
  rintro e w4 ⟨rfl, b4⟩
  rw [HM.out]
  have b4a : Below w3.heap.size w3 (w4.alloc (.cells #[.int .i64 (dG nni m), .int .i64 (dP nni m), .int .i64 (dV m), .int .i64 (dT m), .int .i64 (dC m)] 23)) := b4.alloc b4.size _
  have B4 := B3.trans (b4a.mono B3.size)
  have z4 : w3.heap.size ≤ w4.heap.size := b4.size
  clear b4
  obtain ⟨W4, hW4⟩ : ∃ W4, w4.alloc (.cells #[.int .i64 (dG nni m), .int .i64 (dP nni m), .int .i64 (dV m), .int .i64 (dT m), .int .i64 (dC m)] 23) = W4 := ⟨_, rfl⟩
  have P4 : Hid (HC W4 w4.heap.size (dG nni m) (dP nni m) (dV m) (dT m) (dC m)) := by show HC W4 _ _ _ _ _ _; rw [← hW4]; exact hc_new _ _ _ _ _ _ _
  have s4 : w4.heap.size < W4.heap.size := by rw [← hW4]; simp
  rw [hW4] at b4a B4
  go_wp2_with fail
  clear hW4
  have Y4 : Hid (BC W4 (w.heap.size + 1 + 1 + 1) y0 y1 y2 y3) := Y3.out.below b4a (by omega)
  refine (unpack_four nni _ _ y0 y1 y2 y3 _ (Y4.out.isB (Nat.lt_succ_self _)) (by omega) (tab.below B4 tab.1)).mono ?_
  rintro e w5 ⟨rfl, b5⟩
  rw [HN.out]
  have b5a : Below W4.heap.size W4 (w5.alloc (.cells #[.int .i64 (dG nni n), .int .i64 (dP nni n), .int .i64 (dV n), .int .i64 (dT n), .int .i64 (dC n)] 23)) := b5.alloc b5.size _
  have B5 := B4.trans (b5a.mono B4.size)
  have z5 : W4.heap.size ≤ w5.heap.size := b5.size
  obtain ⟨W5, hW5⟩ : ∃ W5, w5.alloc (.cells #[.int .i64 (dG nni n), .int .i64 (dP nni n), .int .i64 (dV n), .int .i64 (dT n), .int .i64 (dC n)] 23) = W5 := ⟨_, rfl⟩
  have Q5 : Hid (HC W5 w5.heap.size (dG nni n) (dP nni n) (dV n) (dT n) (dC n)) := by show HC W5 _ _ _ _ _ _; rw [← hW5]; exact hc_new _ _ _ _ _ _ _
  have s5 : w5.heap.size < W5.heap.size := by rw [← hW5]; simp
  rw [hW5] at b5a B5
  go_wp2_with fail
  have b35 : Below w3.heap.size w3 W5 := b4a.trans (b5a.mono (by omega))
  have P5 : Hid (HC W5 w4.heap.size (dG nni m) (dP nni m) (dV m) (dT m) (dC m)) := P4.out.below b5a s4
  have H5 : Hid (HC W5 w.heap.size g p v t c) := H3.out.below b35 (by omega)
  have G5 : Hid (HC W5 (w.heap.size + 1) g2 p2 v2 t2 c2) := G3.out.below b35 (by omega)
  have X5 : Hid (BC W5 (w.heap.size + 1 + 1) x0 x1 x2 x3) := X3.out.below b35 (by omega)
  have Y5 : Hid (BC W5 (w.heap.size + 1 + 1 + 1) y0 y1 y2 y3) := Y3.out.below b35 (by omega)
  clear hW5 b5 b4a b5a H3 G3 X3 Y3 P4 Y4
  have arr : ∃ eb : Bool, (∀ w, (binOp .eql 38 (.agg #[.int .u8 (x0.toNat : Int), .int .u8 (x1.toNat : Int), .int .u8 (x2.toNat : Int), .int .u8 (x3.toNat : Int)]) (.agg #[.int .u8 (y0.toNat : Int), .int .u8 (y1.toNat : Int), .int .u8 (y2.toNat : Int), .int .u8 (y3.toNat : Int)])).run Tryd.prog w = .ok (.bool eb) w) ∧
      (∀ w, (binOp .eql 23 (.agg #[.int .i64 (dG nni m), .int .i64 (dP nni m), .int .i64 (dV m), .int .i64 (dT m), .int .i64 (dC m)]) (.agg #[.int .i64 (dG nni n), .int .i64 (dP nni n), .int .i64 (dV n), .int .i64 (dT n), .int .i64 (dC n)])).run Tryd.prog w = .ok (.bool eb) w) := by
    by_cases he : m = n
    · obtain ⟨rfl, rfl, rfl, rfl⟩ := num_inj (HM.out.trans (he.trans HN.out.symm))
      subst he
      exact ⟨true, fun w => by rw [eql_arr]; simp, fun w => by rw [eql_hdr]; simp⟩
    · refine ⟨false, fun w => ?_, fun w => ?_⟩
      · rw [eql_arr, and4_ne]
        rintro ⟨a, b, c, d⟩
        apply he
        rw [← HM.out, ← HN.out]
        unfold numN
        omega
      · rw [eql_hdr, and5_ne]
        intro e
        exact he (hdr_inj (by rw [← HM.out]; exact numN_lt _ _ _ _) (by rw [← HN.out]; exact numN_lt _ _ _ _) e)
  obtain ⟨eb, ea, eh⟩ := arr
  rcases L2.out with ⟨r2, rfl, rfl, I2⟩ | ⟨r2, rfl, rfl, I2⟩
  · rcases K3.out with ⟨r3, rfl, rfl, I3⟩ | ⟨r3, rfl, rfl, I3⟩
    · have sm : ∃ sb : Bool, (bytesN (word g p v t c).toNat == bytesN (word g2 p2 v2 t2 c2).toNat) = sb ∧
          (∀ w, (binOp .eql 23 (.agg #[.int .i64 g, .int .i64 p, .int .i64 v, .int .i64 t, .int .i64 c]) (.agg #[.int .i64 g2, .int .i64 p2, .int .i64 v2, .int .i64 t2, .int .i64 c2])).run Tryd.prog w = .ok (.bool sb) w) := by
        by_cases he : g = g2 ∧ p = p2 ∧ v = v2 ∧ t = t2 ∧ c = c2
        · obtain ⟨rfl, rfl, rfl, rfl, rfl⟩ := he
          exact ⟨true, by simp, fun w => by rw [eql_hdr]; simp⟩
        · refine ⟨false, ?_, fun w => by rw [eql_hdr, and5_ne he]⟩
          rw [beq_eq_false_iff_ne]
          intro e
          have h1 := word_lt r2
          have h2 := word_lt r3
          exact he (word_inj r2 r3 (bytesN_inj (by omega) (by omega) e))
      obtain ⟨sb, sm1, sm2⟩ := sm
      have SM : Hid ((bytesN (word g p v t c).toNat == bytesN (word g2 p2 v2 t2 c2).toNat) = sb) := sm1
      have J2 := (I2.below b35 z3).drew
      have J3 := (I3.below b35 (Nat.le_refl _)).drew
      have zz : w3.heap.size ≤ W5.heap.size := b35.size
      clear L2 K3 I2 I3 r2 r3 sm1 b35
      obtain ⟨k0, k1, k2, k3, k4⟩ := H5.out
      obtain ⟨l0, l1, l2, l3, l4⟩ := G5.out
      go_region_held (fun w' => w'.cell? ⟨w.heap.size, 0, none⟩ = some (.int .i64 g) ∧ w'.cell? ⟨w.heap.size, 1, none⟩ = some (.int .i64 p) ∧ w'.cell? ⟨w.heap.size, 2, none⟩ = some (.int .i64 v) ∧ w'.cell? ⟨w.heap.size, 3, none⟩ = some (.int .i64 t) ∧ w'.cell? ⟨w.heap.size, 4, none⟩ = some (.int .i64 c) ∧ w'.cell? ⟨w.heap.size + 1, 0, none⟩ = some (.int .i64 g2) ∧ w'.cell? ⟨w.heap.size + 1, 1, none⟩ = some (.int .i64 p2) ∧ w'.cell? ⟨w.heap.size + 1, 2, none⟩ = some (.int .i64 v2) ∧ w'.cell? ⟨w.heap.size + 1, 3, none⟩ = some (.int .i64 t2) ∧ w'.cell? ⟨w.heap.size + 1, 4, none⟩ = some (.int .i64 c2)) (go_keep) (first | (go_at_call 14; refine (same_calls _ _ _ _ _ _ _ _ _ J2 J3 (by show w2.heap.size ≤ W5.heap.size; omega) (by show w3.heap.size ≤ W5.heap.size; omega) (by decide)).mono ?_; rintro e w6 ⟨rfl, b6⟩; rw [SM.out]; obtain ⟨n0, n1, n2, n3, n4⟩ := (HC.below (w := W5.drew) H5.out b6 (by show w.heap.size < W5.heap.size; omega)); obtain ⟨o0, o1, o2, o3, o4⟩ := (HC.below (w := W5.drew) G5.out b6 (by show w.heap.size + 1 < W5.heap.size; omega))))
      obtain ⟨i0, i1, i2, i3, i4⟩ := (HC.below (w := W5.drew) P5.out b6 (by show w4.heap.size < W5.heap.size; omega))
      obtain ⟨j0, j1, j2, j3, j4⟩ := (HC.below (w := W5.drew) Q5.out b6 s5)
      obtain ⟨e0, e1, e2, e3⟩ := (BC.below (w := W5.drew) X5.out b6 (by show w.heap.size + 1 + 1 < W5.heap.size; omega))
      obtain ⟨f0, f1, f2, f3⟩ := (BC.below (w := W5.drew) Y5.out b6 (by show w.heap.size + 1 + 1 + 1 < W5.heap.size; omega))
      have B6 : Below w.heap.size w w6 := B5.drew.trans (b6.mono B5.size)
      clear k0 k1 k2 k3 k4 l0 l1 l2 l3 l4 n0 n1 n2 n3 n4 o0 o1 o2 o3 o4 b6 J2 J3
      go_wp2
      go_quiet (fail)
      go_wp2
      go_ret
      exact ⟨ret_bool (by cases eb <;> rfl), below_drewN B6 _⟩
    · clear L2 K3 I2 I3 H5 G5 r2 r3
      obtain ⟨i0, i1, i2, i3, i4⟩ := P5.out
      obtain ⟨j0, j1, j2, j3, j4⟩ := Q5.out
      obtain ⟨e0, e1, e2, e3⟩ := X5.out
      obtain ⟨f0, f1, f2, f3⟩ := Y5.out
      go_quiet (fail)
      go_wp2
      go_quiet (fail)
      go_wp2
      go_ret
      exact ⟨ret_bool (by cases eb <;> rfl), below_drewN (below_drewN B5 _) _⟩
  · rcases K3.out with ⟨r3, rfl, rfl, I3⟩ | ⟨r3, rfl, rfl, I3⟩
    all_goals
      clear L2 K3 I2 I3 H5 G5 r2 r3
      obtain ⟨i0, i1, i2, i3, i4⟩ := P5.out
      obtain ⟨j0, j1, j2, j3, j4⟩ := Q5.out
      obtain ⟨e0, e1, e2, e3⟩ := X5.out
      obtain ⟨f0, f1, f2, f3⟩ := Y5.out
      go_quiet (fail)
      go_wp2
      go_quiet (fail)
      go_wp2
      go_ret
      exact ⟨ret_bool (by cases eb <;> rfl), below_drewN (below_drewN B5 _) _⟩
end Go.Proofs.YtehkcdnblhfnaaaDoor
