/- Proved here: the walk of HeaderTells. Conditions: as each theorem states them. -/
import Derived.Test.YtehkcdnblhfnaaaDoorBackW
import Derived.Test.YtehkcdnblhfnaaaDoorRefKind
import Derived.Test.YtehkcdnblhfnaaaDoorRefP
import Derived.Deep.RegionHeld
namespace Go.Proofs.YtehkcdnblhfnaaaDoor
open Go.RowKit

/-- What bytes tell: the header, or the error. -/
def UP (nni : Bool) (xs : List UInt8) (g p v t c f : Int) : Prop :=
  (xs.length < 4 ∧ g = 0 ∧ p = 0 ∧ v = 0 ∧ t = 0 ∧ c = 0 ∧ f = 2) ∨ (4 < xs.length ∧ g = 0 ∧ p = 0 ∧ v = 0 ∧ t = 0 ∧ c = 0 ∧ f = 3) ∨
  ∃ x0 x1 x2 x3, xs = [x0, x1, x2, x3] ∧ g = dG nni (numN x0 x1 x2 x3) ∧ p = dP nni (numN x0 x1 x2 x3) ∧ v = dV (numN x0 x1 x2 x3) ∧ t = dT (numN x0 x1 x2 x3) ∧ c = dC (numN x0 x1 x2 x3) ∧ f = 0
theorem UP.eq {nni : Bool} {xs : List UInt8} {g p v t c f g' p' v' t' c' f' : Int} (h : UP nni xs g p v t c f) (h' : UP nni xs g' p' v' t' c' f') : g' = g ∧ p' = p ∧ v' = v ∧ t' = t ∧ c' = c ∧ f' = f := by
  rcases h with ⟨hl, rfl, rfl, rfl, rfl, rfl, rfl⟩ | ⟨hl, rfl, rfl, rfl, rfl, rfl, rfl⟩ | ⟨x0, x1, x2, x3, rfl, rfl, rfl, rfl, rfl, rfl, rfl⟩
  · rcases h' with ⟨hl', rfl, rfl, rfl, rfl, rfl, rfl⟩ | ⟨hl', _⟩ | ⟨x0, x1, x2, x3, rfl, _⟩
    · simp
    · omega
    · simp at hl
  · rcases h' with ⟨hl', _⟩ | ⟨hl', rfl, rfl, rfl, rfl, rfl, rfl⟩ | ⟨x0, x1, x2, x3, rfl, _⟩
    · omega
    · simp
    · simp at hl
  · rcases h' with ⟨hl', _⟩ | ⟨hl', _⟩ | ⟨y0, y1, y2, y3, e, rfl, rfl, rfl, rfl, rfl, rfl⟩
    · simp at hl'
    · simp at hl'
    · simp only [List.cons.injEq, and_true] at e
      obtain ⟨rfl, rfl, rfl, rfl⟩ := e
      simp

theorem unpack_any (nni : Bool) (a : Option Addr) (len cap : Nat) (xs : List UInt8) (w : World) {n : Nat} (hI : IsB n w a len xs) (hn : n ≤ w.heap.size) (tab : Tab w) :
    Calls Tryd.prog 11 #[.slice a len cap, .bool nni] w fun e w' => ∃ g p v t c f, e = .returned (.tuple #[.agg #[.int .i64 g, .int .i64 p, .int .i64 v, .int .i64 t, .int .i64 c], .int .i64 f]) ∧ UP nni xs g p v t c f ∧ Below w.heap.size w w' := by
  have hl := hI.1
  by_cases h4 : len < 4
  · refine (unpack_short nni a len cap h4 w).mono ?_
    rintro e w1 ⟨rfl, b1⟩
    exact ⟨0, 0, 0, 0, 0, 2, rfl, .inl ⟨by omega, rfl, rfl, rfl, rfl, rfl, rfl⟩, b1⟩
  by_cases h5 : 4 < len
  · refine (unpack_long nni a len cap h5 w).mono ?_
    rintro e w1 ⟨rfl, b1⟩
    exact ⟨0, 0, 0, 0, 0, 3, rfl, .inr (.inl ⟨by omega, rfl, rfl, rfl, rfl, rfl, rfl⟩), b1⟩
  · obtain rfl : len = 4 := by omega
    obtain ⟨x0, x1, x2, x3, rfl⟩ := list4 hl.symm
    refine (unpack_four nni a cap x0 x1 x2 x3 w hI hn tab).mono ?_
    rintro e w1 ⟨rfl, b1⟩
    exact ⟨_, _, _, _, _, 0, rfl, .inr (.inr ⟨x0, x1, x2, x3, rfl, rfl, rfl, rfl, rfl, rfl, rfl⟩), b1⟩
theorem refunpack_any (nni : Bool) (a : Option Addr) (len cap : Nat) (xs : List UInt8) (w : World) {n : Nat} (hI : IsB n w a len xs) (hn : n ≤ w.heap.size) :
    Calls Tryd.prog 12 #[.slice a len cap, .bool nni] w fun e w' => ∃ g p v t c f, e = .returned (.tuple #[.agg #[.int .i64 g, .int .i64 p, .int .i64 v, .int .i64 t, .int .i64 c], .int .i64 f]) ∧ UP nni xs g p v t c f ∧ Below w.heap.size w w' := by
  have hl := hI.1
  by_cases h4 : len < 4
  · refine (refunpack_short nni a len cap h4 w).mono ?_
    rintro e w1 ⟨rfl, b1⟩
    exact ⟨0, 0, 0, 0, 0, 2, rfl, .inl ⟨by omega, rfl, rfl, rfl, rfl, rfl, rfl⟩, b1⟩
  by_cases h5 : 4 < len
  · refine (refunpack_long nni a len cap h5 w).mono ?_
    rintro e w1 ⟨rfl, b1⟩
    exact ⟨0, 0, 0, 0, 0, 3, rfl, .inr (.inl ⟨by omega, rfl, rfl, rfl, rfl, rfl, rfl⟩), b1⟩
  · obtain rfl : len = 4 := by omega
    obtain ⟨x0, x1, x2, x3, rfl⟩ := list4 hl.symm
    refine (refunpack_four nni a cap x0 x1 x2 x3 w hI hn).mono ?_
    rintro e w1 ⟨rfl, b1⟩
    exact ⟨_, _, _, _, _, 0, rfl, .inr (.inr ⟨x0, x1, x2, x3, rfl, rfl, rfl, rfl, rfl, rfl, rfl⟩), b1⟩
/-- Pack and the document's Pack, in one form. -/
def PK (right : Bool) (n : Nat) (w : World) (a : Option Addr) (len : Nat) : Prop := IsB w.heap.size w a len (if right then bytesN n else []) ∧ len ≤ 4
theorem pack_pk (nni : Bool) (g p v t c : Int) (w : World) (tab : Tab w) :
    Calls Tryd.prog 10 #[.agg #[.int .i64 g, .int .i64 p, .int .i64 v, .int .i64 t, .int .i64 c], .bool nni] w fun e w' => ∃ a n cp, e = .returned (.tuple #[.slice a n cp, .int .i64 (if rightB nni g p v t c then 0 else 1)]) ∧ PK (rightB nni g p v t c) (word g p v t c).toNat w' a n ∧ Below w.heap.size w w' := by
  refine (pack_any nni g p v t c w tab).mono ?_
  rintro e w1 ⟨a, n, cp, er, rfl, h | h, b1⟩
  · obtain ⟨r, rfl, rfl, I⟩ := h
    rw [r]
    exact ⟨a, 4, cp, rfl, ⟨I, by decide⟩, b1⟩
  · obtain ⟨r, rfl, rfl, I⟩ := h
    rw [r]
    exact ⟨a, 0, cp, rfl, ⟨I, by decide⟩, b1⟩
theorem refpack_pk (nni : Bool) (g p v t c : Int) (w : World) :
    Calls Tryd.prog 15 #[.agg #[.int .i64 g, .int .i64 p, .int .i64 v, .int .i64 t, .int .i64 c], .bool nni] w fun e w' => ∃ a n cp, e = .returned (.slice a n cp) ∧ PK (rightB nni g p v t c) (word g p v t c).toNat w' a n ∧ Below w.heap.size w w' := by
  cases h : rightB nni g p v t c
  · refine (refpack_no nni g p v t c w h).mono ?_
    rintro e w1 ⟨rfl, b1⟩
    exact ⟨none, 0, 0, rfl, ⟨⟨rfl, .inl rfl⟩, by decide⟩, b1⟩
  · have hw := word_lt h
    refine (refpack_yes nni g p v t c (word g p v t c).toNat w h (by omega)).mono ?_
    rintro e w1 ⟨a, rfl, I, b1⟩
    exact ⟨a, 4, 4, rfl, ⟨I, by decide⟩, b1⟩

/-- Three headers in memory. -/
structure T3 (b1 b2 b3 : Nat) (g p v t c x0 x1 x2 x3 x4 y0 y1 y2 y3 y4 : Int) (w : World) : Prop where
  one : HC w b1 g p v t c
  two : HC w b2 x0 x1 x2 x3 x4
  three : HC w b3 y0 y1 y2 y3 y4
  s1 : b1 < w.heap.size
  s2 : b2 < w.heap.size
  s3 : b3 < w.heap.size
theorem T3.below {b1 b2 b3 : Nat} {g p v t c x0 x1 x2 x3 x4 y0 y1 y2 y3 y4 : Int} {w w' : World} (h : T3 b1 b2 b3 g p v t c x0 x1 x2 x3 x4 y0 y1 y2 y3 y4 w) (b : Below w.heap.size w w') : T3 b1 b2 b3 g p v t c x0 x1 x2 x3 x4 y0 y1 y2 y3 y4 w' :=
  ⟨h.one.below b h.s1, h.two.below b h.s2, h.three.below b h.s3, Nat.lt_of_lt_of_le h.s1 b.size, Nat.lt_of_lt_of_le h.s2 b.size, Nat.lt_of_lt_of_le h.s3 b.size⟩
theorem T3.drew {b1 b2 b3 : Nat} {g p v t c x0 x1 x2 x3 x4 y0 y1 y2 y3 y4 : Int} {w : World} (h : T3 b1 b2 b3 g p v t c x0 x1 x2 x3 x4 y0 y1 y2 y3 y4 w) : T3 b1 b2 b3 g p v t c x0 x1 x2 x3 x4 y0 y1 y2 y3 y4 w.drew :=
  ⟨h.one, h.two, h.three, h.s1, h.s2, h.s3⟩

theorem below_chain {w a b : World} (h : Below w.heap.size w a) (k : Below a.heap.size a b) : Below w.heap.size w b := h.trans (k.mono h.size)

set_option maxHeartbeats 4000000 in
theorem tells_walk (g p v t c : Int) (nni : Bool) (a1 : Option Addr) (len cap1 : Nat) (xs : List UInt8) (w : World) (tab : Tab w) (h1 : IsB w.heap.size w a1 len xs) :
    Calls Tryd.prog 3 #[.agg #[.int .i64 g, .int .i64 p, .int .i64 v, .int .i64 t, .int .i64 c], .bool nni, .slice a1 len cap1] w fun e w' => e = .returned (.bool true) ∧ Below w.heap.size w w' := by
  have A0 : Below w.heap.size w (w.alloc (.cells #[.int .i64 g, .int .i64 p, .int .i64 v, .int .i64 t, .int .i64 c] 23)) := (Below.refl _ w).alloc (Nat.le_refl _) _
  by_cases hl1 : 50 < len
  · go_enter Tryd.func3, Tryd.ntmps3
    go_wp2_with fail
    refine (awake_calls _ (tab.below A0 tab.1)).mono ?_
    rintro e w1 ⟨rfl, b1⟩
    have B1 := below_chain A0 b1
    go_wp2_with fail
    refine (awake_calls _ (tab.below B1 tab.1)).mono ?_
    rintro e w2 ⟨rfl, b2⟩
    go_wp2
    go_ret
    exact ⟨rfl, below_chain B1 b2⟩
  have hl : len ≤ 50 := by omega
  have ql : decide (50 < (len : Int)) = false := by simp; omega
  clear hl1
  have H0 := hc_new w g p v t c 23
  obtain ⟨r, hr⟩ : ∃ r, rightB nni g p v t c = r := ⟨_, rfl⟩
  have HR : Hid (rightB nni g p v t c = r) := hr
  obtain ⟨zs, hzs⟩ : ∃ zs, (if rightB nni g p v t c = true then bytesN (word g p v t c).toNat else []) = zs := ⟨_, rfl⟩
  have Z : Hid ((if rightB nni g p v t c = true then bytesN (word g p v t c).toNat else []) = zs) := hzs
  obtain ⟨kk, hkk⟩ : ∃ kk, kindN p v t c = kk := ⟨_, rfl⟩
  have KK : Hid (kindN p v t c = kk) := hkk
  clear hr hzs hkk
  cases r
  all_goals
    go_enter Tryd.func3, Tryd.ntmps3
    go_wp2_with fail
    refine (awake_calls _ (tab.below A0 tab.1)).mono ?_
    rintro e w1 ⟨rfl, b1⟩
    have B1 := below_chain A0 b1
    have H1 : Hid (HC w1 w.heap.size g p v t c) := H0.below b1 (by simp)
    have z1 : w.heap.size < w1.heap.size := by have := b1.size; simp at this; omega
    clear b1 H0 A0
    obtain ⟨k0, k1, k2, k3, k4⟩ := H1.out
    go_wp2_with fail
    refine (pack_pk nni g p v t c _ (tab.below B1 tab.1)).mono ?_
    rintro e w2 ⟨a2, n2, cp2, rfl, K2, b2⟩
    obtain ⟨I2, n24⟩ := K2
    rw [Z.out] at I2
    rw [HR.out]
    have B2 := below_chain B1 b2
    have H2 : Hid (HC w2 w.heap.size g p v t c) := H1.out.below b2 z1
    have z2 : w.heap.size < w2.heap.size := Nat.lt_of_lt_of_le z1 b2.size
    clear b2 H1 k0 k1 k2 k3 k4
    have L2 : Hid (IsB w2.heap.size w2 a2 n2 zs) := I2
    clear I2
    go_wp2_with fail
    refine (unpack_any nni a1 len cap1 xs _ (h1.below B2 (Nat.le_refl _)) B2.size (tab.below B2 tab.1)).mono ?_
    rintro e w3 ⟨q0, q1, q2, q3, q4, qf, rfl, U3, b3⟩
    have U3H : Hid (UP nni xs q0 q1 q2 q3 q4 qf) := U3
    clear U3
    have b3a : Below w2.heap.size w2 (w3.alloc (.cells #[.int .i64 q0, .int .i64 q1, .int .i64 q2, .int .i64 q3, .int .i64 q4] 23)) := b3.alloc b3.size _
    have z3 : w.heap.size < w3.heap.size := Nat.lt_of_lt_of_le z2 b3.size
    obtain ⟨W3, hW3⟩ : ∃ W3, w3.alloc (.cells #[.int .i64 q0, .int .i64 q1, .int .i64 q2, .int .i64 q3, .int .i64 q4] 23) = W3 := ⟨_, rfl⟩
    rw [hW3] at b3a
    have B3 := below_chain B2 b3a
    have X3 : Hid (HC W3 w3.heap.size q0 q1 q2 q3 q4) := by show HC _ _ _ _ _ _ _; rw [← hW3]; exact hc_new _ _ _ _ _ _ _
    have H3 : Hid (HC W3 w.heap.size g p v t c) := H2.out.below b3a z2
    have s3 : w3.heap.size < W3.heap.size := by rw [← hW3]; simp
    clear b3 H2
    go_wp2_with fail
    clear hW3
    refine (refunpack_any nni a1 len cap1 xs _ (h1.below B3 (Nat.le_refl _)) B3.size).mono ?_
    rintro e w4 ⟨u0, u1, u2, u3, u4, uf, rfl, U4, b4⟩
    obtain ⟨rfl, rfl, rfl, rfl, rfl, rfl⟩ := U3H.out.eq U4
    clear U4 U3H
    have b4a : Below W3.heap.size W3 (w4.alloc (.cells #[.int .i64 u0, .int .i64 u1, .int .i64 u2, .int .i64 u3, .int .i64 u4] 23)) := b4.alloc b4.size _
    obtain ⟨W4, hW4⟩ : ∃ W4, w4.alloc (.cells #[.int .i64 u0, .int .i64 u1, .int .i64 u2, .int .i64 u3, .int .i64 u4] 23) = W4 := ⟨_, rfl⟩
    rw [hW4] at b4a
    have B4 := below_chain B3 b4a
    have Y4 : Hid (HC W4 w4.heap.size u0 u1 u2 u3 u4) := by show HC _ _ _ _ _ _ _; rw [← hW4]; exact hc_new _ _ _ _ _ _ _
    have X4 : Hid (HC W4 w3.heap.size u0 u1 u2 u3 u4) := X3.out.below b4a s3
    have H4 : Hid (HC W4 w.heap.size g p v t c) := H3.out.below b4a (by omega)
    have s4 : w4.heap.size < W4.heap.size := by rw [← hW4]; simp
    have z4 : W3.heap.size ≤ w4.heap.size := b4.size
    clear b4 H3 X3
    obtain ⟨k0, k1, k2, k3, k4⟩ := H4.out
    go_wp2_with fail
    clear hW4
    refine (refright_calls nni g p v t c _).mono ?_
    rintro e w5 ⟨rfl, b5⟩
    rw [HR.out]
    have B5 := below_chain B4 b5
    have T5 : T3 w.heap.size w3.heap.size w4.heap.size g p v t c u0 u1 u2 u3 u4 u0 u1 u2 u3 u4 w5 := T3.below ⟨H4.out, X4.out, Y4.out, by omega, by omega, by omega⟩ b5
    have P5 : Hid (IsB w2.heap.size w5 a2 n2 zs) := L2.out.below ((b3a.trans (b4a.mono b3a.size)).trans (b5.mono (Nat.le_trans b3a.size b4a.size))) (Nat.le_refl _)
    have z25 : w2.heap.size ≤ w5.heap.size := ((b3a.trans (b4a.mono b3a.size)).trans (b5.mono (Nat.le_trans b3a.size b4a.size))).size
    clear b3a b4a b5 H4 X4 Y4 k0 k1 k2 k3 k4 L2
    have T5d := T5.drew
    obtain ⟨⟨_, _, _, _, _⟩, ⟨_, _, _, _, _⟩, ⟨_, _, _, _, _⟩, _, _, _⟩ := T5
    go_wp2_with fail
    first | (go_region_held (fun w' => w'.cell? ⟨w.heap.size, 0, none⟩ = some (.int .i64 g) ∧ w'.cell? ⟨w.heap.size, 1, none⟩ = some (.int .i64 p) ∧ w'.cell? ⟨w.heap.size, 2, none⟩ = some (.int .i64 v) ∧ w'.cell? ⟨w.heap.size, 3, none⟩ = some (.int .i64 t) ∧ w'.cell? ⟨w.heap.size, 4, none⟩ = some (.int .i64 c) ∧ w'.cell? ⟨w3.heap.size, 0, none⟩ = some (.int .i64 u0) ∧ w'.cell? ⟨w3.heap.size, 1, none⟩ = some (.int .i64 u1) ∧ w'.cell? ⟨w3.heap.size, 2, none⟩ = some (.int .i64 u2) ∧ w'.cell? ⟨w3.heap.size, 3, none⟩ = some (.int .i64 u3) ∧ w'.cell? ⟨w3.heap.size, 4, none⟩ = some (.int .i64 u4) ∧ w'.cell? ⟨w4.heap.size, 0, none⟩ = some (.int .i64 u0) ∧ w'.cell? ⟨w4.heap.size, 1, none⟩ = some (.int .i64 u1) ∧ w'.cell? ⟨w4.heap.size, 2, none⟩ = some (.int .i64 u2) ∧ w'.cell? ⟨w4.heap.size, 3, none⟩ = some (.int .i64 u3) ∧ w'.cell? ⟨w4.heap.size, 4, none⟩ = some (.int .i64 u4)) (go_keep) (first | (go_at_call 15; refine (refpack_pk nni g p v t c _).mono ?_; rintro e w6 ⟨a6, n6, cp6, rfl, K6, b6⟩; obtain ⟨I6, m6⟩ := K6; rw [Z.out] at I6; have P6 := (P5.out.drew).below b6 z25; have T6 := T3.below T5d b6; have B6 : Below w.heap.size w w6 := B5.drew.trans (b6.mono B5.size); have y6 : w2.heap.size ≤ w6.heap.size := Nat.le_trans z25 b6.size; clear b6; obtain ⟨⟨_, _, _, _, _⟩, ⟨_, _, _, _, _⟩, ⟨_, _, _, _, _⟩, _, _, _⟩ := (id T6)) | (go_at_call 14; refine (same_calls _ _ _ _ _ _ zs zs _ P6 I6 y6 (Nat.le_refl _) (Nat.le_trans n24 (by decide))).mono ?_; rintro e w7 ⟨rfl, b7⟩; rw [beq_self_eq_true]; have T7 := T3.below T6 b7; have B7 := below_chain B6 b7; clear b7; obtain ⟨⟨_, _, _, _, _⟩, ⟨_, _, _, _, _⟩, ⟨_, _, _, _, _⟩, _, _, _⟩ := (id T7)) | (go_at_call 16; refine (right_calls nni g p v t c _ (tab.below B7 tab.1)).mono ?_; rintro e w8 ⟨rfl, b8⟩; rw [HR.out]; have T8 := T3.below T7 b8; have B8 := below_chain B7 b8; clear b8; obtain ⟨⟨_, _, _, _, _⟩, ⟨_, _, _, _, _⟩, ⟨_, _, _, _, _⟩, _, _, _⟩ := (id T8)) | (go_at_call 17; refine (kind_calls g p v t c _).mono ?_; rintro e w9 ⟨rfl, b9⟩; rw [KK.out]; have T9 := T3.below (by first | exact T10 | exact T8) b9; have B9 := below_chain (by first | exact B10 | exact B8) b9; clear b9; obtain ⟨⟨_, _, _, _, _⟩, ⟨_, _, _, _, _⟩, ⟨_, _, _, _, _⟩, _, _, _⟩ := (id T9)) | (go_at_call 18; refine (refkind_calls g p v t c _).mono ?_; rintro e w10 ⟨rfl, b10⟩; rw [KK.out]; have T10 := T3.below (by first | exact T9 | exact T8) b10; have B10 := below_chain (by first | exact B9 | exact B8) b10; clear b10; obtain ⟨⟨_, _, _, _, _⟩, ⟨_, _, _, _, _⟩, ⟨_, _, _, _, _⟩, _, _, _⟩ := (id T10)))) | fail
    all_goals
      go_wp2
      go_ret
      first | exact ⟨rfl, B10⟩ | exact ⟨rfl, B9⟩
end Go.Proofs.YtehkcdnblhfnaaaDoor
