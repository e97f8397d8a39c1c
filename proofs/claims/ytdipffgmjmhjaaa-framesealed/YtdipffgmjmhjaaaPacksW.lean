/- Proved here: the walk of FramePacks. Conditions: as each theorem states them. -/
import Derived.Test.YtdipffgmjmhjaaaAwk
import Derived.Test.YtdipffgmjmhjaaaRPk
import Derived.Test.YtdipffgmjmhjaaaRUp
namespace Go.Proofs.Ytdipffgmjmhjaaa
set_option linter.unusedSimpArgs false
set_option linter.unusedVariables false
open Go.RowKit

/-- What a text is packed to, and the error. -/
def packN (t : List UInt8) (m : UInt8) : List UInt8 × Nat := if t.length = 0 then ([], 1) else if 1000 < t.length then ([], 6) else (frameN t m, 0)
/-- What Pack answers. -/
def PkAns (t : List UInt8) (m : UInt8) (w : World) (e : Ending) (w' : World) : Prop :=
  ∃ a' c', e = .returned (.tuple #[.slice a' (packN t m).1.length c', .int .i64 ((packN t m).2 : Nat)]) ∧ IsB w'.heap.size w' a' (packN t m).1.length (packN t m).1 ∧ (a' = none → c' = 0) ∧ (packN t m).1.length ≤ c' ∧ Below w.heap.size w w'
theorem pk_none {t : List UInt8} {m : UInt8} {w : World} (h : t.length = 0) : PkAns t m w (.returned (.tuple #[.slice none 0 0, .int .i64 1])) w := by
  unfold PkAns packN; rw [if_pos h]
  exact ⟨none, 0, rfl, ⟨rfl, .inl rfl⟩, fun _ => rfl, Nat.le_refl _, Below.refl _ _⟩
theorem pk_long {t : List UInt8} {m : UInt8} {w : World} (h : 1000 < t.length) : PkAns t m w (.returned (.tuple #[.slice none 0 0, .int .i64 6])) w := by
  unfold PkAns packN; rw [if_neg (by omega), if_pos h]
  exact ⟨none, 0, rfl, ⟨rfl, .inl rfl⟩, fun _ => rfl, Nat.le_refl _, Below.refl _ _⟩
theorem pk_yes {t : List UInt8} {m : UInt8} {w w' : World} {a' : Option Addr} {c' L : Nat} (h1 : 1 ≤ t.length) (h2 : t.length ≤ 1000) (hL : L = 48 * manyN t.length) (o : OwnB w.heap.size w' a' L c' (frameN t m)) (b : Below w.heap.size w w') :
    PkAns t m w (.returned (.tuple #[.slice a' L c', .int .i64 0])) w' := by
  have hl := frame_len (t := t) m h1
  unfold PkAns packN; rw [if_neg (by omega), if_neg (by omega)]
  refine ⟨a', c', ?_, ?_, o.isB.2.1, ?_, b⟩
  · show _ = Ending.returned (.tuple #[.slice a' (frameN t m).length c', .int .i64 0])
    rw [hl, hL]
  · show IsB _ _ _ (frameN t m).length (frameN t m)
    rw [hl, ← hL]; exact o.isB.1
  · show (frameN t m).length ≤ c'
    rw [hl, ← hL]; exact o.isB.2.2
theorem packN_len (t : List UInt8) (m : UInt8) : (packN t m).1.length ≤ 1056 := by
  unfold packN
  split
  · exact Nat.zero_le _
  · split
    · exact Nat.zero_le _
    · show (frameN t m).length ≤ _
      rw [frame_len m (by omega), many_eq (by omega)]; omega

theorem pack_all (a : Option Addr) (len cap : Nat) (xs : List UInt8) (m : UInt8) (w : World) {n : Nat} (h : IsB n w a len xs) (hn : n ≤ w.heap.size) (nn : a = none → cap = 0) :
    Calls Try.prog 10 #[.slice a len cap, .int .u8 (m.toNat : Int)] w (PkAns xs m w) := by
  have hl := h.1
  by_cases h0 : len = 0
  · refine (pack_none len cap a _ h0 w).mono ?_
    rintro e w' ⟨rfl, rfl⟩
    exact pk_none (by omega)
  by_cases h1 : 1000 < len
  · refine (pack_long len cap a _ h1 w).mono ?_
    rintro e w' ⟨rfl, rfl⟩
    exact pk_long (by omega)
  refine (pack_calls a len cap xs m w h hn nn (by omega) (by omega)).mono ?_
  rintro e w' ⟨a', c', rfl, o, b⟩
  exact pk_yes (by omega) (by omega) (by rw [hl]) o b
theorem refpack_all (a : Option Addr) (len cap : Nat) (xs : List UInt8) (m : UInt8) (w : World) {n : Nat} (h : IsB n w a len xs) (hn : n ≤ w.heap.size) (nn : a = none → cap = 0) (hr : len ≤ 400 ∨ 1000 < len) :
    Calls Try.prog 11 #[.slice a len cap, .int .u8 (m.toNat : Int)] w (PkAns xs m w) := by
  have hl := h.1
  by_cases h0 : len = 0
  · refine (refpack_none len cap a _ h0 w).mono ?_
    rintro e w' ⟨rfl, rfl⟩
    exact pk_none (by omega)
  by_cases h1 : 1000 < len
  · refine (refpack_long len cap a _ h1 w).mono ?_
    rintro e w' ⟨rfl, rfl⟩
    exact pk_long (by omega)
  refine (refpack_calls a len cap xs m w h hn nn (by omega) (by omega)).mono ?_
  rintro e w' ⟨a', c', rfl, o, b⟩
  exact pk_yes (by omega) (by omega) (by rw [hl]) o b
theorem refunpack_all (a : Option Addr) (len cap : Nat) (zs : List UInt8) (w : World) {n : Nat} (h : IsB n w a len zs) (hn : n ≤ w.heap.size) (hcap : len ≤ cap) (hl : len ≤ 500) :
    Calls Try.prog 13 #[.slice a len cap] w (UpAns zs w) := by
  by_cases hb : len = 0 ∨ len % 48 ≠ 0
  · exact refunpack_form a len cap zs w h.1 hb (by omega)
  · have hz := h.1
    obtain ⟨body, m, z, hh, l, c0, c1, c2, c3, rfl, _⟩ := split8 (b := zs) (by omega)
    obtain ⟨b, off, rfl, _, _⟩ := h.cell (k := body.length) (x := m) (by simp)
    have hl2 : len = body.length + 8 := by rw [hz]; simp
    subst hl2
    exact refunpack_eight b off cap body.length body m z hh l c0 c1 c2 c3 w h hn rfl (by omega) hcap (by omega)

set_option maxHeartbeats 2000000 in
theorem packs_walk (a1 : Option Addr) (len1 cap1 : Nat) (xs : List UInt8) (m : UInt8) (a2 : Option Addr) (len2 cap2 : Nat) (ys : List UInt8) (w : World)
    (h1 : IsB w.heap.size w a1 len1 xs) (n1 : a1 = none → cap1 = 0) (h2 : IsB w.heap.size w a2 len2 ys) (hc2 : len2 ≤ cap2) :
    Calls Try.prog 3 #[.slice a1 len1 cap1, .int .u8 (m.toNat : Int), .slice a2 len2 cap2] w fun e w' => e = .returned (.bool true) ∧ Below w.heap.size w w' := by
  by_cases g1 : 400 < len1 ∧ len1 ≤ 1000
  · have q1 : decide (400 < (len1 : Int)) = true := by simp; omega
    have q2 : decide ((len1 : Int) ≤ 1000) = true := by simp; omega
    clear g1 h1 h2 hc2
    go_enter Try.func3, Try.ntmps3
    go_wp2_with fail
    refine (awake_calls _).mono ?_
    rintro e w1 ⟨rfl, hb1⟩
    go_wp2_with fail
    refine (awake_calls _).mono ?_
    rintro e w2 ⟨rfl, hb2⟩
    go_wp2
    go_ret
    exact ⟨rfl, hb1.trans (hb2.mono hb1.size)⟩
  by_cases g2 : 2000 < len1
  · have q1 : decide (400 < (len1 : Int)) = true := by simp; omega
    have q2 : decide ((len1 : Int) ≤ 1000) = false := by simp; omega
    have q3 : decide (2000 < (len1 : Int)) = true := by simp; omega
    clear g1 h1 h2 hc2 g2
    go_enter Try.func3, Try.ntmps3
    go_wp2_with fail
    refine (awake_calls _).mono ?_
    rintro e w1 ⟨rfl, hb1⟩
    go_wp2_with fail
    refine (awake_calls _).mono ?_
    rintro e w2 ⟨rfl, hb2⟩
    go_wp2
    go_ret
    exact ⟨rfl, hb1.trans (hb2.mono hb1.size)⟩
  have q3 : decide (2000 < (len1 : Int)) = false := by simp; omega
  obtain ⟨G, q0⟩ : ∃ G, decide (400 < (len1 : Int)) = G := ⟨_, rfl⟩
  have q1 : G = true → decide ((len1 : Int) ≤ 1000) = false := by intro h; rw [h] at q0; simp at q0; simp; omega
  by_cases g3 : 400 < len2
  · have q4 : decide (400 < (len2 : Int)) = true := by simp; omega
    clear g1 h1 h2 hc2 g2 g3
    cases G with
    | true =>
      have q2 := q1 rfl
      go_enter Try.func3, Try.ntmps3
      go_wp2_with fail
      refine (awake_calls _).mono ?_
      rintro e w1 ⟨rfl, hb1⟩
      go_wp2_with fail
      refine (awake_calls _).mono ?_
      rintro e w2 ⟨rfl, hb2⟩
      go_wp2
      go_ret
      exact ⟨rfl, hb1.trans (hb2.mono hb1.size)⟩
    | false =>
      clear q1
      go_enter Try.func3, Try.ntmps3
      go_wp2_with fail
      refine (awake_calls _).mono ?_
      rintro e w1 ⟨rfl, hb1⟩
      go_wp2_with fail
      refine (awake_calls _).mono ?_
      rintro e w2 ⟨rfl, hb2⟩
      go_wp2
      go_ret
      exact ⟨rfl, hb1.trans (hb2.mono hb1.size)⟩
  have q4 : decide (400 < (len2 : Int)) = false := by simp; omega
  have hr : len1 ≤ 400 ∨ 1000 < len1 := by omega
  have hl2 : len2 ≤ 400 := by omega
  have HP : Hid ((packN xs m).1.length ≤ 1056) := packN_len xs m
  have lx2 := h2.1
  have HU : Hid ((unpackN ys).1.length ≤ 400) := by have := unpack_len ys; show _ ≤ _; omega
  have key : ∀ w1, Below w.heap.size w w1 → Calls Try.prog 10 #[.slice a1 len1 cap1, .int .u8 (m.toNat : Int)] w1 (PkAns xs m w1) := fun w1 b => pack_all a1 len1 cap1 xs m w1 (h1.below b (Nat.le_refl _)) b.size n1
  have key2 : ∀ w1, Below w.heap.size w w1 → Calls Try.prog 11 #[.slice a1 len1 cap1, .int .u8 (m.toNat : Int)] w1 (PkAns xs m w1) := fun w1 b => refpack_all a1 len1 cap1 xs m w1 (h1.below b (Nat.le_refl _)) b.size n1 hr
  have key3 : ∀ w1, Below w.heap.size w w1 → Calls Try.prog 12 #[.slice a2 len2 cap2] w1 (UpAns ys w1) := fun w1 b => unpack_calls a2 len2 cap2 ys w1 (h2.below b (Nat.le_refl _)) b.size hc2 (by omega)
  have key4 : ∀ w1, Below w.heap.size w w1 → Calls Try.prog 13 #[.slice a2 len2 cap2] w1 (UpAns ys w1) := fun w1 b => refunpack_all a2 len2 cap2 ys w1 (h2.below b (Nat.le_refl _)) b.size hc2 (by omega)
  unfold UpAns at key3 key4
  unfold PkAns at key key2
  generalize packN xs m = P at *
  generalize unpackN ys = U at *
  obtain ⟨ps, pe⟩ := P
  obtain ⟨us, um, ue⟩ := U
  dsimp only at key key2 key3 key4 HP HU
  obtain ⟨L, hL⟩ : ∃ L, ps.length = L := ⟨_, rfl⟩
  obtain ⟨V, hV⟩ : ∃ V, us.length = V := ⟨_, rfl⟩
  rw [hL] at key key2 HP
  rw [hV] at key3 key4 HU
  clear g1 g2 g3 h1 h2 lx2 hr hl2 hL hV
  cases G with
  | true =>
    have q2 := q1 rfl
    go_enter Try.func3, Try.ntmps3
    go_wp2_with fail
    refine (awake_calls _).mono ?_
    rintro e w1 ⟨rfl, b1⟩
    go_wp2_with fail
    refine (key _ b1).mono ?_
    rintro e w2 ⟨a4, c4, rfl, i4, n4, m4, b2⟩
    have B2 := b1.trans (b2.mono b1.size)
    go_wp2_with fail
    refine (key2 _ B2).mono ?_
    rintro e w3 ⟨a5, c5, rfl, i5, n5, m5, b3⟩
    have B3 := B2.trans (b3.mono B2.size)
    have i4 := i4.below b3 (Nat.le_refl _)
    go_wp2_with fail
    refine (key3 _ B3).mono ?_
    rintro e w4 ⟨a6, c6, rfl, i6, n6, b4⟩
    have B4 := B3.trans (b4.mono B3.size)
    have z3 := b3.size
    have i4 := i4.below b4 z3
    have i5 := i5.below b4 (Nat.le_refl _)
    have z4 := b4.size
    go_wp2_with fail
    refine (key4 _ B4).mono ?_
    rintro e w5 ⟨a7, c7, rfl, i7, n7, b5⟩
    have B5 := B4.trans (b5.mono B4.size)
    have z5 := b5.size
    have i4 := i4.below b5 (by omega)
    have i5 := i5.below b5 z4
    have i6 := i6.below b5 (Nat.le_refl _)
    clear key key2 key3 key4 b1 b2 b3 b4 b5
    go_wp2_with fail
    refine (same_calls _ _ _ _ _ _ _ _ _ i4 i5 (by omega) (by omega) (by have := HP.out; omega)).mono ?_
    rintro e w6 ⟨rfl, b6⟩
    rw [beq_self_eq_true]
    have z6 := b6.size
    go_wp2_with fail
    refine (same_calls _ _ _ _ _ _ _ _ _ (i6.below b6 z5) (i7.below b6 (Nat.le_refl _)) (by omega) z6 (by have := HU.out; omega)).mono ?_
    rintro e w7 ⟨rfl, b7⟩
    rw [beq_self_eq_true]
    go_wp2
    go_ret
    exact ⟨rfl, B5.trans ((b6.mono B5.size).trans (b7.mono (Nat.le_trans B5.size z6)))⟩
  | false =>
    clear q1
    go_enter Try.func3, Try.ntmps3
    go_wp2_with fail
    refine (awake_calls _).mono ?_
    rintro e w1 ⟨rfl, b1⟩
    go_wp2_with fail
    refine (key _ b1).mono ?_
    rintro e w2 ⟨a4, c4, rfl, i4, n4, m4, b2⟩
    have B2 := b1.trans (b2.mono b1.size)
    go_wp2_with fail
    refine (key2 _ B2).mono ?_
    rintro e w3 ⟨a5, c5, rfl, i5, n5, m5, b3⟩
    have B3 := B2.trans (b3.mono B2.size)
    have i4 := i4.below b3 (Nat.le_refl _)
    go_wp2_with fail
    refine (key3 _ B3).mono ?_
    rintro e w4 ⟨a6, c6, rfl, i6, n6, b4⟩
    have B4 := B3.trans (b4.mono B3.size)
    have z3 := b3.size
    have i4 := i4.below b4 z3
    have i5 := i5.below b4 (Nat.le_refl _)
    have z4 := b4.size
    go_wp2_with fail
    refine (key4 _ B4).mono ?_
    rintro e w5 ⟨a7, c7, rfl, i7, n7, b5⟩
    have B5 := B4.trans (b5.mono B4.size)
    have z5 := b5.size
    have i4 := i4.below b5 (by omega)
    have i5 := i5.below b5 z4
    have i6 := i6.below b5 (Nat.le_refl _)
    clear key key2 key3 key4 b1 b2 b3 b4 b5
    go_wp2_with fail
    refine (same_calls _ _ _ _ _ _ _ _ _ i4 i5 (by omega) (by omega) (by have := HP.out; omega)).mono ?_
    rintro e w6 ⟨rfl, b6⟩
    rw [beq_self_eq_true]
    have z6 := b6.size
    go_wp2_with fail
    refine (same_calls _ _ _ _ _ _ _ _ _ (i6.below b6 z5) (i7.below b6 (Nat.le_refl _)) (by omega) z6 (by have := HU.out; omega)).mono ?_
    rintro e w7 ⟨rfl, b7⟩
    rw [beq_self_eq_true]
    go_wp2
    go_ret
    exact ⟨rfl, B5.trans ((b6.mono B5.size).trans (b7.mono (Nat.le_trans B5.size z6)))⟩
end Go.Proofs.Ytdipffgmjmhjaaa
