/- Proved here: what message.wrong answers of bytes. Conditions: as each theorem states them. -/
import Derived.Test.YtbjeljmnknibnaaDoorMk
namespace Go.Proofs.YtbjeljmnknibnaaDoor
set_option linter.unusedSimpArgs false
set_option linter.unusedVariables false
set_option maxRecDepth 20000
open Go.RowKit Go.Shelf

/-- What is wrong with bytes as those of a message, but with the elements' own. -/
def wrongM (zs : List UInt8) : Int :=
  if 1000 < zs.length then 6 else
  match zs with
  | a :: b :: c :: d :: e :: f :: g :: h :: i :: t =>
    if a ≠ 9 ∨ b ≠ 3 ∨ g ≠ 128 ∨ numN [c, d, e] % 8388608 = 0 then 5
    else if knownB f.toNat = false then 12
    else if t.length < numN [h, i] then 2
    else if numN [h, i] < t.length then 3
    else 0
  | _ => 2
theorem wrongM_long {zs : List UInt8} (h : 1000 < zs.length) : wrongM zs = 6 := by unfold wrongM; rw [if_pos h]
theorem wrongM_short {zs : List UInt8} (h : zs.length < 9) : wrongM zs = 2 := by
  unfold wrongM
  rw [if_neg (by omega)]
  split
  · simp at h; omega
  · rfl
theorem wrongM_nine {a b c d e f g h i : UInt8} {t : List UInt8} (hl : t.length ≤ 991) : wrongM (a :: b :: c :: d :: e :: f :: g :: h :: i :: t) =
    if a ≠ 9 ∨ b ≠ 3 ∨ g ≠ 128 ∨ numN [c, d, e] % 8388608 = 0 then 5
    else if knownB f.toNat = false then 12
    else if t.length < numN [h, i] then 2
    else if numN [h, i] < t.length then 3
    else 0 := by
  unfold wrongM
  rw [if_neg (by simp; omega)]
/-- Where something is wrong, that is what is told. -/
theorem unM_wrong {zs : List UInt8} (h : wrongM zs ≠ 0) : unM zs = .error (wrongM zs) := by
  by_cases h1 : 1000 < zs.length
  · rw [unM_long h1, wrongM_long h1]
  by_cases h2 : zs.length < 9
  · rw [unM_short h2, wrongM_short h2]
  obtain ⟨a, b, c, d, e, f, g, hh, i, t, rfl⟩ := nine_of (zs := zs) (by omega)
  have ht : t.length ≤ 991 := by simp at h1; omega
  revert h
  rw [wrongM_nine ht, unM_nine ht]
  split
  · intro _; rfl
  split
  · intro _; rfl
  split
  · intro _; rfl
  split
  · intro _; rfl
  intro h
  exact absurd rfl h
/-- Where nothing is wrong, the elements tell. -/
theorem unM_fine {zs : List UInt8} (h : wrongM zs = 0) : ∃ a b c d e f g hh i t, zs = a :: b :: c :: d :: e :: f :: g :: hh :: i :: t ∧ t.length ≤ 991 ∧ unM zs = match unE 16 t with
      | .error E => .error E
      | .ok L => .ok ⟨(numN [c, d, e] % 8388608 : Nat), decide (8388608 ≤ numN [c, d, e]), f.toNat, L⟩ := by
  by_cases h1 : 1000 < zs.length
  · rw [wrongM_long h1] at h; cases h
  by_cases h2 : zs.length < 9
  · rw [wrongM_short h2] at h; cases h
  obtain ⟨a, b, c, d, e, f, g, hh, i, t, rfl⟩ := nine_of (zs := zs) (by omega)
  have ht : t.length ≤ 991 := by simp at h1; omega
  refine ⟨a, b, c, d, e, f, g, hh, i, t, rfl, ht, ?_⟩
  rw [wrongM_nine ht] at h
  split at h
  · cases h
  split at h
  · cases h
  split at h
  · cases h
  split at h
  · cases h
  rename_i h5 h12 hs hl
  rw [unM_nine ht, if_neg h5, if_neg h12, if_neg hs, if_neg hl]
  rfl

theorem num3_lt (a b c : UInt8) : numN [a, b, c] < 16777216 := by simpa using numN_lt [a, b, c]
theorem num2_lt (a b : UInt8) : numN [a, b] < 65536 := by simpa using numN_lt [a, b]
theorem byte_bne {a : UInt8} (v : UInt8) : ((a.toNat : Int) != ((v.toNat : Nat) : Int)) = decide (a ≠ v) := by
  rw [Bool.eq_iff_iff]
  simp only [bne_iff_ne, decide_eq_true_eq, ne_eq, ← UInt8.toNat_inj]
  omega

set_option maxHeartbeats 4000000 in
theorem mwrong_calls (ad : Option Addr) (len cap : Nat) (zs : List UInt8) (w : World) {n : Nat} (H : IsB n w ad len zs) (hn : n ≤ w.heap.size) (hlc : len ≤ cap) (hm : len ≤ 10000) (ht : Tab w) :
    Calls Tryd.prog 31 #[.slice ad len cap] w fun e w' => e = .returned (.int .i64 (wrongM zs)) ∧ Below w.heap.size w w' := by
  have hl : Hid (len = zs.length) := H.1
  by_cases h1 : 1000 < len
  · have q1 : decide ((1000 : Int) < (len : Int)) = true := by simp; omega
    have HE : Hid (wrongM zs = 6) := wrongM_long (by rw [← hl.out]; exact h1)
    clear h1 H
    go_enter Tryd.func31, Tryd.ntmps31
    go_wp2
    go_ret
    exact ⟨ret_int HE.out.symm, Below.refl _ _⟩
  have q1 : decide ((1000 : Int) < (len : Int)) = false := by simp; omega
  by_cases h2 : len < 9
  · have q2 : decide ((len : Int) < 9) = true := by simp; omega
    have HE : Hid (wrongM zs = 2) := wrongM_short (by rw [← hl.out]; exact h2)
    clear h1 h2 H
    go_enter Tryd.func31, Tryd.ntmps31
    go_wp2
    go_ret
    exact ⟨ret_int HE.out.symm, Below.refl _ _⟩
  have q2 : decide ((len : Int) < 9) = false := by simp; omega
  obtain ⟨a, b, c, d, e, f, g, hh, i, t, rfl⟩ := nine_of (zs := zs) (by rw [← hl.out]; omega)
  have hlt : Hid (len = t.length + 9) := hl.out
  have ht1 : t.length ≤ 991 := by have := hlt.out; omega
  have HW0 := wrongM_nine (a := a) (b := b) (c := c) (d := d) (e := e) (f := f) (g := g) (h := hh) (i := i) ht1
  have HN3 := num3_lt c d e
  have HN2 := num2_lt hh i
  have HRf := fun w1 (hb : Below w.heap.size w w1) => refof_calls ad len cap w1 (H.below hb hn) (Nat.le_trans hn hb.size) (by omega) hlc
  have HNm := fun w1 (hb : Below w.heap.size w w1) (bl off : Nat) (ea : ad = some ⟨bl, off, none⟩) => (show IsB n w1 (some ⟨bl, off + 7, none⟩) 2 [hh, i] from by
    obtain ⟨bl', off', ea', _, _, I2, _⟩ := (H.below hb hn).mid3
    rw [ea] at ea'
    cases ea'
    exact I2)
  obtain ⟨bl, off, rfl, hbl, C0⟩ := H.cell (k := 0) (x := a) rfl
  have C := fun w1 (hb : Below w.heap.size w w1) (j : Nat) (x : UInt8) (hx : (a :: b :: c :: d :: e :: f :: g :: hh :: i :: t)[j]? = some x) =>
    (hb.cell (p := ⟨bl, off + j, none⟩) (by show bl < _; omega)).trans (C0 j x hx)
  have c0 := C w (Below.refl _ _) 0 a rfl
  have c1 := C w (Below.refl _ _) 1 b rfl
  have c6 := C w (Below.refl _ _) 6 g rfl
  rw [Nat.add_zero] at c0
  have hnb := not_back HN3
  have HZ : Hid (((numN [c, d, e] % 8388608 : Nat) : Int) = 0 ↔ numN [c, d, e] % 8388608 = 0) := by show _ ↔ _; omega
  obtain ⟨N3, hN3⟩ : ∃ N3, numN [c, d, e] = N3 := ⟨_, rfl⟩
  obtain ⟨N2, hN2⟩ : ∃ N2, numN [hh, i] = N2 := ⟨_, rfl⟩
  rw [hN3] at HN3 hnb HZ HRf HW0
  rw [hN2] at HN2 HW0
  have HW : Hid (wrongM (a :: b :: c :: d :: e :: f :: g :: hh :: i :: t) = _) := HW0
  clear HW0
  have Q3 : Hid (((a.toNat : Int) != 9) = decide (a ≠ 9)) := byte_bne 9
  have Q4 : Hid (((b.toNat : Int) != 3) = decide (b ≠ 3)) := byte_bne 3
  have Q5 : Hid (((g.toNat : Int) != 128) = decide (g ≠ 128)) := byte_bne 128
  have hc9 : 9 ≤ cap := by omega
  have hf8 : f.toNat < 256 := f.toNat_lt
  have hb0 : 0 < len := by omega
  have hb1 : 1 < len := by omega
  have hb5 : 5 < len := by omega
  have hb6 : 6 < len := by omega
  have hb9 : 9 ≤ len := by omega
  clear H C0 h1 h2 hl
  by_cases e0 : a = 9
  · by_cases e1 : b = 3
    · by_cases e6 : g = 128
      · have q3 : ((a.toNat : Int) != 9) = false := by rw [Q3.out]; simpa using e0
        have q4 : ((b.toNat : Int) != 3) = false := by rw [Q4.out]; simpa using e1
        have q5 : ((g.toNat : Int) != 128) = false := by rw [Q5.out]; simpa using e6
        by_cases hz : N3 % 8388608 = 0
        · have HE : Hid (wrongM (a :: b :: c :: d :: e :: f :: g :: hh :: i :: t) = 5) := by show _ = _; rw [HW.out, if_pos (.inr (.inr (.inr hz)))]
          have q6 : ((N3 % 8388608 : Nat) : Int) = 0 := HZ.out.2 hz
          rw [q6] at hnb
          clear e0 e1 e6 hz HW q6 hN2
          go_enter Tryd.func31, Tryd.ntmps31
          go_wp2_with fail
          refine (HRf _ (Below.refl _ _)).mono ?_
          rintro e' w1 ⟨rfl, b1⟩
          go_wp2
          go_ret
          exact ⟨ret_int HE.out.symm, b1⟩
        · have q6 : (((N3 % 8388608 : Nat) : Int) == 0) = false := by simpa using fun h => hz (HZ.out.1 h)
          have HW1 : Hid (wrongM (a :: b :: c :: d :: e :: f :: g :: hh :: i :: t) = if knownB (f.toNat : Int) = false then 12 else if t.length < N2 then 2 else if N2 < t.length then 3 else 0) := by
            show _ = _
            rw [HW.out, if_neg (by simp [e0, e1, e6, hz])]
          clear HW e0 e1 e6 hz
          go_enter Tryd.func31, Tryd.ntmps31
          go_wp2_with fail
          refine (HRf _ (Below.refl _ _)).mono ?_
          rintro e' w1 ⟨rfl, b1⟩
          have c5 := C w1 b1 5 f rfl
          clear HRf
          obtain ⟨r6, hr6⟩ : ∃ r6, ((N3 % 8388608 : Nat) : Int) = r6 := ⟨_, rfl⟩
          rw [hr6] at hnb q6
          go_wp2_with fail
          refine (known_calls _ w1 (ht.on b1)).mono ?_
          rintro e' w2 ⟨rfl, b2⟩
          have B2 := b1.trans (b2.mono b1.size)
          have I2 := HNm w2 B2 bl off rfl
          cases hk : knownB (f.toNat : Int)
          · have HE : Hid (wrongM (a :: b :: c :: d :: e :: f :: g :: hh :: i :: t) = 12) := by show _ = _; rw [HW1.out, if_pos hk]
            clear hk HW1 HNm
            go_wp2
            go_ret
            exact ⟨ret_int HE.out.symm, B2⟩
          · have HW : Hid (wrongM (a :: b :: c :: d :: e :: f :: g :: hh :: i :: t) = if t.length < N2 then 2 else if N2 < t.length then 3 else 0) := by
              show _ = _
              rw [HW1.out, if_neg (by rw [hk]; decide)]
            clear hk HNm HW1
            go_wp2_with fail
            refine (mnumber_calls _ 2 _ _ w2 I2 (Nat.le_trans hn B2.size) (by decide)).mono ?_
            rw [hN2]
            rintro e' w3 ⟨rfl, b3⟩
            have B3 := B2.trans (b3.mono B2.size)
            by_cases hs : t.length < N2
            · have HE : Hid (wrongM (a :: b :: c :: d :: e :: f :: g :: hh :: i :: t) = 2) := by show _ = _; rw [HW.out, if_pos hs]
              have q7 : decide ((len : Int) - 9 < (N2 : Int)) = true := by have := hlt.out; simp; omega
              clear HW hs
              go_wp2
              go_ret
              exact ⟨ret_int HE.out.symm, B3⟩
            · have q7 : decide ((len : Int) - 9 < (N2 : Int)) = false := by have := hlt.out; simp; omega
              by_cases hs2 : N2 < t.length
              · have HE : Hid (wrongM (a :: b :: c :: d :: e :: f :: g :: hh :: i :: t) = 3) := by show _ = _; rw [HW.out, if_neg hs, if_pos hs2]
                have q8 : decide ((N2 : Int) < (len : Int) - 9) = true := by have := hlt.out; simp; omega
                clear HW hs hs2
                go_wp2
                go_ret
                exact ⟨ret_int HE.out.symm, B3⟩
              · have q8 : decide ((N2 : Int) < (len : Int) - 9) = false := by have := hlt.out; simp; omega
                have HE : Hid (wrongM (a :: b :: c :: d :: e :: f :: g :: hh :: i :: t) = 0) := by show _ = _; rw [HW.out, if_neg hs, if_neg hs2]
                clear HW hs hs2
                go_wp2
                go_ret
                exact ⟨ret_int HE.out.symm, B3⟩
      · have HE : Hid (wrongM (a :: b :: c :: d :: e :: f :: g :: hh :: i :: t) = 5) := by show _ = _; rw [HW.out, if_pos (.inr (.inr (.inl e6)))]
        have q3 : ((a.toNat : Int) != 9) = false := by rw [Q3.out]; simpa using e0
        have q4 : ((b.toNat : Int) != 3) = false := by rw [Q4.out]; simpa using e1
        have q5 : ((g.toNat : Int) != 128) = true := by rw [Q5.out]; simpa using e6
        clear HW HRf HNm e0 e1 e6
        go_enter Tryd.func31, Tryd.ntmps31
        go_wp2
        go_ret
        exact ⟨ret_int HE.out.symm, Below.refl _ _⟩
    · have HE : Hid (wrongM (a :: b :: c :: d :: e :: f :: g :: hh :: i :: t) = 5) := by show _ = _; rw [HW.out, if_pos (.inr (.inl e1))]
      have q3 : ((a.toNat : Int) != 9) = false := by rw [Q3.out]; simpa using e0
      have q4 : ((b.toNat : Int) != 3) = true := by rw [Q4.out]; simpa using e1
      clear HW HRf HNm e0 e1
      go_enter Tryd.func31, Tryd.ntmps31
      go_wp2
      go_ret
      exact ⟨ret_int HE.out.symm, Below.refl _ _⟩
  · have HE : Hid (wrongM (a :: b :: c :: d :: e :: f :: g :: hh :: i :: t) = 5) := by show _ = _; rw [HW.out, if_pos (.inl e0)]
    have q3 : ((a.toNat : Int) != 9) = true := by rw [Q3.out]; simpa using e0
    clear HW HRf HNm e0
    go_enter Tryd.func31, Tryd.ntmps31
    go_wp2
    go_ret
    exact ⟨ret_int HE.out.symm, Below.refl _ _⟩
end Go.Proofs.YtbjeljmnknibnaaDoor
