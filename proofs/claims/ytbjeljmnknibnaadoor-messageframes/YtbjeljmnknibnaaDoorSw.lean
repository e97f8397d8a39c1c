/- Proved here: what element.wrong, element.bodyOf, element.spansOf and the closures of Pack and Find answer. Conditions: as each theorem states them. -/
import Derived.Test.YtbjeljmnknibnaaDoorLa
import Derived.Test.YtbjeljmnknibnaaDoorEi
namespace Go.Proofs.YtbjeljmnknibnaaDoor
set_option linter.unusedSimpArgs false
set_option linter.unusedVariables false
open Go.RowKit Go.Shelf

/-- Why an element can't be read. -/
def wrongN (x : El) (id : UInt8) (n : Nat) : Int := if x.id ≠ id then 12 else if x.body.length ≠ n then 5 else 0
set_option maxHeartbeats 1000000 in
theorem wrong_calls (x : El) (a : Option Addr) (l c : Nat) (hl : l = x.body.length) (id : UInt8) (n : Nat) (w : World) :
    Calls Tryd.prog 59 #[ieV x.id a l c, .int .u8 (id.toNat : Int), .int .i64 n] w fun e w' => e = .returned (.int .i64 (wrongN x id n)) ∧ Below w.heap.size w w' := by
  have A0 : Below w.heap.size w (w.alloc (.cells #[.int .u8 (x.id.toNat : Int), .slice a l c] 60)) := (Below.refl _ w).alloc (Nat.le_refl _) _
  by_cases h1 : x.id = id
  · have q1 : ((x.id.toNat : Int) != (id.toNat : Int)) = false := by rw [h1]; simp
    by_cases h2 : l = n
    · have HE : Hid (wrongN x id n = 0) := by show _ = _; unfold wrongN; rw [if_neg (by simpa using h1), if_neg (by simp; omega)]
      have q2 : ((l : Int) != (n : Int)) = false := by rw [h2]; simp
      clear h1 h2 hl
      go_enter Tryd.func59, Tryd.ntmps59
      go_wp2
      go_ret
      exact ⟨by rw [HE.out]; rfl, A0⟩
    · have HE : Hid (wrongN x id n = 5) := by show _ = _; unfold wrongN; rw [if_neg (by simpa using h1), if_pos (by omega)]
      have q2 : ((l : Int) != (n : Int)) = true := by rw [bne_iff_ne]; omega
      clear h1 h2 hl
      go_enter Tryd.func59, Tryd.ntmps59
      go_wp2
      go_ret
      exact ⟨by rw [HE.out]; rfl, A0⟩
  · have HE : Hid (wrongN x id n = 12) := by show _ = _; unfold wrongN; rw [if_pos h1]
    have q1 : ((x.id.toNat : Int) != (id.toNat : Int)) = true := by
      rw [bne_iff_ne]
      intro e
      exact h1 (UInt8.toNat_inj.1 (by omega))
    clear h1 hl
    go_enter Tryd.func59, Tryd.ntmps59
    go_wp2
    go_ret
    exact ⟨by rw [HE.out]; rfl, A0⟩

set_option maxHeartbeats 1000000 in
theorem spans_calls (b : Nat) (w : World) : Calls Tryd.prog 60 #[.pointer (some ⟨b, 0, none⟩)] w fun e w' => e = .returned (.agg #[.pointer (some ⟨b, 1, none⟩), .pointer (some ⟨b, 2, none⟩), .pointer (some ⟨b, 3, none⟩), .pointer (some ⟨b, 4, none⟩), .pointer (some ⟨b, 5, none⟩)]) ∧ Below w.heap.size w w' := by
  go_enter Tryd.func60, Tryd.ntmps60
  go_wp2
  go_region
  go_wp2
  refine bodyPost_ret (v := .agg #[.pointer (some ⟨b, 1, none⟩), .pointer (some ⟨b, 2, none⟩), .pointer (some ⟨b, 3, none⟩), .pointer (some ⟨b, 4, none⟩), .pointer (some ⟨b, 5, none⟩)]) (by simp [results, Tryd.results60, go_sem]) rfl ⟨rfl, ?_⟩
  go_grown

set_option maxHeartbeats 1000000 in
theorem long_calls (x : El) (a : Option Addr) (l c : Nat) (hl : l = x.body.length) (w : World) :
    Calls Tryd.prog 52 #[ieV x.id a l c] w fun e w' => e = .returned (.bool (longB x)) ∧ Below w.heap.size w w' := by
  have A0 : Below w.heap.size w (w.alloc (.cells #[.int .u8 (x.id.toNat : Int), .slice a l c] 60)) := (Below.refl _ w).alloc (Nat.le_refl _) _
  have HE : Hid (decide (200 < (l : Int)) = longB x) := by show _ = _; unfold longB; rw [← hl]; congr 1; simp; omega
  clear hl
  go_enter Tryd.func52, Tryd.ntmps52
  go_wp2
  go_ret
  exact ⟨ret_bool HE.out, A0⟩

def idB (id : UInt8) (x : El) : Bool := x.id == id
set_option maxHeartbeats 1000000 in
theorem find_calls (x : El) (a : Option Addr) (l c : Nat) (id : UInt8) (b : Nat) (w : World) (hb : BK w b #[.int .u8 (id.toNat : Int)] 5) :
    Calls Tryd.prog 58 #[ieV x.id a l c, .pointer (some ⟨b, 0, none⟩)] w fun e w' => e = .returned (.bool (idB id x)) ∧ Below w.heap.size w w' := by
  have A0 : Below w.heap.size w (w.alloc (.cells #[.int .u8 (x.id.toNat : Int), .slice a l c] 60)) := (Below.refl _ w).alloc (Nat.le_refl _) _
  have HE : Hid (((x.id.toNat : Int) == (id.toNat : Int)) = idB id x) := by
    show _ = _
    unfold idB
    rw [Bool.eq_iff_iff, beq_iff_eq, beq_iff_eq, ← UInt8.toNat_inj]
    omega
  have k0 := hb.cell 0 _ rfl
  have kl := hb.lt
  go_enter Tryd.func58, Tryd.ntmps58
  go_wp2
  go_ret
  exact ⟨ret_bool HE.out, A0⟩

/-! ### The head of an element -/
theorem headN_short {r : List UInt8} (h : r.length < 4) : headN r = .error 2 := by
  match r, h with
  | [], _ => rfl
  | [_], _ => rfl
  | [_, _], _ => rfl
  | [_, _, _], _ => rfl
  | _ :: _ :: _ :: _ :: _, h => simp at h; omega
/-- What bodyOf answers. -/
def hdAns (r : List UInt8) : Int × Int := match headN r with | .error e => (0, e) | .ok n => (((n : Nat) : Int), 0)
theorem hdAns_four (i m u v : UInt8) (t : List UInt8) : hdAns (i :: m :: u :: v :: t) = if m ≠ 128 then (0, 5) else if 200 < numN [u, v] then (0, 6) else if t.length < numN [u, v] then (0, 2) else (((numN [u, v] : Nat) : Int), 0) := by
  unfold hdAns
  show (match (if m ≠ 128 then .error 5 else if 200 < numN [u, v] then .error 6 else if t.length < numN [u, v] then .error 2 else .ok (numN [u, v]) : Except Int Nat) with | .error e => ((0 : Int), e) | .ok n => (((n : Nat) : Int), 0)) = _
  generalize numN [u, v] = N
  by_cases h1 : m ≠ 128
  · rw [if_pos h1, if_pos h1]
  · rw [if_neg h1, if_neg h1]
    by_cases h2 : 200 < N
    · rw [if_pos h2, if_pos h2]
    · rw [if_neg h2, if_neg h2]
      by_cases h3 : t.length < N
      · rw [if_pos h3, if_pos h3]
      · rw [if_neg h3, if_neg h3]
theorem numN_two (a b : UInt8) : numN [a, b] = a.toNat * 256 + b.toNat := by simp [numN]
set_option maxHeartbeats 2000000 in
theorem body_calls (a : Option Addr) (len cap : Nat) (r : List UInt8) (w : World) {n : Nat} (h : IsB n w a len r) (hn : n ≤ w.heap.size) (hlc : len ≤ cap) (hm : len ≤ 10000) :
    Calls Tryd.prog 56 #[.slice a len cap] w fun e w' => e = .returned (.tuple #[.int .i64 (hdAns r).1, .int .i64 (hdAns r).2]) ∧ Below w.heap.size w w' := by
  have l1 := h.1
  by_cases h4 : len < 4
  · have HE : Hid (hdAns r = (0, 2)) := by show _ = _; unfold hdAns; rw [headN_short (by omega)]
    have q1 : decide ((len : Int) < 4) = true := by simp; omega
    clear h l1 h4
    go_enter Tryd.func56, Tryd.ntmps56
    go_wp2
    go_ret2
    exact ⟨by rw [HE.out]; rfl, Below.refl _ _⟩
  · obtain ⟨i, m, u, v, t, rfl⟩ : ∃ i m u v t, r = i :: m :: u :: v :: t := by
      match r, l1 with
      | i :: m :: u :: v :: t, _ => exact ⟨i, m, u, v, t, rfl⟩
      | [], l1 => simp at l1; omega
      | [_], l1 => simp at l1; omega
      | [_, _], l1 => simp at l1; omega
      | [_, _, _], l1 => simp at l1; omega
    have lt : t.length = len - 4 := by simp at l1; omega
    obtain ⟨b, off, rfl, hbn, hc⟩ := h.cell (k := 0) (x := i) rfl
    have q1 : decide ((len : Int) < 4) = false := by simp; omega
    have T2 : IsB n w (some ⟨b, off + 2, none⟩) 2 [u, v] := by
      have h1 : IsB n w (some ⟨b, off, none⟩) len ([i, m] ++ ([u, v] ++ t)) := h
      have h2 := h1.dropA
      exact h2.takeA
    have HN := number_calls (some ⟨b, off + 2, none⟩) 2 (cap - 2) [u, v] w T2 hn (by decide)
    have hN : numN [u, v] ≤ 65535 := by have := numN_lt [u, v]; simp at this; omega
    have HE : Hid (hdAns (i :: m :: u :: v :: t) = if m ≠ 128 then (0, 5) else if 200 < numN [u, v] then (0, 6) else if t.length < numN [u, v] then (0, 2) else (((numN [u, v] : Nat) : Int), 0)) := hdAns_four i m u v t
    rw [lt] at HE
    generalize numN [u, v] = N at HN hN HE
    have d1 := hc 1 m rfl
    have bs : b < w.heap.size := by omega
    have MH : Hid (∀ w', Below w.heap.size w w' → w'.cell? ⟨b, off + 1, none⟩ = some (.int .u8 (m.toNat : Int))) := fun w' hb => (hb.cell (p := ⟨b, off + 1, none⟩) bs).trans d1
    clear hc l1 T2 h d1
    by_cases hm1 : m = 128
    · have q2 : ((m.toNat : Int) != 128) = false := by rw [hm1]; decide
      have HE2 : Hid (hdAns (i :: m :: u :: v :: t) = if 200 < N then (0, 6) else if len - 4 < N then (0, 2) else (((N : Nat) : Int), 0)) := by show _ = _; rw [HE.out, if_neg (by simpa using hm1)]
      clear HE hm1
      generalize m.toNat = p at *
      by_cases hb1 : 200 < N
      · have q3 : decide (200 < (N : Int)) = true := by simp; omega
        have HE3 : Hid (hdAns (i :: m :: u :: v :: t) = (0, 6)) := by show _ = _; rw [HE2.out, if_pos hb1]
        clear HE2 hb1
        go_enter Tryd.func56, Tryd.ntmps56
        go_wp2_with fail
        refine HN.mono ?_
        rintro e w1 ⟨rfl, b1⟩
        have d1 := MH.out w1 b1
        go_wp2
        go_ret2
        exact ⟨by rw [HE3.out]; rfl, b1⟩
      · have q3 : decide (200 < (N : Int)) = false := by simp; omega
        by_cases hb2 : len - 4 < N
        · have q4 : decide ((len : Int) - 4 < (N : Int)) = true := by simp; omega
          have HE3 : Hid (hdAns (i :: m :: u :: v :: t) = (0, 2)) := by show _ = _; rw [HE2.out, if_neg hb1, if_pos hb2]
          clear HE2 hb1 hb2
          go_enter Tryd.func56, Tryd.ntmps56
          go_wp2_with fail
          refine HN.mono ?_
          rintro e w1 ⟨rfl, b1⟩
          have d1 := MH.out w1 b1
          go_wp2
          go_ret2
          exact ⟨by rw [HE3.out]; rfl, b1⟩
        · have q4 : decide ((len : Int) - 4 < (N : Int)) = false := by simp; omega
          have HE3 : Hid (hdAns (i :: m :: u :: v :: t) = (((N : Nat) : Int), 0)) := by show _ = _; rw [HE2.out, if_neg hb1, if_neg hb2]
          clear HE2 hb1 hb2
          go_enter Tryd.func56, Tryd.ntmps56
          go_wp2_with fail
          refine HN.mono ?_
          rintro e w1 ⟨rfl, b1⟩
          have d1 := MH.out w1 b1
          go_wp2
          go_ret2
          exact ⟨by rw [HE3.out]; rfl, b1⟩
    · have q2 : ((m.toNat : Int) != 128) = true := by
        rw [bne_iff_ne]
        intro e
        exact hm1 (UInt8.toNat_inj.1 (by show m.toNat = 128; omega))
      have HE2 : Hid (hdAns (i :: m :: u :: v :: t) = (0, 5)) := by show _ = _; rw [HE.out, if_pos hm1]
      clear HE hm1
      generalize m.toNat = p at *
      go_enter Tryd.func56, Tryd.ntmps56
      go_wp2_with fail
      refine HN.mono ?_
      rintro e w1 ⟨rfl, b1⟩
      have d1 := MH.out w1 b1
      go_wp2
      go_ret2
      exact ⟨by rw [HE2.out]; rfl, b1⟩
end Go.Proofs.YtbjeljmnknibnaaDoor
