/- Proved here: sums.Eight, Ten, Long and Syndrome answer the checks of the bytes that they are given. Conditions: as each theorem states them. -/
import Derived.WalkKit
import Derived.Handy
import Derived.WalkLawsBesides
import Derived.Deep.RegionWith
import Derived.BigRegion
import Derived.Test.YtpifmljbaogcbaaDoorRem
namespace Go.Proofs.YtpifmljbaogcbaaDoor
open Go.RowKit

def eightN (zs : List UInt8) : Nat := feedN 7 8 0 (bitsOf zs) ^^^ 85
def tenN (zs : List UInt8) : Nat := feedN 563 10 0 (bitsOf zs)
def longN (zs : List UInt8) : Nat := 4294967295 ^^^ feedN 79764919 32 4294967295 (bitsOf zs)

theorem eightN_lt (zs : List UInt8) : eightN zs < 256 := Nat.xor_lt_two_pow (n := 8) (feedN_lt 7 8 0 _ (by decide) (by decide)) (by decide)
theorem tenN_lt (zs : List UInt8) : tenN zs < 1024 := feedN_lt 563 10 0 _ (by decide) (by decide)
theorem longN_lt (zs : List UInt8) : longN zs < 4294967296 := Nat.xor_lt_two_pow (n := 32) (by decide) (feedN_lt 79764919 32 4294967295 _ (by decide) (by decide))

theorem IsB.cell {n : Nat} {W : World} {a : Option Addr} {len : Nat} {zs : List UInt8} (h : IsB n W a len zs) {k : Nat} {x : UInt8} (hx : zs[k]? = some x) :
    ∃ b off, a = some ⟨b, off, none⟩ ∧ b < n ∧ ∀ j x, zs[j]? = some x → W.cell? ⟨b, off + j, none⟩ = some (.int .u8 (x.toNat : Int)) := by
  rcases h.2 with rfl | h
  · cases hx
  · exact h
theorem IsB.mono {n m : Nat} {W : World} {a : Option Addr} {len : Nat} {zs : List UInt8} (h : IsB n W a len zs) (hm : n ≤ m) : IsB m W a len zs :=
  ⟨h.1, Or.elim h.2 Or.inl fun ⟨b, off, e, hb, hc⟩ => Or.inr ⟨b, off, e, Nat.lt_of_lt_of_le hb hm, hc⟩⟩
theorem IsB.take {n : Nat} {W : World} {a : Option Addr} {len : Nat} {zs : List UInt8} (h : IsB n W a len zs) (k : Nat) (hk : k ≤ zs.length) : IsB n W a k (zs.take k) := by
  refine ⟨by simp; omega, ?_⟩
  rcases h.2 with rfl | ⟨b, off, e, hb, hc⟩
  · left; simp
  · right
    refine ⟨b, off, e, hb, fun j x hx => hc j x ?_⟩
    rw [List.getElem?_take] at hx
    split at hx
    · exact hx
    · cases hx

theorem IsB.drew {n : Nat} {W : World} {a : Option Addr} {len : Nat} {zs : List UInt8} (h : IsB n W a len zs) : IsB n W.drew a len zs := h.below (m := n) ((Below.refl n W).drew) (Nat.le_refl _)

set_option maxHeartbeats 400000 in
theorem eight_calls (a : Option Addr) (len cap : Nat) (zs : List UInt8) (hreach : zs.length ≤ maxLen) (w : World) {n : Nat} (hI : IsB n w a len zs) (hn : n ≤ w.heap.size) :
    Calls Tryd.prog 42 #[.slice a len cap] w fun e W' => e = .returned (.int .u8 (eightN zs : Nat)) ∧ Below w.heap.size w W' := by
  have hlt := feedN_lt 7 8 0 (bitsOf zs) (by decide) (by decide)
  have hx : bits .xor .u8 ((feedN 7 8 0 (bitsOf zs) : Nat) : Int) 85 = ((eightN zs : Nat) : Int) := u8_xor_nat _ 85 hlt (by decide)
  go_enter Tryd.func42, Tryd.ntmps42
  go_wp2_with (go_at_call 43; refine (rem8_calls _ _ _ zs hreach _ (hI.mono hn)).mono ?_; rintro e w' ⟨rfl, hb⟩)
  go_ret
  exact ⟨rfl, hb⟩

set_option maxHeartbeats 400000 in
theorem ten_calls (a : Option Addr) (len cap : Nat) (zs : List UInt8) (hreach : zs.length ≤ maxLen) (w : World) {n : Nat} (hI : IsB n w a len zs) (hn : n ≤ w.heap.size) :
    Calls Tryd.prog 30 #[.slice a len cap] w fun e W' => e = .returned (.int .u16 (tenN zs : Nat)) ∧ Below w.heap.size w W' := by
  have hlt := feedN_lt 563 10 0 (bitsOf zs) (by decide) (by decide)
  go_enter Tryd.func30, Tryd.ntmps30
  go_wp2_with (go_at_call 43; refine (rem10_calls _ _ _ zs hreach _ (hI.mono hn)).mono ?_; rintro e w' ⟨rfl, hb⟩)
  go_ret
  exact ⟨rfl, hb⟩


/-- How the last byte differs from the check of those ahead of it. -/
def synN (zs : List UInt8) : Nat := match zs.getLast? with
  | none => 0
  | some x => x.toNat ^^^ eightN zs.dropLast

set_option maxHeartbeats 400000 in
theorem syndrome_calls (a : Option Addr) (len cap : Nat) (zs : List UInt8) (hcap : len ≤ cap) (hreach : zs.length ≤ maxLen) (w : World) {n : Nat} (hI : IsB n w a len zs) (hn : n ≤ w.heap.size) :
    Calls Tryd.prog 46 #[.slice a len cap] w fun e W' => e = .returned (.int .u8 (synN zs : Nat)) ∧ Below w.heap.size w W' := by
  have hlen := hI.1
  rcases List.eq_nil_or_concat zs with rfl | ⟨ys, x, rfl⟩
  · simp at hlen; subst hlen
    go_enter Tryd.func46, Tryd.ntmps46
    go_wp2
    go_ret
    exact ⟨rfl, Below.refl _ _⟩
  · have hT := hI.take ys.length (by simp)
    obtain ⟨b, off, rfl, hb, hc⟩ := hI.cell (k := ys.length) (x := x) (by simp)
    have hcx := hc ys.length x (by simp)
    rw [List.concat_eq_append]
    simp at hlen hT
    subst hlen
    have hx : bits .xor .u8 (x.toNat : Int) ((eightN ys : Nat) : Int) = ((synN (ys ++ [x]) : Nat) : Int) := by
      rw [u8_xor_nat _ _ x.toNat_lt (eightN_lt _)]; simp [synN]
    simp [maxLen] at hreach
    have hr2 : ys.length ≤ maxLen := by unfold maxLen; omega
    obtain ⟨m, hm⟩ : ∃ m, x.toNat = m := ⟨_, rfl⟩
    rw [hm] at hx hcx
    clear hc hI hm
    go_enter Tryd.func46, Tryd.ntmps46
    go_wp2
    go_region_with (go_at_call 42; refine (eight_calls _ _ _ ys hr2 _ hT.drew hn).mono ?_; rintro e w' ⟨rfl, hbl⟩; have hcx' := (hbl.cell (p := ⟨b, off + ys.length, none⟩) (Nat.lt_of_lt_of_le hb hn)).trans hcx)
    all_goals (go_wp2; go_ret; exact ⟨rfl, ((Below.refl _ w).drew).trans hbl⟩)
end Go.Proofs.YtpifmljbaogcbaaDoor
