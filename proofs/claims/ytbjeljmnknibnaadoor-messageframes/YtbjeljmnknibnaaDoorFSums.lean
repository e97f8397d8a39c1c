/- Proved here: sums.Eight, Ten, Long and Syndrome answer the checks of the bytes that they are given. Conditions: as each theorem states them. -/
import Derived.WalkKit
import Derived.Handy
import Derived.WalkLawsBesides
import Derived.Deep.RegionWith
import Derived.BigRegion
import Derived.Test.YtbjeljmnknibnaaDoorFRem
namespace Go.Proofs.YtbjeljmnknibnaaDoor.F
open Go.RowKit

def eightN (zs : List UInt8) : Nat := feedN 7 8 0 (bitsOf zs) ^^^ 85
def tenN (zs : List UInt8) : Nat := feedN 563 10 0 (bitsOf zs)
def longN (zs : List UInt8) : Nat := 4294967295 ^^^ feedN 79764919 32 4294967295 (bitsOf zs)

theorem eightN_lt (zs : List UInt8) : eightN zs < 256 := Nat.xor_lt_two_pow (n := 8) (feedN_lt 7 8 0 _ (by decide) (by decide)) (by decide)
theorem tenN_lt (zs : List UInt8) : tenN zs < 1024 := feedN_lt 563 10 0 _ (by decide) (by decide)
theorem longN_lt (zs : List UInt8) : longN zs < 4294967296 := Nat.xor_lt_two_pow (n := 32) (by decide) (feedN_lt 79764919 32 4294967295 _ (by decide) (by decide))

theorem IsB.cell {n : Nat} {W : World} {a : Option Addr} {len : Nat} {zs : List UInt8} (h : IsB n W a len zs) {k : Nat} {x : UInt8} (hx : zs[k]? = some x) :
    ∃ b off, a = some ⟨b, off, none⟩ ∧ b < n ∧ ∀ j x, zs[j]? = some x → W.cell? ⟨b, off + j, none⟩ = some (.int .u8 (x.toNat : Int)) := by
  rcases h.2 with rfl | h
  · cases hx
  · exact h
theorem IsB.mono {n m : Nat} {W : World} {a : Option Addr} {len : Nat} {zs : List UInt8} (h : IsB n W a len zs) (hm : n ≤ m) : IsB m W a len zs :=
  ⟨h.1, Or.elim h.2 Or.inl fun ⟨b, off, e, hb, hc⟩ => Or.inr ⟨b, off, e, Nat.lt_of_lt_of_le hb hm, hc⟩⟩
theorem IsB.take {n : Nat} {W : World} {a : Option Addr} {len : Nat} {zs : List UInt8} (h : IsB n W a len zs) (k : Nat) (hk : k ≤ zs.length) : IsB n W a k (zs.take k) := by
  refine ⟨by simp; omega, ?_⟩
  rcases h.2 with rfl | ⟨b, off, e, hb, hc⟩
  · left; simp
  · right
    refine ⟨b, off, e, hb, fun j x hx => hc j x ?_⟩
    rw [List.getElem?_take] at hx
    split at hx
    · exact hx
    · cases hx

theorem IsB.drew {n : Nat} {W : World} {a : Option Addr} {len : Nat} {zs : List UInt8} (h : IsB n W a len zs) : IsB n W.drew a len zs := h.below (m := n) ((Below.refl n W).drew) (Nat.le_refl _)

set_option maxHeartbeats 400000 in
theorem long_calls (a : Option Addr) (len cap : Nat) (zs : List UInt8) (hreach : zs.length ≤ maxLen) (w : World) {n : Nat} (hI : IsB n w a len zs) (hn : n ≤ w.heap.size) :
    Calls Tryd.prog 48 #[.slice a len cap] w fun e W' => e = .returned (.int .u32 (longN zs : Nat)) ∧ Below w.heap.size w W' := by
  have hlt := feedN_lt 79764919 32 4294967295 (bitsOf zs) (by decide) (by decide)
  have hx : bits .xor .u32 IntKind.u32.max ((feedN 79764919 32 4294967295 (bitsOf zs) : Nat) : Int) = ((longN zs : Nat) : Int) := u32_xor_nat 4294967295 _ (by decide) hlt
  go_enter Tryd.func48, Tryd.ntmps48
  go_wp2_with (go_at_call 67; refine (rem32_calls _ _ _ zs hreach _ (hI.mono hn)).mono ?_; rintro e w' ⟨rfl, hb⟩)
  go_ret
  exact ⟨rfl, hb⟩


/-- How the last byte differs from the check of those ahead of it. -/
def synN (zs : List UInt8) : Nat := match zs.getLast? with
  | none => 0
  | some x => x.toNat ^^^ eightN zs.dropLast
end Go.Proofs.YtbjeljmnknibnaaDoor.F
