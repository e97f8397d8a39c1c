/- Proved here: the given Flip answers the bytes with one bit turned over, in memory of its own. Conditions: as each theorem states them. -/
import Derived.Test.YtbjeljmnknibnaaDoorFApp
namespace Go.Proofs.YtbjeljmnknibnaaDoor.F
open Go.RowKit

/-- Bytes with bit n turned over. -/
def flipN (zs : List UInt8) (n : Nat) : List UInt8 := zs.set (n / 8) ((zs[n / 8]?.getD 0) ^^^ UInt8.ofNat (128 / 2 ^ (n % 8)))
theorem flipN_length (zs : List UInt8) (n : Nat) : (flipN zs n).length = zs.length := by simp [flipN]

set_option maxHeartbeats 1000000 in
theorem flip_calls (a1 : Option Addr) (len1 cap1 : Nat) (xs : List UInt8) (w : World) {n : Nat} (h1 : IsB n w a1 len1 xs) (hn : n ≤ w.heap.size) (n1 : a1 = none → cap1 = 0) (hl : len1 ≤ 90000) (i : Nat) (hi : i < 8 * len1) :
    Calls Tryd.prog 27 #[.slice a1 len1 cap1, .int .i64 i] w fun e w' => ∃ a' c', e = .returned (.slice a' len1 c') ∧ OwnB w.heap.size w' a' len1 c' (flipN xs i) ∧ Below w.heap.size w w' := by
  have b2 : Below w.heap.size w (w.alloc (.cells #[] 5)) := (Below.refl _ w).alloc (Nat.le_refl _) _
  obtain ⟨a4, c4, w4, hap4, o4, b4⟩ := run_app (w.alloc (.cells #[] 5)) w.heap.size 25 _ 0 0 _ (ownB_new w.heap.size w (Nat.le_refl _)) a1 len1 cap1 xs (h1.below b2 hn) n1 (by omega) (by simp)
  simp only [Nat.zero_add, List.nil_append] at hap4 o4
  have b14 := b2.trans b4
  have lx := h1.1
  obtain ⟨q, hq⟩ : ∃ q, i / 8 = q := ⟨_, rfl⟩
  obtain ⟨x, hx⟩ : ∃ x, xs[q]? = some x := ⟨xs[q]'(by omega), by rw [List.getElem?_eq_getElem]⟩
  obtain ⟨g, cur, rfl, hg, hgs, hcur⟩ := o4.block (by omega)
  have fz := frozen_of_block (k := q) hcur
  have cs : w4.cell? ⟨g, q, none⟩ = some (.int .u8 (x.toNat : Int)) := by
    obtain ⟨b, off, e, _, hc⟩ := o4.isB.1.cell hx
    cases e
    have := hc q x hx
    rwa [Nat.zero_add] at this
  have hpl : 128 / 2 ^ (i % 8) < 256 := Nat.lt_of_le_of_lt (Nat.div_le_self _ _) (by decide)
  obtain ⟨v, hv⟩ : ∃ v, x ^^^ UInt8.ofNat (128 / 2 ^ (i % 8)) = v := ⟨_, rfl⟩
  have hxor : bits .xor .u8 (x.toNat : Int) (128 / 2 ^ (i % 8)) = (v.toNat : Int) := by
    have e : (128 : Int) / 2 ^ (i % 8) = ((128 / 2 ^ (i % 8) : Nat) : Int) := by simp
    rw [e, u8_xor_nat _ _ x.toNat_lt hpl, ← hv, UInt8.toNat_xor, ofNat_toNat_lt hpl]
  have oset := o4.set q v
  have hf : xs.set q v = flipN xs i := by unfold flipN; rw [hq, hx, ← hv]; rfl
  rw [hf] at oset
  have OS : Hid (OwnB w.heap.size (w4.setCell ⟨g, q, none⟩ (.int .u8 (v.toNat : Int))) (some ⟨g, 0, none⟩) len1 c4 (flipN xs i)) := oset
  have e1 : (i : Int) / 8 = (q : Int) := by omega
  have e2 : (q : Int) < (len1 : Int) := by omega
  clear hv hf oset hcur hx hq lx hpl
  go_enter Tryd.func27, Tryd.ntmps27
  go_wp2_with (at_builtin; refine wpList_app hap4 _ _ rfl rfl rfl rfl rfl ?_)
  clear hap4
  go_region
  all_goals (go_wp2; go_ret; exact ⟨_, _, rfl, OS.out.below ((Below.refl _ _).drew) (Nat.le_refl _), (b14.setCell (p := ⟨g, q, none⟩) hg _).drew⟩)
end Go.Proofs.YtbjeljmnknibnaaDoor.F
