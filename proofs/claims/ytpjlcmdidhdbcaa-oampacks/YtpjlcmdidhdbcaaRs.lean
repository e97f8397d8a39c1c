/- Proved here: what the document's Seal of payloads answers. Conditions: as each theorem states them. -/
import Derived.Test.YtpjlcmdidhdbcaaRef
import Derived.Test.YtpjlcmdidhdbcaaMathS
import Derived.Test.YtpjlcmdidhdbcaaCp
namespace Go.Proofs.Ytpjlcmdidhdbcaa
set_option linter.unusedSimpArgs false
set_option linter.unusedVariables false
open Go.RowKit

theorem IsR.take {k : IntKind} {n : Nat} {W : World} {a : Option Addr} {len : Nat} {zs : List Int} (h : IsR k n W a len zs) (m : Nat) (hm : m ≤ zs.length) : IsR k n W a m (zs.take m) := by
  obtain ⟨hl, h⟩ := h
  refine ⟨by simp; omega, ?_⟩
  rcases h with rfl | ⟨b, off, ha, hb, hc⟩
  · left; simp
  · refine .inr ⟨b, off, ha, hb, fun j x hx => hc j x ?_⟩
    rw [List.getElem?_take] at hx
    split at hx
    · exact hx
    · cases hx

set_option maxHeartbeats 1000000 in
theorem refseal_calls (a : Option Addr) (cp : Nat) (ps : List UInt8) (w : World) {m : Nat} (hI : IsB m w a 48 ps) (hm : m ≤ w.heap.size) (hc : a = none → cp = 0) :
    Calls Try.prog 23 #[.slice a 48 cp] w fun e w' => ∃ a' c', e = .returned (.slice a' 48 c') ∧ IsB w'.heap.size w' a' 48 (sealN ps) ∧ Below w.heap.size w w' := by
  have hl : ps.length = 48 := hI.1.symm
  obtain ⟨n, hn⟩ : ∃ n, checkN ps = n := ⟨_, rfl⟩
  have hn2 : n < 1024 := by rw [← hn]; exact checkN_lt ps
  have HT : Hid (feedN 563 10 0 ((bitsOf ps).take 374) = n) := hn
  obtain ⟨a46, h46⟩ : ∃ x, ps[46]? = some x := ⟨ps[46]'(by omega), by rw [List.getElem?_eq_getElem]⟩
  obtain ⟨a47, h47⟩ : ∃ x, ps[47]? = some x := ⟨ps[47]'(by omega), by rw [List.getElem?_eq_getElem]⟩
  have HS : Hid (sealN ps = (ps.set 46 (UInt8.ofNat (a46.toNat / 4 * 4 + n / 256))).set 47 (UInt8.ofNat (n % 256))) := by
    rw [Hid, sealN, hn, h46]; rfl
  have HL : Hid ((bitsOf ps).length = 384) := by rw [Hid, bitsOf_length, hl]
  clear hn hl
  go_enter Try.func23, Try.ntmps23
  go_wp2_with fail
  refine (refbits_calls _ _ _ _ _ hI hm (by decide)).mono ?_
  rintro e w1 ⟨a1, c1, rfl, o1, b1⟩
  obtain ⟨I1, hn1, hc1⟩ := o1.isR
  have T1 : IsR .i64 w1.heap.size w1 a1 374 (bvs ((bitsOf ps).take 374)) := by
    have := I1.take 374 (by rw [bvs_length, HL.out]; decide)
    rwa [bvs, ← List.map_take] at this
  simp only [Nat.reduceMul] at hc1 ⊢
  have hc2 : 374 ≤ c1 := by omega
  clear I1 o1
  go_wp2_with fail
  refine (rest_plain a1 374 c1 _ _ T1 (Nat.le_refl _) hn1 (by decide) 563 10 (by decide) (by decide) (by decide)).mono ?_
  rintro e w2 ⟨rfl, b2⟩
  rw [HT.out]
  have B2 : Below w.heap.size w w2 := b1.trans (b2.mono b1.size)
  clear T1
  have b3 := (Below.refl w2.heap.size w2).alloc (Nat.le_refl _) (.cells #[] 5)
  have B3 := B2.trans (b3.mono B2.size)
  obtain ⟨a4, c4, w4, hap4, o4, b4⟩ := run_app (w2.alloc (.cells #[] 5)) w2.heap.size 32 _ 0 0 _ (ownB_new w2.heap.size w2 (Nat.le_refl _)) a 48 cp ps (hI.below B3 hm) hc (by decide) b3.size
  have B4 : Below w.heap.size w w4 := B3.trans (b4.mono B2.size)
  simp only [Nat.reduceAdd, List.nil_append] at hap4 o4
  obtain ⟨g, cur, rfl, hg1, hg2, hg3⟩ := o4.block (by decide)
  have k46 : w4.cell? ⟨g, 46, none⟩ = some (.int .u8 (a46.toNat : Int)) := by
    obtain ⟨b', off', e, _, hcc⟩ := o4.isB.1.cell h46
    cases e
    have := hcc 46 a46 h46
    rwa [Nat.zero_add] at this
  have k47 : w4.cell? ⟨g, 47, none⟩ = some (.int .u8 (a47.toNat : Int)) := by
    obtain ⟨b', off', e, _, hcc⟩ := o4.isB.1.cell h47
    cases e
    have := hcc 47 a47 h47
    rwa [Nat.zero_add] at this
  have f46 : w4.frozen? ⟨g, 46, none⟩ = false := frozen_of_block hg3
  have f47 : w4.frozen? ⟨g, 47, none⟩ = false := frozen_of_block hg3
  have O5 := (o4.set 46 (UInt8.ofNat (a46.toNat / 4 * 4 + n / 256))).set 47 (UInt8.ofNat (n % 256))
  have h8 : ((UInt8.ofNat (n % 256)).toNat : Int) = (n : Int) % 256 := by rw [UInt8.toNat_ofNat']; omega
  have ha := a46.toNat_lt
  have h9 : ((UInt8.ofNat (a46.toNat / 4 * 4 + n / 256)).toNat : Int) = (a46.toNat : Int) / 4 * 4 + (n : Int) / 256 := by rw [UInt8.toNat_ofNat']; omega
  rw [← HS.out, h8, h9] at O5
  have HO : Hid (OwnB w2.heap.size ((w4.setCell ⟨g, 46, none⟩ (.int .u8 ((a46.toNat : Int) / 4 * 4 + (n : Int) / 256))).setCell ⟨g, 47, none⟩ (.int .u8 ((n : Int) % 256))) (some ⟨g, 0, none⟩) 48 c4 (sealN ps)) := O5
  have B5 := (B4.setCell (p := ⟨g, 46, none⟩) (Nat.le_trans B2.size hg1) (.int .u8 ((a46.toNat : Int) / 4 * 4 + (n : Int) / 256))).setCell (p := ⟨g, 47, none⟩) (Nat.le_trans B2.size hg1) (.int .u8 ((n : Int) % 256))
  obtain ⟨y, hy⟩ : ∃ y, a46.toNat = y := ⟨_, rfl⟩
  rw [hy] at ha k46 HO B5
  clear O5 h8 h9 o4 b4 B3 b3 hg3 h46 h47 hI b1 b2
  go_wp2_with (at_builtin; refine wpList_app hap4 _ _ rfl rfl rfl rfl rfl ?_)
  go_ret
  exact ⟨_, _, rfl, HO.out.isB.1, B5⟩
end Go.Proofs.Ytpjlcmdidhdbcaa
