/- Proved here: what cell.ahead, cell.Seal and cell.Sealed answer. Conditions: as each theorem states them. -/
import Derived.Test.YtpjlcmdidhdbcaaCp
import Derived.Test.YtpjlcmdidhdbcaaMathS
import Derived.Test.YtpjlcmdidhdbcaaMix
import Derived.Test.YtpjlcmdidhdbcaaSums
namespace Go.Proofs.Ytpjlcmdidhdbcaa
set_option linter.unusedSimpArgs false
set_option linter.unusedVariables false
open Go.RowKit

theorem or6 (b x : UInt8) : bits .or .u8 ((b.toNat : Int) * 64 % 256) ((x.toNat : Int) / 4) = ((at6 b x).toNat : Int) := by
  have hb := b.toNat_lt
  have hx := x.toNat_lt
  have e1 : (b.toNat : Int) * 64 % 256 = ((b.toNat % 4 * 64 : Nat) : Int) := by omega
  have e2 : (x.toNat : Int) / 4 = ((x.toNat / 4 : Nat) : Int) := by omega
  rw [e1, e2, u8_or_nat _ _ (by omega) (by omega), at6_nat]
  congr 1
  rw [show b.toNat % 4 * 64 = 2 ^ 6 * (b.toNat % 4) from by omega, ← Nat.two_pow_add_eq_or_of_lt (by omega)]

set_option maxHeartbeats 1000000 in
theorem cahead_calls (ps : List UInt8) (hl : ps.length = 48) (w : World) :
    Calls Try.prog 30 #[.agg (payV ps)] w fun e w' => ∃ a c, e = .returned (.slice a 47 c) ∧ OwnB w.heap.size w' a 47 c (aheadN ps) ∧ Below w.heap.size w w' := by
  have A0 : Below w.heap.size w (w.alloc (.cells (payV ps) 26)) := (Below.refl _ w).alloc (Nat.le_refl _) _
  have K0 := bk_new w (payV ps) 26
  obtain ⟨w1, hmk, o1, b1, z1⟩ := run_mkc (w.alloc (.cells (payV ps) 26)) (w.heap.size + 1) 47 47 47 47 rfl rfl (by decide) (by decide) (by simp)
  have K1 := K0.below b1 (by omega)
  have B1 : Below w.heap.size w w1 := A0.trans (b1.mono (by omega))
  simp only [World.size_alloc] at hmk o1 z1
  have HL : Hid (ps.length = 48) := hl
  have lt : Hid ((aheadN ps).length = (List.replicate 47 (0 : UInt8)).length) := by rw [Hid, aheadN_length ps hl]; simp
  clear hl A0 K0
  go_enter Try.func30, Try.ntmps30
  go_wp2
  clear hmk
  go_loopw [4, 9] (fun b i wr => ∃ (k : Nat) (y : UInt8), k ≤ 47 ∧ (0 :: ps)[k]? = some y ∧ b = .int .u8 (y.toNat : Int) ∧ i = .int .i64 k ∧ OwnB (w.heap.size + 1) wr (some ⟨w.heap.size + 1, 0, none⟩) 47 47 (mix (List.replicate 47 0) (aheadN ps) k) ∧ Below (w.heap.size + 1) w1 wr) (fun _ i _ => 47 - (intOf i).toNat)
  case atStart => exact ⟨0, 0, by decide, rfl, rfl, rfl, by rw [mix_zero]; exact o1, Below.refl _ _⟩
  case round =>
    obtain ⟨k, y, hk, hy, rfl, rfl, ok, bk⟩ := hrel
    have Kk := K1.below bk (by omega)
    have Bk : Below w.heap.size w wr := B1.trans (bk.mono (by omega))
    by_cases hlt : k < 47
    · obtain ⟨x, hx⟩ : ∃ x, ps[k]? = some x := ⟨ps[k]'(by have := HL.out; omega), by rw [List.getElem?_eq_getElem]⟩
      have hget := aheadN_get hlt hy hx
      have hm : (mix (List.replicate 47 0) (aheadN ps) k)[k]? = some 0 := by
        rw [mix_get _ _ _ lt.out (by simpa using hlt), List.getElem?_replicate, if_pos hlt]
      have hset := mix_set _ _ k lt.out _ hget
      have hnext : (0 :: ps)[k + 1]? = some x := by simpa using hx
      obtain ⟨g, cur, e0, hg, hgs, hcur⟩ := ok.block (by decide)
      cases e0
      have fz := frozen_of_block (k := k) hcur
      have cs : wr.cell? ⟨w.heap.size + 1, k, none⟩ = some (.int .u8 0) := by
        obtain ⟨b, off, e, _, hc⟩ := ok.isB.1.cell hm
        cases e
        have := hc k 0 hm
        rwa [Nat.zero_add] at this
      have cx := Kk.payCell hx
      have oset := ok.set k (at6 y x)
      rw [hset] at oset
      have hor := or6 y x
      generalize at6 y x = v at *
      have OS : Hid (OwnB (w.heap.size + 1) (wr.setCell ⟨w.heap.size + 1, k, none⟩ (.int .u8 (v.toNat : Int))) (some ⟨w.heap.size + 1, 0, none⟩) 47 47 (mix (List.replicate 47 0) (aheadN ps) (k + 1))) := oset
      have HN : Hid ((0 :: ps)[k + 1]? = some x) := hnext
      have k48 : k < 48 := by omega
      clear hset oset hcur hm hget hy hx hnext Kk
      go_wp2
      go_roundw
      case rel => exact ⟨k + 1, x, by omega, HN.out, rfl, by go_num, OS.out, bk.setCell (p := ⟨w.heap.size + 1, k, none⟩) (Nat.le_refl _) _⟩
      case measure => simp [intOf]; omega
    · obtain rfl : k = 47 := by omega
      have ot : OwnB (w.heap.size + 1) wr (some ⟨w.heap.size + 1, 0, none⟩) 47 47 (aheadN ps) := by
        have e := mix_all (List.replicate 47 (0 : UInt8)) (aheadN ps) lt.out
        rw [List.length_replicate] at e
        rwa [e] at ok
      clear ok
      go_wp2
      go_ret
      exact ⟨_, _, rfl, ot.mono (by omega), Bk⟩

theorem or2 (a : UInt8) (n : Nat) (hn : n < 1024) : bits .or .u8 ((a.toNat : Int) / 4 * 4 % 256) ((n : Int) / 256) = ((UInt8.ofNat (a.toNat / 4 * 4 + n / 256)).toNat : Int) := by
  have ha := a.toNat_lt
  have e1 : (a.toNat : Int) / 4 * 4 % 256 = ((a.toNat / 4 * 4 : Nat) : Int) := by omega
  have e2 : (n : Int) / 256 = ((n / 256 : Nat) : Int) := by omega
  rw [e1, e2, u8_or_nat _ _ (by omega) (by omega), UInt8.toNat_ofNat']
  congr 1
  rw [show a.toNat / 4 * 4 = 2 ^ 2 * (a.toNat / 4) from by omega, ← Nat.two_pow_add_eq_or_of_lt (by omega)]
  omega

set_option maxHeartbeats 1000000 in
theorem cseal_calls (ps : List UInt8) (hl : ps.length = 48) (w : World) :
    Calls Try.prog 20 #[.agg (payV ps)] w fun e w' => e = .returned (.agg (payV (sealN ps))) ∧ Below w.heap.size w w' := by
  have A0 : Below w.heap.size w ((w.alloc (.cells (payV ps) 26)).alloc (.cells (payV (zer 48)) 26)) := ((Below.refl _ w).alloc (Nat.le_refl _) _).alloc (by simp) _
  have K0 := (bk_new w (payV ps) 26).alloc (.cells (payV (zer 48)) 26)
  have R0 := bk_new (w.alloc (.cells (payV ps) 26)) (payV (zer 48)) 26
  rw [World.size_alloc] at R0
  have HL : Hid (ps.length = 48) := hl
  have HM : Hid ((sealN ps).length = 48) := (sealN_length ps).trans hl
  obtain ⟨n, hn⟩ : ∃ n, checkN ps = n := ⟨_, rfl⟩
  have hn2 : n < 1024 := by rw [← hn]; exact checkN_lt ps
  have HT : Hid (tenN (aheadN ps) = n) := (ten_ahead ps hl).trans hn
  obtain ⟨a46, h46⟩ : ∃ x, ps[46]? = some x := ⟨ps[46]'(by omega), by rw [List.getElem?_eq_getElem]⟩
  obtain ⟨a47, h47⟩ : ∃ x, ps[47]? = some x := ⟨ps[47]'(by omega), by rw [List.getElem?_eq_getElem]⟩
  have HS : Hid (sealN ps = (ps.set 46 (UInt8.ofNat (a46.toNat / 4 * 4 + n / 256))).set 47 (UInt8.ofNat (n % 256))) := by
    rw [Hid, sealN, hn, h46]; rfl
  clear hn hl
  go_enter Try.func20, Try.ntmps20
  go_wp2_with (first | (with_reducible show wpList _ _ _ (Oper.mk _ (Op.alloc 26) _ _ _ _ :: _) _ _; refine wpList_al rfl rfl zero24 ?_; (try simp only [Act.put, List.setIfInBounds_toArray, List.set_cons_zero, List.set_cons_succ, World.size_alloc])) | (with_reducible show wpList _ _ _ (Oper.mk _ (Op.load 26 _) _ _ _ _ :: _) _ _; refine wpList_ld rfl rfl rfl (run_ld24 _ _ _ _ (by assumption) (by first | exact HL.out | exact HM.out)) ?_; (try simp only [Act.put, List.setIfInBounds_toArray, List.set_cons_zero, List.set_cons_succ, World.size_alloc])))
  refine (cahead_calls ps HL.out _).mono ?_
  rintro e w1 ⟨a1, c1, rfl, o1, b1⟩
  have K1 := K0.below b1 K0.lt
  have R1 := R0.below b1 R0.lt
  have B1 : Below w.heap.size w w1 := A0.trans (b1.mono (by simp; omega))
  clear K0 R0 A0 b1
  go_wp2_with fail
  refine (ten_calls _ _ _ _ (by rw [aheadN_length _ HL.out]; unfold maxLen; omega) _ o1.isB.1 (Nat.le_refl _)).mono ?_
  rintro e w2 ⟨rfl, b2⟩
  rw [HT.out]
  have K2 := K1.below b2 K1.lt
  have R2 := R1.below b2 R1.lt
  have B2 : Below w.heap.size w w2 := B1.trans (b2.mono B1.size)
  clear K1 R1 B1 b2 o1
  have c46 := K2.payCell h46
  have c47 := K2.payCell h47
  have f46 := K2.frozen 46
  have f47 := K2.frozen 47
  have hor := or2 a46 n hn2
  have h8 : ((UInt8.ofNat (n % 256)).toNat : Int) = (n : Int) % 256 := by rw [UInt8.toNat_ofNat']; omega
  have K3 := (K2.set 46 (.int .u8 ((UInt8.ofNat (a46.toNat / 4 * 4 + n / 256)).toNat : Int))).set 47 (.int .u8 ((UInt8.ofNat (n % 256)).toNat : Int))
  rw [payV_set, payV_set, ← HS.out, h8] at K3
  have R3 := (R2.setOther (p := ⟨w.heap.size, 46, none⟩) (by simp) (.int .u8 ((UInt8.ofNat (a46.toNat / 4 * 4 + n / 256)).toNat : Int))).setOther (p := ⟨w.heap.size, 47, none⟩) (by simp) (.int .u8 ((n : Int) % 256))
  generalize UInt8.ofNat (a46.toNat / 4 * 4 + n / 256) = v46 at *
  clear h8
  have HK3 := K3
  go_wp2_with (first | (with_reducible show wpList _ _ _ (Oper.mk _ (Op.load 26 _) _ _ _ _ :: _) _ _; refine wpList_ld rfl rfl rfl (run_ld24 _ _ _ _ (by assumption) (by first | exact HL.out | exact HM.out)) ?_; (try simp only [Act.put, List.setIfInBounds_toArray, List.set_cons_zero, List.set_cons_succ, World.size_alloc])) | ((with_reducible show wpList _ _ _ (Oper.mk _ (Op.store 26 _ _) _ _ _ _ :: _) _ _; refine wpList_st rfl rfl rfl rfl (by assumption) (by rw [size24, payV_size]; simp only [Option.some.injEq]; first | (have := HL.out; omega) | (have := HM.out; omega)) (by first | (with_reducible rfl) | (rw [payV_size, payV_size]; simp only [zer, List.length_replicate]; first | (have := HL.out; omega) | (have := HM.out; omega))) (payV_one _) ?_); intro w4 K4 b4 but4 z4))
  refine bodyPost_ret (v := .agg (payV (sealN ps))) (results_cell_row Try.results20 _ _ _ _ _ _ _ rfl K4 Try.underlying26 rfl (by rw [size24, payV_size, HM.out])) rfl ⟨rfl, ?_⟩
  have B3 := (B2.setCell (p := ⟨w.heap.size, 46, none⟩) (Nat.le_refl _) (.int .u8 (v46.toNat : Int))).setCell (p := ⟨w.heap.size, 47, none⟩) (Nat.le_refl _) (.int .u8 ((n : Int) % 256))
  exact B3.trans (b4 _ (Nat.le_succ _))

set_option maxHeartbeats 1000000 in
theorem sealed_calls (ps : List UInt8) (hl : ps.length = 48) (w : World) :
    Calls Try.prog 19 #[.agg (payV ps)] w fun e w' => e = .returned (.bool (decide (sealN ps = ps))) ∧ Below w.heap.size w w' := by
  have A0 : Below w.heap.size w (w.alloc (.cells (payV ps) 26)) := (Below.refl _ w).alloc (Nat.le_refl _) _
  have K0 := (bk_new w (payV ps) 26).drew
  have z0 : (w.alloc (.cells (payV ps) 26)).drew.heap.size = w.heap.size + 1 := by show (World.alloc _ _).heap.size = _; simp
  have Z0 : Hid ((w.alloc (.cells (payV ps) 26)).drew.heap.size = w.heap.size + 1) := z0
  have HL : Hid (ps.length = 48) := hl
  have he : ∀ w, (binOp .eql 26 (.agg (payV (sealN ps))) (.agg (payV ps))).run Try.prog w = .ok (.bool (decide (sealN ps = ps))) w := fun w => eql24 (sealN ps) ps ((sealN_length ps).trans hl) hl w
  generalize decide (sealN ps = ps) = r at *
  clear hl z0
  go_enter Try.func19, Try.ntmps19
  go_wp2
  refine wp_region_held_drew (S := (fun w' => BK w' w.heap.size (payV ps) 26)) (by kernel_rfl) K0 (fun hHeld => ?_)
  refine wpAnyH_take (i := 0) (oi := ({ dst := some 3, op := Op.load 26 (Operand.tmp 1), type := 26, pos := _, after := #[], guard := none } : Oper))  rfl (by kernel_rfl) (by kernel_rfl) (by kernel_rfl) (fun _ _ _ h => h) (yields_ld rfl rfl rfl (fun w hS => run_ld24 w _ _ _ hS HL.out)) hHeld ?_
  try simp only [Act.put, List.setIfInBounds_toArray, List.set_cons_zero, List.set_cons_succ]
  refine wpAnyH_take (i := 2) (oi := ({ dst := some 5, op := Op.load 26 (Operand.tmp 1), type := 26, pos := _, after := #[], guard := none } : Oper))  rfl (by kernel_rfl) (by kernel_rfl) (by kernel_rfl) (fun _ _ _ h => h) (yields_ld rfl rfl rfl (fun w hS => run_ld24 w _ _ _ hS HL.out)) hHeld ?_
  try simp only [Act.put, List.setIfInBounds_toArray, List.set_cons_zero, List.set_cons_succ]
  refine wpAnyH_ready (rs := [1]) (by kernel_rfl) (by simp) ?_
  refine AllReadyH.cons (o := ({ dst := some 4, op := Op.call { callee := Callee.value (Operand.func 20), args := #[Operand.tmp 3], argTypes := #[26] }, type := 26, pos := _, after := #[{ on := 0, ground := Ground.data }], guard := none } : Oper)) rfl (fun K hK => ?_) AllReadyH.nil
  refine step_call (cseal_calls ps HL.out _) (enters_of Try.func20 (by kernel_rfl) rfl) _ _ rfl rfl rfl ?_
  rintro e w1 ⟨rfl, b1⟩
  refine ⟨_, rfl, hK.out _ _ (K0.below b1 (by have := Z0.out; omega)) (fun hHeld => ?_)⟩
  clear hK K
  try simp only [Act.put, List.setIfInBounds_toArray, List.set_cons_zero, List.set_cons_succ]
  refine wpAnyH_take (i := 3) (oi := ({ dst := some 6, op := Op.binOp BinOp.eql 26 (Operand.tmp 4) (Operand.tmp 5) 26, type := 4, pos := _, after := #[{ on := 1, ground := Ground.data }, { on := 2, ground := Ground.data }], guard := none } : Oper)) (v := ?_) rfl (by kernel_rfl) (by kernel_rfl) (by kernel_rfl) (fun _ _ _ h => h) (Or.inl ⟨by rfl, ?_⟩) hHeld ?_
  rotate_left
  · (intro w hS; go_simp; try with_reducible rfl)
  try simp only [Act.put, List.setIfInBounds_toArray, List.set_cons_zero, List.set_cons_succ]
  refine wpAnyH_take (i := 4) (oi := ({ dst := some 2, op := Op.assign (Operand.tmp 6), type := 4, pos := _, after := #[{ on := 3, ground := Ground.data }, { on := 1, ground := Ground.chain }, { on := 0, ground := Ground.phase }, { on := 1, ground := Ground.phase }, { on := 2, ground := Ground.phase }, { on := 3, ground := Ground.phase }], guard := none } : Oper)) (v := ?_) rfl (by kernel_rfl) (by kernel_rfl) (by kernel_rfl) (fun _ _ _ h => h) (Or.inl ⟨by rfl, ?_⟩) hHeld ?_
  rotate_left
  · (intro w hS; go_simp; try with_reducible rfl)
  try simp only [Act.put, List.setIfInBounds_toArray, List.set_cons_zero, List.set_cons_succ]
  refine wpAnyH_done (by kernel_rfl) ?_ _
  go_wp2
  go_ret
  exact ⟨rfl, A0.drew.trans (b1.mono (by have := Z0.out; omega))⟩
end Go.Proofs.Ytpjlcmdidhdbcaa
