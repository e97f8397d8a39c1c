/- Proved here: the given Rest answers what the register holds. Conditions: as each theorem states them. -/
import Derived.BigRegion
import Derived.Test.YtpjlcmdidhdbcaaMathE
namespace Go.Proofs.Ytpjlcmdidhdbcaa
open Go.RowKit

theorem gen_bit (y d : Nat) : (y : Int) / 2 ^ d % 2 = bv (y.testBit d) := by
  have e : (y : Int) / 2 ^ d % 2 = ((y / 2 ^ d % 2 : Nat) : Int) := by simp
  rw [e, Nat.testBit_eq_decide_div_mod_eq, bv]
  rcases Nat.mod_two_eq_zero_or_one (y / 2 ^ d) with h | h <;> simp [h]

set_option maxHeartbeats 4000000 in
theorem rest_plain (a1 : Option Addr) (L cap1 : Nat) (l : List Bool) (w : World) {n : Nat} (h1 : IsR .i64 n w a1 L (bvs l)) (hn : n ≤ w.heap.size) (n1 : a1 = none → cap1 = 0) (hL : L ≤ 2400) (y deg : Nat) (hd1 : 1 ≤ deg) (hd : deg ≤ 32) (hy : y < 2 ^ deg) :
    Calls Try.prog 33 #[.slice a1 L cap1, .int .u64 y, .int .i64 deg, .bool false] w fun e w' => e = .returned (.int .u64 (feedN y deg 0 l : Nat)) ∧ Below w.heap.size w w' := by
  have hy32 : y < 4294967296 := Nat.lt_of_lt_of_le hy (by rw [show 4294967296 = 2 ^ 32 from rfl]; exact Nat.pow_le_pow_right (by decide) hd)
  have lL : L = l.length := by have := h1.1; rwa [bvs_length] at this
  have LL : Hid (L = l.length) := lL
  have HY : Hid (y < 2 ^ deg) := hy
  clear lL hy
  have b2 : Below w.heap.size w (w.alloc (.cells #[] 3)) := (Below.refl _ w).alloc (Nat.le_refl _) _
  obtain ⟨a4, c4, w4, hap4, o4, b4⟩ := run_appR (P := Try.prog) 65 3 .i64 0 8 Try.underlying65 info3 (by decide) (w.alloc (.cells #[] 3)) w.heap.size 65 _ 0 0 _ (ownR_new 3 .i64 w.heap.size w (Nat.le_refl _)) a1 L cap1 (bvs l) (h1.below b2 hn) n1 (by omega) (by simp)
  simp only [Nat.zero_add, List.nil_append] at hap4 o4
  have b14 := b2.trans b4
  go_enter Try.func33, Try.ntmps33
  go_wp2_with (at_builtin; refine wpList_app hap4 _ _ rfl rfl rfl rfl rfl ?_)
  clear hap4
  go_loopw [9, 10] (fun av iv wr => ∃ i : Nat, ∃ a' c', i ≤ deg ∧ iv = .int .i64 i ∧ av = .slice a' (L + i) c' ∧ OwnR 3 .i64 w.heap.size wr a' (L + i) c' (bvs (l ++ zeros i)) ∧ Below w.heap.size w wr) (fun _ iv _ => deg - (intOf iv).toNat)
  case atStart => exact ⟨0, a4, c4, Nat.zero_le _, rfl, rfl, by simpa [zeros] using o4, b14⟩
  case round =>
    obtain ⟨i, a', c', hi, rfl, rfl, oi, bi⟩ := hrel
    by_cases hlt : i < deg
    · obtain ⟨a3, c3, w3, hap, o3, b3⟩ := run_appR (P := Try.prog) 65 3 .i64 0 8 Try.underlying65 info3 (by decide) (wr.alloc (.cells #[.int .i64 0] 3)) w.heap.size 65 a' (L + i) c' _ (oi.below ((Below.refl _ wr).alloc (Nat.le_refl _) _) (Nat.le_refl _)) (some ⟨wr.heap.size, 0, none⟩) 1 1 [0] (isR_new .i64 wr [0] 3 (0, 0)) (by intro h; cases h) (by omega) (by have := bi.size; simp; omega)
      go_wp2_with (at_builtin; refine wpList_app hap _ _ rfl rfl rfl rfl rfl ?_)
      go_roundw
      case rel => exact ⟨i + 1, a3, c3, by omega, by go_num, rfl, by rw [show l ++ zeros (i + 1) = (l ++ zeros i) ++ [false] from by rw [zeros, List.replicate_succ', List.append_assoc]; rfl, bvs_append]; exact o3, (bi.alloc bi.size _).trans b3⟩
      case measure => simp [intOf]; omega
    · obtain rfl : deg = i := by omega
      clear hlt hi o4 b4 b14 b2
      obtain ⟨g0, cur0, rfl, hg0, hgs0, hcur0⟩ := oi.block (by omega)
      clear hcur0
      go_wp2
      obtain ⟨W1, hW1⟩ : ∃ W1, wr = W1 := ⟨_, rfl⟩
      rw [hW1] at oi bi hgs0 ⊢
      clear hW1
      have OA := oi
      have BA := bi
      clear oi bi
      obtain ⟨A0, hA0⟩ : ∃ A0, l ++ zeros deg = A0 := ⟨_, rfl⟩
      have hInv := inv_start y deg l
      rw [hA0] at OA hInv
      clear hA0
      have HI : Hid (Inv y deg 0 l 0 A0) := hInv
      clear hInv
      go_loopw [12, 13] (fun gv iv wr3 => ∃ (c : Nat) (d : Int) (a3 : Option Addr) (c3 : Nat), c ≤ deg ∧ d = (deg : Int) - 1 - (c : Int) ∧ iv = .int .i64 d ∧ gv = .slice a3 (c + 1) c3 ∧ OwnR 3 .i64 W1.heap.size wr3 a3 (c + 1) c3 (bvs (gbits deg y c)) ∧ Below W1.heap.size W1 wr3) (fun _ iv _ => (intOf iv + 1).toNat)
      case atStart => exact ⟨0, _, some ⟨W1.heap.size, 0, none⟩, 1, Nat.zero_le _, by omega, rfl, rfl, ownR_lit 3 .i64 W1.heap.size W1 [1] (Nat.le_refl _) (by decide), (Below.refl _ W1).alloc (Nat.le_refl _) _⟩
      case round =>
        obtain ⟨c, d, a3, c3, hc, hdc, rfl, rfl, og, bg⟩ := hrel
        by_cases hlt : c < deg
        · obtain ⟨d', rfl⟩ := Int.eq_ofNat_of_zero_le (show 0 ≤ d by omega)
          have hgb := gen_bit y d'
          have hgs := gbits_succ deg y c
          rw [show deg - 1 - c = d' from by omega] at hgs
          obtain ⟨v, hv⟩ : ∃ v, bv (y.testBit d') = v := ⟨_, rfl⟩
          have hv01 := bv_01 (y.testBit d')
          rw [hv] at hgb hv01
          obtain ⟨hv0, hv1⟩ := hv01
          obtain ⟨e, he⟩ : ∃ e, y / 2 ^ d' = e := ⟨_, rfl⟩
          have hye : (y : Int) / 2 ^ d' = (e : Int) := by rw [← he]; simp
          have hel : e ≤ y := by rw [← he]; exact Nat.div_le_self _ _
          rw [hye] at hgb
          clear he
          have HG : Hid (bvs (gbits deg y (c + 1)) = bvs (gbits deg y c) ++ [v]) := by rw [← hv]; show bvs _ = _; rw [hgs, bvs_append]; rfl
          have HDC : Hid ((d' : Int) = (deg : Int) - 1 - (c : Int)) := hdc
          have hd31 : d' ≤ 31 := by omega
          clear hv hgs hdc
          obtain ⟨a5, c5, w5, hap, o5, b5⟩ := run_appR (P := Try.prog) 65 3 .i64 0 8 Try.underlying65 info3 (by decide) (wr.alloc (.cells #[.int .i64 v] 3)) W1.heap.size 65 a3 (c + 1) c3 _ (og.below ((Below.refl _ wr).alloc (Nat.le_refl _) _) (Nat.le_refl _)) (some ⟨wr.heap.size, 0, none⟩) 1 1 [v] (isR_new .i64 wr [v] 3 (0, 0)) (by intro h; cases h) (by omega) (by have := bg.size; simp; omega)
          go_wp2_with (at_builtin; refine wpList_app hap _ _ rfl rfl rfl rfl rfl ?_)
          go_roundw
          case rel => exact ⟨c + 1, _, a5, c5, by omega, by have := HDC.out; omega, rfl, rfl, by rw [HG.out]; exact o5, (bg.alloc bg.size _).trans b5⟩
          case measure => simp [intOf]
        · obtain rfl : deg = c := by omega
          obtain rfl : d = -1 := by omega
          clear hlt hc hdc
          have oi3 := OA.below bg (Nat.le_refl _)
          have bi3 := BA.trans (bg.mono BA.size)
          obtain ⟨g1, cur1, rfl, hg1, hgs1, hcur1⟩ := og.block (by omega)
          clear hcur1 OA
          go_wp2
          go_loopw [14] (fun iv wr4 => ∃ (i : Nat) (A : List Bool), i ≤ L ∧ iv = .int .i64 i ∧ OwnR 3 .i64 w.heap.size wr4 (some ⟨g0, 0, none⟩) (L + deg) c' (bvs A) ∧ Inv y deg 0 l i A ∧ OwnR 3 .i64 W1.heap.size wr4 (some ⟨g1, 0, none⟩) (deg + 1) c3 (bvs (gbits deg y deg)) ∧ Below w.heap.size w wr4) (fun iv _ => L - (intOf iv).toNat)
          case atStart => exact ⟨0, A0, Nat.zero_le _, rfl, oi3, HI.out, og, bi3⟩
          case round =>
            obtain ⟨i, A, hi, rfl, oA, hinv, oG, bA⟩ := hrel
            by_cases hlt : i < L
            · obtain ⟨x, hx⟩ : ∃ x, A[i]? = some x := ⟨A[i]'(by rw [hinv.1, ← LL.out]; omega), by rw [List.getElem?_eq_getElem]⟩
              have hstep := inv_step hd1 hd HY.out (Nat.two_pow_pos _) hinv (by rw [← LL.out]; exact hlt) x hx
              have cA := oA.get (bvs_get hx)
              have hbq := bv_beq x
              have hlA := hinv.1
              cases x with
              | false =>
                have HS : Hid (Inv y deg 0 l (i + 1) A) := hstep
                have cA0 : wr.cell? ⟨g0, i, none⟩ = some (.int .i64 0) := cA
                clear hstep cA hbq hx hinv hlA
                go_wp2
                go_roundw
                case rel => exact ⟨i + 1, A, by omega, by go_num, oA, HS.out, oG, bA⟩
                case measure => simp [intOf]; omega
              | true =>
                have HS : Hid (Inv y deg 0 l (i + 1) (tog A (gbits deg y deg) i (deg + 1))) := hstep
                have cA1 : wr.cell? ⟨g0, i, none⟩ = some (.int .i64 1) := cA
                have HA : Hid (A.length = L + deg) := by show A.length = _; rw [hlA, ← LL.out]
                clear hstep cA hbq hx hinv hlA
                go_wp2
                go_loopw [73] (fun kv wr5 => ∃ k : Nat, k ≤ deg + 1 ∧ kv = .int .i64 k ∧ OwnR 3 .i64 w.heap.size wr5 (some ⟨g0, 0, none⟩) (L + deg) c' (bvs (tog A (gbits deg y deg) i k)) ∧ OwnR 3 .i64 W1.heap.size wr5 (some ⟨g1, 0, none⟩) (deg + 1) c3 (bvs (gbits deg y deg)) ∧ Below w.heap.size w wr5) (fun kv _ => deg + 1 - (intOf kv).toNat)
                case atStart => exact ⟨0, Nat.zero_le _, rfl, by rw [tog_zero]; exact oA, oG, bA⟩
                case round =>
                  obtain ⟨k, hk, rfl, oT, oG5, bT⟩ := hrel
                  by_cases hkl : k < deg + 1
                  · obtain ⟨p, hp⟩ : ∃ x, A[i + k]? = some x := ⟨A[i + k]'(by rw [HA.out]; omega), by rw [List.getElem?_eq_getElem]⟩
                    obtain ⟨q, hq⟩ : ∃ x, (gbits deg y deg)[k]? = some x := ⟨(gbits deg y deg)[k]'(by rw [gbits_length]; omega), by rw [List.getElem?_eq_getElem]⟩
                    have hpt : (tog A (gbits deg y deg) i k)[i + k]? = some p := by rw [tog_at]; exact hp
                    have cp := oT.get (bvs_get hpt)
                    have cq := oG5.get (bvs_get hq)
                    have hset := tog_set A (gbits deg y deg) i k p q hp hq
                    have hadd := bv_add p q
                    have oset := oT.set (i + k) (bv (p ^^ q))
                    rw [bvs_set, hset] at oset
                    have p01 := bv_01 p
                    have q01 := bv_01 q
                    generalize bv p = u at *
                    generalize bv q = v at *
                    generalize bv (p ^^ q) = t at *
                    have fz : wr.frozen? ⟨g0, i + k, none⟩ = false := by
                      obtain ⟨g, cur, e, _, _, hcur⟩ := oT.block (by omega)
                      cases e
                      exact frozen_of_cells hcur
                    obtain ⟨pu0, pu1⟩ := p01
                    obtain ⟨qv0, qv1⟩ := q01
                    have OS : Hid (OwnR 3 .i64 w.heap.size (wr.setCell ⟨g0, i + k, none⟩ (.int .i64 t)) (some ⟨g0, 0, none⟩) (L + deg) c' (bvs (tog A (gbits deg y deg) i (k + 1)))) := oset
                    clear oset hset hp hq hpt
                    go_wp2
                    go_region
                    all_goals
                      go_wp2
                      go_roundw
                      case rel => exact ⟨k + 1, by omega, by go_num, OS.out.below ((Below.refl _ _).drew) (Nat.le_refl _), (oG5.other (p := ⟨g0, i + k, none⟩) hgs0 _).below ((Below.refl _ _).drew) (Nat.le_refl _), (bT.setCell (p := ⟨g0, i + k, none⟩) hg0 _).drew⟩
                      case measure => simp [intOf]; omega
                  · obtain rfl : deg + 1 = k := by omega
                    go_wp2
                    go_roundw
                    case rel => exact ⟨i + 1, _, by omega, by go_num, oT, HS.out, oG5, bT⟩
                    case measure => simp [intOf]; omega
            · obtain rfl : L = i := by omega
              have hrd : ∀ m, m < deg → wr.cell? ⟨g0, L + m, none⟩ = some (.int .i64 (bv ((feedN y deg 0 l).testBit (deg - 1 - m)))) := by
                intro m hm
                have hinv' := hinv
                rw [LL.out] at hinv'
                have := inv_end hinv' m hm
                rw [← LL.out] at this
                exact oA.get (bvs_get this)
              have hrl := feedN_lt y deg 0 l HY.out (Nat.two_pow_pos _)
              have hr32 : feedN y deg 0 l < 4294967296 := Nat.lt_of_lt_of_le hrl (by rw [show 4294967296 = 2 ^ 32 from rfl]; exact Nat.pow_le_pow_right (by decide) hd)
              have hz := read_zero (feedN y deg 0 l) deg hrl
              generalize hrv : feedN y deg 0 l = r at hrd hrl hr32 hz
              have HE : Hid (feedN y deg 0 l = r) := hrv
              clear hrv
              have HR : Hid (∀ m, m < deg → wr.cell? ⟨g0, L + m, none⟩ = some (.int .i64 (bv (r.testBit (deg - 1 - m))))) := hrd
              have HZ : Hid (r / 2 ^ (deg - 0) = 0) := hz
              clear hrd hz hrl hinv hi
              go_wp2
              go_loop [16, 17] (fun nv iv => ∃ m : Nat, m ≤ deg ∧ iv = .int .i64 ((L : Int) + (m : Int)) ∧ nv = .int .u64 (r / 2 ^ (deg - m) : Nat)) (fun _ iv => L + deg - (intOf iv).toNat)
              case atStart => exact ⟨0, Nat.zero_le _, by go_num, by rw [HZ.out]; rfl⟩
              case round =>
                obtain ⟨m, hm, rfl, rfl⟩ := hrel
                by_cases hml : m < deg
                · have cm := HR.out m hml
                  have hrs := read_succ r deg m hml
                  have b01 := bv_01 (r.testBit (deg - 1 - m))
                  have hle : r / 2 ^ (deg - m) ≤ r := Nat.div_le_self _ _
                  generalize bv (r.testBit (deg - 1 - m)) = v at *
                  generalize r / 2 ^ (deg - m) = nn at *
                  obtain ⟨v0, v1⟩ := b01
                  have HRS : Hid (((r / 2 ^ (deg - (m + 1)) : Nat) : Int) = 2 * (nn : Int) + v) := hrs
                  clear hrs
                  go_wp2
                  go_round
                  case rel => exact ⟨m + 1, by omega, by go_num, by rw [HRS.out]⟩
                  case measure => simp [intOf]; omega
                · obtain rfl : deg = m := by omega
                  go_wp2
                  go_ret
                  exact ⟨by rw [HE.out]; rfl, bA⟩

set_option maxHeartbeats 4000000 in
theorem rest_turned (a1 : Option Addr) (L cap1 : Nat) (l : List Bool) (w : World) {n : Nat} (h1 : IsR .i64 n w a1 L (bvs l)) (hn : n ≤ w.heap.size) (n1 : a1 = none → cap1 = 0) (hL : L ≤ 2400) (y deg : Nat) (hd1 : 1 ≤ deg) (hd : deg ≤ 32) (hy : y < 2 ^ deg) :
    Calls Try.prog 33 #[.slice a1 L cap1, .int .u64 y, .int .i64 deg, .bool true] w fun e w' => e = .returned (.int .u64 (feedN y deg (2 ^ deg - 1) l : Nat)) ∧ Below w.heap.size w w' := by
  have hy32 : y < 4294967296 := Nat.lt_of_lt_of_le hy (by rw [show 4294967296 = 2 ^ 32 from rfl]; exact Nat.pow_le_pow_right (by decide) hd)
  have lL : L = l.length := by have := h1.1; rwa [bvs_length] at this
  have LL : Hid (L = l.length) := lL
  have HY : Hid (y < 2 ^ deg) := hy
  clear lL hy
  have b2 : Below w.heap.size w (w.alloc (.cells #[] 3)) := (Below.refl _ w).alloc (Nat.le_refl _) _
  obtain ⟨a4, c4, w4, hap4, o4, b4⟩ := run_appR (P := Try.prog) 65 3 .i64 0 8 Try.underlying65 info3 (by decide) (w.alloc (.cells #[] 3)) w.heap.size 65 _ 0 0 _ (ownR_new 3 .i64 w.heap.size w (Nat.le_refl _)) a1 L cap1 (bvs l) (h1.below b2 hn) n1 (by omega) (by simp)
  simp only [Nat.zero_add, List.nil_append] at hap4 o4
  have b14 := b2.trans b4
  go_enter Try.func33, Try.ntmps33
  go_wp2_with (at_builtin; refine wpList_app hap4 _ _ rfl rfl rfl rfl rfl ?_)
  clear hap4
  go_loopw [9, 10] (fun av iv wr => ∃ i : Nat, ∃ a' c', i ≤ deg ∧ iv = .int .i64 i ∧ av = .slice a' (L + i) c' ∧ OwnR 3 .i64 w.heap.size wr a' (L + i) c' (bvs (l ++ zeros i)) ∧ Below w.heap.size w wr) (fun _ iv _ => deg - (intOf iv).toNat)
  case atStart => exact ⟨0, a4, c4, Nat.zero_le _, rfl, rfl, by simpa [zeros] using o4, b14⟩
  case round =>
    obtain ⟨i, a', c', hi, rfl, rfl, oi, bi⟩ := hrel
    by_cases hlt : i < deg
    · obtain ⟨a3, c3, w3, hap, o3, b3⟩ := run_appR (P := Try.prog) 65 3 .i64 0 8 Try.underlying65 info3 (by decide) (wr.alloc (.cells #[.int .i64 0] 3)) w.heap.size 65 a' (L + i) c' _ (oi.below ((Below.refl _ wr).alloc (Nat.le_refl _) _) (Nat.le_refl _)) (some ⟨wr.heap.size, 0, none⟩) 1 1 [0] (isR_new .i64 wr [0] 3 (0, 0)) (by intro h; cases h) (by omega) (by have := bi.size; simp; omega)
      go_wp2_with (at_builtin; refine wpList_app hap _ _ rfl rfl rfl rfl rfl ?_)
      go_roundw
      case rel => exact ⟨i + 1, a3, c3, by omega, by go_num, rfl, by rw [show l ++ zeros (i + 1) = (l ++ zeros i) ++ [false] from by rw [zeros, List.replicate_succ', List.append_assoc]; rfl, bvs_append]; exact o3, (bi.alloc bi.size _).trans b3⟩
      case measure => simp [intOf]; omega
    · obtain rfl : deg = i := by omega
      clear hlt hi o4 b4 b14 b2
      obtain ⟨g0, cur0, rfl, hg0, hgs0, hcur0⟩ := oi.block (by omega)
      clear hcur0
      have HSTART : Hid (bvs (l ++ zeros deg) = bvs (turn (l ++ zeros deg) 0)) := by show _ = _; rw [turn_zero]
      have hplen : Hid ((l ++ zeros deg).length = L + deg) := by show _ = _; rw [List.length_append, LL.out]; simp [zeros]
      go_wp2
      go_loopw [11] (fun iv wr2 => ∃ i : Nat, i ≤ deg ∧ iv = .int .i64 i ∧ OwnR 3 .i64 w.heap.size wr2 (some ⟨g0, 0, none⟩) (L + deg) c' (bvs (turn (l ++ zeros deg) i)) ∧ Below w.heap.size w wr2 ∧ g0 < wr2.heap.size) (fun iv _ => deg - (intOf iv).toNat)
      case atStart => exact ⟨0, Nat.zero_le _, rfl, by rw [← HSTART.out]; exact oi, bi, hgs0⟩
      case round =>
        obtain ⟨i, hi, rfl, ot, bt, hgt⟩ := hrel
        by_cases hlt : i < deg
        · obtain ⟨x, hx⟩ : ∃ x, (l ++ zeros deg)[i]? = some x := ⟨(l ++ zeros deg)[i]'(by rw [hplen.out]; omega), by rw [List.getElem?_eq_getElem]⟩
          have hxt : (turn (l ++ zeros deg) i)[i]? = some x := by rw [turn_get, hx]; simp
          have cx := ot.get (bvs_get hxt)
          have hset := turn_set (l ++ zeros deg) i x hx
          have oset := ot.set i (bv (!x))
          rw [bvs_set, hset] at oset
          have fz : wr.frozen? ⟨g0, i, none⟩ = false := by
            obtain ⟨g, cur, e, _, _, hcur⟩ := ot.block (by omega)
            cases e
            exact frozen_of_cells hcur
          have hnot := bv_not x
          have x01 := bv_01 x
          generalize bv x = u at *
          generalize bv (!x) = v at *
          obtain ⟨u0, u1⟩ := x01
          have OS : Hid (OwnR 3 .i64 w.heap.size (wr.setCell ⟨g0, i, none⟩ (.int .i64 v)) (some ⟨g0, 0, none⟩) (L + deg) c' (bvs (turn (l ++ zeros deg) (i + 1)))) := oset
          clear oset hset hx hxt
          go_wp2
          go_roundw
          case rel => exact ⟨i + 1, by omega, by go_num, OS.out, bt.setCell (p := ⟨g0, i, none⟩) hg0 _, by rw [World.size_setCell]; exact hgt⟩
          case measure => simp [intOf]; omega
        · obtain rfl : deg = i := by omega
          clear hlt hi oi bi hgs0 HSTART hplen
          have hgs0 := hgt
          clear hgt
          go_wp2
          obtain ⟨W1, hW1⟩ : ∃ W1, wr = W1 := ⟨_, rfl⟩
          rw [hW1] at ot bt hgs0 ⊢
          clear hW1
          have OA := ot
          have BA := bt
          clear ot bt
          obtain ⟨A0, hA0⟩ : ∃ A0, turn (l ++ zeros deg) deg = A0 := ⟨_, rfl⟩
          have hInv := inv_turned y deg l
          rw [hA0] at OA hInv
          clear hA0
          have HI : Hid (Inv y deg (2 ^ deg - 1) l 0 A0) := hInv
          clear hInv
          go_loopw [12, 13] (fun gv iv wr3 => ∃ (c : Nat) (d : Int) (a3 : Option Addr) (c3 : Nat), c ≤ deg ∧ d = (deg : Int) - 1 - (c : Int) ∧ iv = .int .i64 d ∧ gv = .slice a3 (c + 1) c3 ∧ OwnR 3 .i64 W1.heap.size wr3 a3 (c + 1) c3 (bvs (gbits deg y c)) ∧ Below W1.heap.size W1 wr3) (fun _ iv _ => (intOf iv + 1).toNat)
          case atStart => exact ⟨0, _, some ⟨W1.heap.size, 0, none⟩, 1, Nat.zero_le _, by omega, rfl, rfl, ownR_lit 3 .i64 W1.heap.size W1 [1] (Nat.le_refl _) (by decide), (Below.refl _ W1).alloc (Nat.le_refl _) _⟩
          case round =>
            obtain ⟨c, d, a3, c3, hc, hdc, rfl, rfl, og, bg⟩ := hrel
            by_cases hlt : c < deg
            · obtain ⟨d', rfl⟩ := Int.eq_ofNat_of_zero_le (show 0 ≤ d by omega)
              have hgb := gen_bit y d'
              have hgs := gbits_succ deg y c
              rw [show deg - 1 - c = d' from by omega] at hgs
              obtain ⟨v, hv⟩ : ∃ v, bv (y.testBit d') = v := ⟨_, rfl⟩
              have hv01 := bv_01 (y.testBit d')
              rw [hv] at hgb hv01
              obtain ⟨hv0, hv1⟩ := hv01
              obtain ⟨e, he⟩ : ∃ e, y / 2 ^ d' = e := ⟨_, rfl⟩
              have hye : (y : Int) / 2 ^ d' = (e : Int) := by rw [← he]; simp
              have hel : e ≤ y := by rw [← he]; exact Nat.div_le_self _ _
              rw [hye] at hgb
              clear he
              have HG : Hid (bvs (gbits deg y (c + 1)) = bvs (gbits deg y c) ++ [v]) := by rw [← hv]; show bvs _ = _; rw [hgs, bvs_append]; rfl
              have HDC : Hid ((d' : Int) = (deg : Int) - 1 - (c : Int)) := hdc
              have hd31 : d' ≤ 31 := by omega
              clear hv hgs hdc
              obtain ⟨a5, c5, w5, hap, o5, b5⟩ := run_appR (P := Try.prog) 65 3 .i64 0 8 Try.underlying65 info3 (by decide) (wr.alloc (.cells #[.int .i64 v] 3)) W1.heap.size 65 a3 (c + 1) c3 _ (og.below ((Below.refl _ wr).alloc (Nat.le_refl _) _) (Nat.le_refl _)) (some ⟨wr.heap.size, 0, none⟩) 1 1 [v] (isR_new .i64 wr [v] 3 (0, 0)) (by intro h; cases h) (by omega) (by have := bg.size; simp; omega)
              go_wp2_with (at_builtin; refine wpList_app hap _ _ rfl rfl rfl rfl rfl ?_)
              go_roundw
              case rel => exact ⟨c + 1, _, a5, c5, by omega, by have := HDC.out; omega, rfl, rfl, by rw [HG.out]; exact o5, (bg.alloc bg.size _).trans b5⟩
              case measure => simp [intOf]
            · obtain rfl : deg = c := by omega
              obtain rfl : d = -1 := by omega
              clear hlt hc hdc
              have oi3 := OA.below bg (Nat.le_refl _)
              have bi3 := BA.trans (bg.mono BA.size)
              obtain ⟨g1, cur1, rfl, hg1, hgs1, hcur1⟩ := og.block (by omega)
              clear hcur1 OA
              go_wp2
              go_loopw [14] (fun iv wr4 => ∃ (i : Nat) (A : List Bool), i ≤ L ∧ iv = .int .i64 i ∧ OwnR 3 .i64 w.heap.size wr4 (some ⟨g0, 0, none⟩) (L + deg) c' (bvs A) ∧ Inv y deg (2 ^ deg - 1) l i A ∧ OwnR 3 .i64 W1.heap.size wr4 (some ⟨g1, 0, none⟩) (deg + 1) c3 (bvs (gbits deg y deg)) ∧ Below w.heap.size w wr4) (fun iv _ => L - (intOf iv).toNat)
              case atStart => exact ⟨0, A0, Nat.zero_le _, rfl, oi3, HI.out, og, bi3⟩
              case round =>
                obtain ⟨i, A, hi, rfl, oA, hinv, oG, bA⟩ := hrel
                by_cases hlt : i < L
                · obtain ⟨x, hx⟩ : ∃ x, A[i]? = some x := ⟨A[i]'(by rw [hinv.1, ← LL.out]; omega), by rw [List.getElem?_eq_getElem]⟩
                  have hstep := inv_step hd1 hd HY.out (Nat.sub_lt (Nat.two_pow_pos _) (by decide)) hinv (by rw [← LL.out]; exact hlt) x hx
                  have cA := oA.get (bvs_get hx)
                  have hbq := bv_beq x
                  have hlA := hinv.1
                  cases x with
                  | false =>
                    have HS : Hid (Inv y deg (2 ^ deg - 1) l (i + 1) A) := hstep
                    have cA0 : wr.cell? ⟨g0, i, none⟩ = some (.int .i64 0) := cA
                    clear hstep cA hbq hx hinv hlA
                    go_wp2
                    go_roundw
                    case rel => exact ⟨i + 1, A, by omega, by go_num, oA, HS.out, oG, bA⟩
                    case measure => simp [intOf]; omega
                  | true =>
                    have HS : Hid (Inv y deg (2 ^ deg - 1) l (i + 1) (tog A (gbits deg y deg) i (deg + 1))) := hstep
                    have cA1 : wr.cell? ⟨g0, i, none⟩ = some (.int .i64 1) := cA
                    have HA : Hid (A.length = L + deg) := by show A.length = _; rw [hlA, ← LL.out]
                    clear hstep cA hbq hx hinv hlA
                    go_wp2
                    go_loopw [73] (fun kv wr5 => ∃ k : Nat, k ≤ deg + 1 ∧ kv = .int .i64 k ∧ OwnR 3 .i64 w.heap.size wr5 (some ⟨g0, 0, none⟩) (L + deg) c' (bvs (tog A (gbits deg y deg) i k)) ∧ OwnR 3 .i64 W1.heap.size wr5 (some ⟨g1, 0, none⟩) (deg + 1) c3 (bvs (gbits deg y deg)) ∧ Below w.heap.size w wr5) (fun kv _ => deg + 1 - (intOf kv).toNat)
                    case atStart => exact ⟨0, Nat.zero_le _, rfl, by rw [tog_zero]; exact oA, oG, bA⟩
                    case round =>
                      obtain ⟨k, hk, rfl, oT, oG5, bT⟩ := hrel
                      by_cases hkl : k < deg + 1
                      · obtain ⟨p, hp⟩ : ∃ x, A[i + k]? = some x := ⟨A[i + k]'(by rw [HA.out]; omega), by rw [List.getElem?_eq_getElem]⟩
                        obtain ⟨q, hq⟩ : ∃ x, (gbits deg y deg)[k]? = some x := ⟨(gbits deg y deg)[k]'(by rw [gbits_length]; omega), by rw [List.getElem?_eq_getElem]⟩
                        have hpt : (tog A (gbits deg y deg) i k)[i + k]? = some p := by rw [tog_at]; exact hp
                        have cp := oT.get (bvs_get hpt)
                        have cq := oG5.get (bvs_get hq)
                        have hset := tog_set A (gbits deg y deg) i k p q hp hq
                        have hadd := bv_add p q
                        have oset := oT.set (i + k) (bv (p ^^ q))
                        rw [bvs_set, hset] at oset
                        have p01 := bv_01 p
                        have q01 := bv_01 q
                        generalize bv p = u at *
                        generalize bv q = v at *
                        generalize bv (p ^^ q) = t at *
                        have fz : wr.frozen? ⟨g0, i + k, none⟩ = false := by
                          obtain ⟨g, cur, e, _, _, hcur⟩ := oT.block (by omega)
                          cases e
                          exact frozen_of_cells hcur
                        obtain ⟨pu0, pu1⟩ := p01
                        obtain ⟨qv0, qv1⟩ := q01
                        have OS : Hid (OwnR 3 .i64 w.heap.size (wr.setCell ⟨g0, i + k, none⟩ (.int .i64 t)) (some ⟨g0, 0, none⟩) (L + deg) c' (bvs (tog A (gbits deg y deg) i (k + 1)))) := oset
                        clear oset hset hp hq hpt
                        go_wp2
                        go_region
                        all_goals
                          go_wp2
                          go_roundw
                          case rel => exact ⟨k + 1, by omega, by go_num, OS.out.below ((Below.refl _ _).drew) (Nat.le_refl _), (oG5.other (p := ⟨g0, i + k, none⟩) hgs0 _).below ((Below.refl _ _).drew) (Nat.le_refl _), (bT.setCell (p := ⟨g0, i + k, none⟩) hg0 _).drew⟩
                          case measure => simp [intOf]; omega
                      · obtain rfl : deg + 1 = k := by omega
                        go_wp2
                        go_roundw
                        case rel => exact ⟨i + 1, _, by omega, by go_num, oT, HS.out, oG5, bT⟩
                        case measure => simp [intOf]; omega
                · obtain rfl : L = i := by omega
                  have hrd : ∀ m, m < deg → wr.cell? ⟨g0, L + m, none⟩ = some (.int .i64 (bv ((feedN y deg (2 ^ deg - 1) l).testBit (deg - 1 - m)))) := by
                    intro m hm
                    have hinv' := hinv
                    rw [LL.out] at hinv'
                    have := inv_end hinv' m hm
                    rw [← LL.out] at this
                    exact oA.get (bvs_get this)
                  have hrl := feedN_lt y deg (2 ^ deg - 1) l HY.out (Nat.sub_lt (Nat.two_pow_pos _) (by decide))
                  have hr32 : feedN y deg (2 ^ deg - 1) l < 4294967296 := Nat.lt_of_lt_of_le hrl (by rw [show 4294967296 = 2 ^ 32 from rfl]; exact Nat.pow_le_pow_right (by decide) hd)
                  have hz := read_zero (feedN y deg (2 ^ deg - 1) l) deg hrl
                  generalize hrv : feedN y deg (2 ^ deg - 1) l = r at hrd hrl hr32 hz
                  have HE : Hid (feedN y deg (2 ^ deg - 1) l = r) := hrv
                  clear hrv
                  have HR : Hid (∀ m, m < deg → wr.cell? ⟨g0, L + m, none⟩ = some (.int .i64 (bv (r.testBit (deg - 1 - m))))) := hrd
                  have HZ : Hid (r / 2 ^ (deg - 0) = 0) := hz
                  clear hrd hz hrl hinv hi
                  go_wp2
                  go_loop [16, 17] (fun nv iv => ∃ m : Nat, m ≤ deg ∧ iv = .int .i64 ((L : Int) + (m : Int)) ∧ nv = .int .u64 (r / 2 ^ (deg - m) : Nat)) (fun _ iv => L + deg - (intOf iv).toNat)
                  case atStart => exact ⟨0, Nat.zero_le _, by go_num, by rw [HZ.out]; rfl⟩
                  case round =>
                    obtain ⟨m, hm, rfl, rfl⟩ := hrel
                    by_cases hml : m < deg
                    · have cm := HR.out m hml
                      have hrs := read_succ r deg m hml
                      have b01 := bv_01 (r.testBit (deg - 1 - m))
                      have hle : r / 2 ^ (deg - m) ≤ r := Nat.div_le_self _ _
                      generalize bv (r.testBit (deg - 1 - m)) = v at *
                      generalize r / 2 ^ (deg - m) = nn at *
                      obtain ⟨v0, v1⟩ := b01
                      have HRS : Hid (((r / 2 ^ (deg - (m + 1)) : Nat) : Int) = 2 * (nn : Int) + v) := hrs
                      clear hrs
                      go_wp2
                      go_round
                      case rel => exact ⟨m + 1, by omega, by go_num, by rw [HRS.out]⟩
                      case measure => simp [intOf]; omega
                    · obtain rfl : deg = m := by omega
                      go_wp2
                      go_ret
                      exact ⟨by rw [HE.out]; rfl, bA⟩
end Go.Proofs.Ytpjlcmdidhdbcaa
