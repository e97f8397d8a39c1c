/- Proved here: the walk of ElementOwn. Conditions: as the theorem states them. -/
import Derived.Laws.BitsAllLaws
import Derived.Test.YtbjkioekmekeaaaAw
namespace Go.Proofs.Ytbjkioekmekeaaa
set_option linter.unusedSimpArgs false
set_option linter.unusedVariables false
open Go.RowKit Go.Shelf

theorem xor_byte (x y : UInt8) : bits .xor .u8 (x.toNat : Int) (y.toNat : Int) = ((x ^^^ y).toNat : Int) := by
  rw [u8_xor_nat _ _ x.toNat_lt y.toNat_lt]
  simp
theorem okL_len {L : List El} (h : okL L = true) : (bytesE L).length ≤ 4864 := by
  obtain ⟨h1, h2⟩ := okL_iff.1 h
  have := bytesE_length_le L (fun x hx => by have := h2 x hx; omega)
  omega
theorem run_slI0 (w : World) : (Instr.buildSlice 22 0 #[]).run Try.prog w = .ok (.slice (some ⟨w.heap.size, 0, none⟩) 0 0) (w.alloc (.cells #[] 36)) := by kernel_rfl
theorem wpList_slI0 {w : World} {ops : Array Oper} {rest : List Oper} {o : Oper} {a : Act} {Q : Exit → Act → World → Prop} (hgd : Region.wanted o (yielded ops a.tmps) = true)
    (base : Nat) (ho : o.op = .buildSlice 22 0 #[]) (hbase : base ≤ w.heap.size)
    (h : ∀ b w', OwnI 0 base w' (some ⟨b, 0, none⟩) 0 0 [] → Below w.heap.size w w' → wpList Try.prog ops Q rest (a.put o.dst (.slice (some ⟨b, 0, none⟩) 0 0)) w') : wpList Try.prog ops Q (o :: rest) a w := by
  refine wpList_val (v := .slice (some ⟨w.heap.size, 0, none⟩) 0 0) (w' := w.alloc (.cells #[] 36)) hgd ?_ (h _ _ (ownI_new 0 base w hbase) ((Below.refl _ w).alloc (Nat.le_refl _) _))
  unfold execOp
  simp [ho, run_slI0, Result.andThen]

set_option maxHeartbeats 4000000 in
theorem own_walk (W : World) (a0 : Option Addr) (l0 k0 : Nat) (L : List El) (I0 : IsI W.heap.size W a0 l0 L) (m0 : l0 ≤ maxLen) (n0 : a0 = none → k0 = 0) (a1 : Option Addr) (l1 k1 : Nat) (M : List El) (I1 : IsI W.heap.size W a1 l1 M) (m1 : l1 ≤ maxLen) (n1 : a1 = none → k1 = 0) (x : UInt8) :
    Calls Try.prog 7 #[.slice a0 l0 k0, .slice a1 l1 k1, .int .u8 (x.toNat : Int)] W fun e w' => e = .returned (.bool true) ∧ Below W.heap.size W w' := by
  have HA := fun w => awake_calls w
  go_enter Try.func7, Try.ntmps7
  go_wp2_with fail
  refine (HA _).mono ?_
  rintro e w1 ⟨rfl, b1⟩
  have HF := few_calls a0 l0 k0 L w1 (I0.below b1 (Nat.le_refl _)) b1.size m0
  cases hf : fewB L
  · rw [hf] at HF
    go_wp2_with fail
    refine HF.mono ?_
    rintro e w2 ⟨rfl, b2⟩
    have B2 := b1.trans (b2.mono b1.size)
    go_wp2_with fail
    refine (HA _).mono ?_
    rintro e w3 ⟨rfl, b3⟩
    go_wp2
    go_ret
    exact ⟨rfl, B2.trans (b3.mono B2.size)⟩
  rw [hf] at HF
  obtain ⟨h300, h20⟩ := fewB_iff.1 hf
  clear hf
  go_wp2_with fail
  refine HF.mono ?_
  rintro e w2 ⟨rfl, b2⟩
  have B2 := b1.trans (b2.mono b1.size)
  clear HF b1 b2
  have HF := few_calls a1 l1 k1 M w2 (I1.below B2 (Nat.le_refl _)) B2.size m1
  cases hf : fewB M
  · rw [hf] at HF
    go_wp2_with fail
    refine HF.mono ?_
    rintro e w3 ⟨rfl, b3⟩
    have B3 := B2.trans (b3.mono B2.size)
    go_wp2_with fail
    refine (HA _).mono ?_
    rintro e w4 ⟨rfl, b4⟩
    go_wp2
    go_ret
    exact ⟨rfl, B3.trans (b4.mono B3.size)⟩
  rw [hf] at HF
  obtain ⟨g300, g20⟩ := fewB_iff.1 hf
  clear hf HA
  go_wp2_with fail
  refine HF.mono ?_
  rintro e w3 ⟨rfl, b3⟩
  have B3 := B2.trans (b3.mono B2.size)
  have hl0 : Hid (l0 = L.length) := I0.1
  have hl1 : Hid (l1 = M.length) := I1.1
  have hl20 : l0 ≤ 20 := by have := I0.1; omega
  have hl21 : l1 ≤ 20 := by have := I1.1; omega
  clear HF b3 B2 h20 g20 g300
  have H300 : Hid (∀ x ∈ L, x.body.length ≤ 300) := h300
  clear h300
  cases hok : okL L
  · have HP := pack_no a0 l0 k0 L w3 (I0.below B3 (Nat.le_refl _)) B3.size (by omega) hok
    clear hok
    cases hok2 : okL M
    · go_wp2_with fail
      refine HP.mono ?_
      rintro e w4 ⟨rfl, b4⟩
      have B4 := B3.trans (b4.mono B3.size)
      have HP2 := pack_no a1 l1 k1 M w4 (I1.below B4 (Nat.le_refl _)) B4.size (by omega) hok2
      go_wp2_with fail
      refine HP2.mono ?_
      rintro e w5 ⟨rfl, b5⟩
      go_wp2
      go_ret
      exact ⟨rfl, B4.trans (b5.mono B4.size)⟩
    · go_wp2_with fail
      refine HP.mono ?_
      rintro e w4 ⟨rfl, b4⟩
      have B4 := B3.trans (b4.mono B3.size)
      have HP2 := pack_ok a1 l1 k1 M w4 (I1.below B4 (Nat.le_refl _)) B4.size hok2
      go_wp2_with fail
      refine HP2.mono ?_
      rintro e w5 ⟨a5, c5, rfl, o5, b5⟩
      go_wp2
      go_ret
      exact ⟨rfl, B4.trans (b5.mono B4.size)⟩
  have HP := pack_ok a0 l0 k0 L w3 (I0.below B3 (Nat.le_refl _)) B3.size hok
  go_wp2_with fail
  refine HP.mono ?_
  rintro e w4 ⟨a4, c4, rfl, o4, b4⟩
  have B4 := B3.trans (b4.mono B3.size)
  have o4 := o4.mono B3.size
  clear HP b4 B3
  cases hok2 : okL M
  · have HP := pack_no a1 l1 k1 M w4 (I1.below B4 (Nat.le_refl _)) B4.size (by omega) hok2
    go_wp2_with fail
    refine HP.mono ?_
    rintro e w5 ⟨rfl, b5⟩
    go_wp2
    go_ret
    exact ⟨rfl, B4.trans (b5.mono B4.size)⟩
  have HP := pack_ok a1 l1 k1 M w4 (I1.below B4 (Nat.le_refl _)) B4.size hok2
  have hun := unE_bytes (L ++ M) 16 (fun x hx => (List.mem_append.1 hx).elim ((okL_iff.1 hok).2 x) ((okL_iff.1 hok2).2 x))
  rw [bytesE_append, List.length_append, ← hl0.out, ← hl1.out] at hun
  have HU : Hid (unE 16 (bytesE L ++ bytesE M) = if l0 + l1 ≤ 16 then .ok (L ++ M) else .error 6) := hun
  have HLM : Hid (∀ x ∈ L ++ M, x.body.length ≤ 100000) := fun x hx => by
    rcases List.mem_append.1 hx with h | h
    · have := (okL_iff.1 hok).2 x h; omega
    · have := (okL_iff.1 hok2).2 x h; omega
  have hA1 : Hid ((bytesE L).length ≤ 4864) := okL_len hok
  have hM1 : Hid ((bytesE M).length ≤ 4864) := okL_len hok2
  clear hok hok2 hun
  go_wp2_with fail
  refine HP.mono ?_
  rintro e w5 ⟨a5, c5, rfl, o5, b5⟩
  have B5 := B4.trans (b5.mono B4.size)
  have o4 := o4.below b5 (Nat.le_refl _)
  have o5 := o5.mono B4.size
  clear HP b5 B4
  obtain ⟨zp, hzp⟩ : ∃ z, bytesE L = z := ⟨_, rfl⟩
  obtain ⟨zq, hzq⟩ : ∃ z, bytesE M = z := ⟨_, rfl⟩
  rw [hzp] at o4 hA1 HU
  rw [hzq] at o5 hM1 HU
  obtain ⟨np, hnp⟩ : ∃ z, zp.length = z := ⟨_, rfl⟩
  obtain ⟨nq, hnq⟩ : ∃ z, zq.length = z := ⟨_, rfl⟩
  have hnp1 : np ≤ 4864 := by rw [← hnp]; exact hA1.out
  have hnq1 : nq ≤ 4864 := by rw [← hnq]; exact hM1.out
  rw [hzp, hzq]
  rw [hnp] at o4 ⊢
  rw [hnq] at o5 ⊢
  clear hzp hzq hA1 hM1 hnp hnq
  go_wp2_with (with_reducible show wpList _ _ _ (Oper.mk _ (Op.buildSlice _ _ _) _ _ _ _ :: _) _ _; refine stop_here ?_)
  refine ⟨?_⟩
  refine wpList_slB (zs := []) (vs := []) (by rfl) w5.heap.size (by rfl) (by rfl) run_sl0 rfl (by decide) (Nat.le_refl _) ?_
  intro b6 w6 hb6 o6 d6
  have p4 := o4.below d6 (Nat.le_refl _)
  go_wp2_with (at_builtin; refine wpList_appB (N := np) (by rfl) (by rfl) (by rfl) (by rfl) o6 p4.isB.1 p4.isB.2.1 (by omega) d6.size (Nat.zero_add _) ?_; intro a7 c7 w7 o7 d7; refine stop_here ?_)
  refine ⟨?_⟩
  have D7 := d6.trans d7
  have p5 := o5.below D7 (Nat.le_refl _)
  clear p4 o6
  go_wp2_with (at_builtin; refine wpList_appB (N := np + nq) (by rfl) (by rfl) (by rfl) (by rfl) o7 p5.isB.1 p5.isB.2.1 (by omega) D7.size rfl ?_; intro a8 c8 w8 o8 d8; refine stop_here ?_)
  refine ⟨?_⟩
  have D8 := D7.trans d8
  have B8 := B5.trans (D8.mono B5.size)
  have HP := unpack_calls a8 (np + nq) c8 ([] ++ zp ++ zq) w8 o8.isB.1 (Nat.le_refl _) o8.isB.2.2 (by omega)
  rw [List.nil_append] at HP o8
  clear p5 o7 D7 d6 d7 d8 o4 o5
  go_wp2_with fail
  refine HP.mono ?_
  rintro e w9 ⟨b9, h9⟩
  have B9 := B8.trans (b9.mono B8.size)
  have q8 := o8.blk_lt
  have o9 := o8.below b9 (Nat.le_refl _)
  have S8 : w5.heap.size ≤ w8.heap.size := D8.size
  have S9 : w8.heap.size ≤ w9.heap.size := b9.size
  clear HP o8 B8 b9 D8
  by_cases h16 : l0 + l1 ≤ 16
  · have hU := HU.out
    rw [if_pos h16] at hU
    have q1 : decide (16 < (l0 : Int) + (l1 : Int)) = false := by simp; omega
    rcases h9 with ⟨U, a10, c10, hM, rfl, o10⟩ | ⟨E, hE, rfl⟩
    · rw [hU] at hM
      cases hM
      rw [List.length_append, ← hl0.out, ← hl1.out] at o10 ⊢
      clear hU HU h16
      go_wp2
      go_loopw [69] (fun iv wr => ∃ (k : Nat) (zs : List UInt8), k ≤ np + nq ∧ iv = .int .i64 k ∧ OwnB w5.heap.size wr a8 (np + nq) c8 zs ∧ OwnI w8.heap.size w8.heap.size wr a10 (l0 + l1) c10 (L ++ M) ∧ Below W.heap.size W wr ∧ w9.heap.size ≤ wr.heap.size) (fun iv _ => np + nq - (intOf iv).toNat)
      case atStart => exact ⟨0, zp ++ zq, Nat.zero_le _, rfl, o9, o10, B9, Nat.le_refl _⟩
      case round =>
        obtain ⟨k, zs, hk, rfl, p9, p10, BR, SR⟩ := hrel
        by_cases hlt : k < np + nq
        · obtain ⟨y, hy⟩ : ∃ y, zs[k]? = some y := ⟨zs[k]'(by have := p9.1; omega), by rw [List.getElem?_eq_getElem]⟩
          obtain ⟨g, cur, rfl, hg, hgl, hgh⟩ := p9.block (by omega)
          obtain ⟨b', off', e', _, hc⟩ := p9.isB.1.cell hy
          cases e'
          have d1 := hc k y hy
          rw [Nat.zero_add] at d1
          have fz := frozen_of_block (k := k) hgh
          have hx := xor_byte y x
          have p11 := p9.set k (y ^^^ x)
          have g8 : g < w8.heap.size := (q8 g rfl).2
          have p12 := p10.keep (w' := wr.setCell ⟨g, k, none⟩ (.int .u8 ((y ^^^ x).toNat : Int))) (Nat.le_refl _) (by simp [World.setCell]) (fun j hj _ => Below.heap_setCell _ _ _ _ (by show j ≠ g; omega))
          have BS := BR.setCell (p := ⟨g, k, none⟩) (Nat.le_trans B5.size hg) (.int .u8 ((y ^^^ x).toNat : Int))
          clear hc p9 p10 q8 hy
          go_wp2
          go_roundw
          case rel => exact ⟨k + 1, zs.set k (y ^^^ x), by omega, by go_num, p11, p12, BS, by simp [World.setCell]; exact SR⟩
          case measure => simp [intOf]; omega
        · obtain rfl : k = np + nq := by omega
          clear p9 o9 o10 q8
          go_wp2_with (with_reducible show wpList _ _ _ (Oper.mk _ (Op.buildSlice _ _ _) _ _ _ _ :: _) _ _; refine stop_here ?_)
          refine ⟨?_⟩
          refine wpList_slI0 (by rfl) wr.heap.size (by rfl) (Nat.le_refl _) ?_
          intro b11 w11 o11 d11
          have B11 := BR.trans (d11.mono BR.size)
          have J0 : IsI wr.heap.size w11 a0 l0 L := (I0.below B11 (Nat.le_refl _)).mono BR.size
          go_wp2_with (at_builtin; refine wpList_appO (N := l0) (by rfl) (by rfl) (by rfl) (by rfl) o11 J0 n0 (by omega) (by omega) d11.size (Nat.zero_add _) ?_; intro a12 c12 w12 o12 d12; refine stop_here ?_)
          refine ⟨?_⟩
          have D12 := d11.trans d12
          have B12 := BR.trans (D12.mono BR.size)
          have J1 : IsI wr.heap.size w12 a1 l1 M := (I1.below B12 (Nat.le_refl _)).mono BR.size
          rw [List.nil_append] at o12
          clear o11 J0 B11
          go_wp2_with (at_builtin; refine wpList_appO (N := l0 + l1) (by rfl) (by rfl) (by rfl) (by rfl) o12 J1 n1 (by omega) (by omega) D12.size rfl ?_; intro a13 c13 w13 o13 d13; refine stop_here ?_)
          refine ⟨?_⟩
          have D13 := D12.trans d13
          have B13 := BR.trans (D13.mono BR.size)
          have p13 := p10.below D13 (Nat.le_refl _)
          have HS := same15_calls a10 a13 (l0 + l1) c10 (l0 + l1) c13 _ _ w13 p13.isI.1 o13.isI.1 (Nat.le_refl _) (Nat.le_refl _) (by omega) (by omega) HLM.out
          rw [sameL_self] at HS
          clear o12 J1 B12 p13 o13 p10
          go_wp2_with fail
          refine HS.mono ?_
          rintro e w14 ⟨rfl, b14⟩
          go_wp2
          go_ret
          exact ⟨rfl, B13.trans (b14.mono B13.size)⟩
    · rw [hU] at hE
      cases hE
  · have hU := HU.out
    rw [if_neg h16] at hU
    have q1 : decide (16 < (l0 : Int) + (l1 : Int)) = true := by simp; omega
    rcases h9 with ⟨U, a10, c10, hM, rfl, o10⟩ | ⟨E, hE, rfl⟩
    · rw [hU] at hM
      cases hM
    · rw [hU] at hE
      cases hE
      clear hU HU h16
      go_wp2
      go_ret
      exact ⟨rfl, B9⟩
end Go.Proofs.Ytbjkioekmekeaaa
