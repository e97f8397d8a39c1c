/- Proved here: what element.Traffic answers. Conditions: as each theorem states them. -/
import Derived.Test.YtbjkioekmekeaaaCk
import Derived.Test.YtbjkioekmekeaaaSw
import Derived.Test.YtbjkioekmekeaaaRight
namespace Go.Proofs.Ytbjkioekmekeaaa
set_option linter.unusedSimpArgs false
set_option linter.unusedVariables false
open Go.RowKit Go.Shelf

def trafB (k : Nat) (S : List Nat) : List UInt8 := S.foldl (fun acc x => acc ++ beN 6 x) [UInt8.ofNat k]
theorem trafB_snoc (k : Nat) (S : List Nat) (x : Nat) : trafB k (S ++ [x]) = trafB k S ++ beN 6 x := by simp [trafB]
theorem fold_len : ∀ (S : List Nat) (acc : List UInt8), (S.foldl (fun acc x => acc ++ beN 6 x) acc).length = acc.length + 6 * S.length
  | [], acc => by simp
  | x :: S, acc => by rw [List.foldl_cons, fold_len S, List.length_append, beN_length, List.length_cons]; omega
theorem trafB_length (k : Nat) (S : List Nat) : (trafB k S).length = 1 + 6 * S.length := fold_len S _
def trafE (k p e w b l : Nat) : El := ⟨89, trafB k [p, e, w, b, l]⟩
/-- What can be has no number below 0. -/
theorem errN_nats {k p e w b l : Int} (h : errN k p e w b l = 0) : ∃ k' p' e' w' b' l' : Nat, k = k' ∧ p = p' ∧ e = e' ∧ w = w' ∧ b = b' ∧ l = l' ∧ k' ≤ 7 ∧ p' ≤ 1099511627776 ∧ e' ≤ 1099511627776 ∧ w' ≤ 1099511627776 ∧ b' ≤ 1099511627776 ∧ l' ≤ 1099511627776 := by
  obtain ⟨hk, hc⟩ := errN_zero.1 h
  have key : (0 ≤ p ∧ p ≤ 1099511627776) ∧ (0 ≤ e ∧ e ≤ 1099511627776) ∧ (0 ≤ w ∧ w ≤ 1099511627776) ∧ (0 ≤ b ∧ b ≤ 1099511627776) ∧ (0 ≤ l ∧ l ≤ 1099511627776) := by
    cases hv : vbrB k
    · obtain ⟨h1, h2, h3, h4, h5⟩ := (canB_plain hv).1 hc
      omega
    · obtain ⟨h1, h2, h3, h4, h5⟩ := (canB_vbr hv).1 hc
      omega
  exact ⟨k.toNat, p.toNat, e.toNat, w.toNat, b.toNat, l.toNat, by omega, by omega, by omega, by omega, by omega, by omega, by omega, by omega, by omega, by omega, by omega, by omega⟩

abbrev cC (k p e w b l : Int) : Array Value := #[.int .i64 k, .int .i64 p, .int .i64 e, .int .i64 w, .int .i64 b, .int .i64 l]

set_option maxHeartbeats 2000000 in
theorem traf_no (k p e v b l : Int) (E : Int) (h : errN k p e v b l = E) (h0 : E ≠ 0) (w : World) : Calls Try.prog 18 #[cV k p e v b l] w fun x w' => x = ieNo E ∧ Below w.heap.size w w' := by
  have A0 : Below w.heap.size w ((w.alloc (.cells (cC k p e v b l) 43)).alloc (.cells #[.int .u8 0, .slice none 0 0] 36)) := ((Below.refl _ w).alloc (Nat.le_refl _) _).alloc (by simp) _
  have K1 : BK ((w.alloc (.cells (cC k p e v b l) 43)).alloc (.cells #[.int .u8 0, .slice none 0 0] 36)) (w.heap.size + 1) #[.int .u8 0, .slice none 0 0] 36 := by
    have := ie_new (w.alloc (.cells (cC k p e v b l) 43))
    rwa [World.size_alloc] at this
  have HR := right_calls k p e v b l
  rw [h] at HR
  have q1 : (E != 0) = true := by rw [bne_iff_ne]; exact h0
  clear h h0
  go_enter Try.func18, Try.ntmps18
  go_wp2_with fail
  refine (HR _).mono ?_
  rintro x w2 ⟨rfl, b2⟩
  have B2 := A0.trans (b2.mono A0.size)
  have K3 := K1.below b2 K1.lt
  have p0 := K3.cell 0 _ rfl
  have p1 := K3.cell 1 _ rfl
  have z0 := K3.frozen 0
  have z1 := K3.frozen 1
  have kl := K3.lt
  have K5 := bk_set2 (u := .int .u8 0) (v := .slice none 0 0) K3
  have B5 := below_set2 (b := w.heap.size + 1) (u := .int .u8 0) (v := .slice none 0 0) B2 (Nat.le_succ _)
  clear HR A0 K1
  go_wp2
  refine bodyPost_ret (v := .tuple #[ieV 0 none 0 0, .int .i64 E]) (results_cell_tmp_row Try.results18 _ _ _ _ _ _ _ _ rfl rfl K5 Try.underlying36 rfl size_ie) rfl ⟨rfl, B5⟩

theorem span_index0 (b : Nat) (w : World) : (Instr.index 78 (.agg #[.pointer (some ⟨b, 1, none⟩), .pointer (some ⟨b, 2, none⟩), .pointer (some ⟨b, 3, none⟩), .pointer (some ⟨b, 4, none⟩), .pointer (some ⟨b, 5, none⟩)]) (.int .i64 0)).run Try.prog w = .ok (.pointer (some ⟨b, 1, none⟩)) w := by kernel_rfl
theorem span_index1 (b : Nat) (w : World) : (Instr.index 78 (.agg #[.pointer (some ⟨b, 1, none⟩), .pointer (some ⟨b, 2, none⟩), .pointer (some ⟨b, 3, none⟩), .pointer (some ⟨b, 4, none⟩), .pointer (some ⟨b, 5, none⟩)]) (.int .i64 1)).run Try.prog w = .ok (.pointer (some ⟨b, 2, none⟩)) w := by kernel_rfl
theorem span_index2 (b : Nat) (w : World) : (Instr.index 78 (.agg #[.pointer (some ⟨b, 1, none⟩), .pointer (some ⟨b, 2, none⟩), .pointer (some ⟨b, 3, none⟩), .pointer (some ⟨b, 4, none⟩), .pointer (some ⟨b, 5, none⟩)]) (.int .i64 2)).run Try.prog w = .ok (.pointer (some ⟨b, 3, none⟩)) w := by kernel_rfl
theorem span_index3 (b : Nat) (w : World) : (Instr.index 78 (.agg #[.pointer (some ⟨b, 1, none⟩), .pointer (some ⟨b, 2, none⟩), .pointer (some ⟨b, 3, none⟩), .pointer (some ⟨b, 4, none⟩), .pointer (some ⟨b, 5, none⟩)]) (.int .i64 3)).run Try.prog w = .ok (.pointer (some ⟨b, 4, none⟩)) w := by kernel_rfl
theorem span_index4 (b : Nat) (w : World) : (Instr.index 78 (.agg #[.pointer (some ⟨b, 1, none⟩), .pointer (some ⟨b, 2, none⟩), .pointer (some ⟨b, 3, none⟩), .pointer (some ⟨b, 4, none⟩), .pointer (some ⟨b, 5, none⟩)]) (.int .i64 4)).run Try.prog w = .ok (.pointer (some ⟨b, 5, none⟩)) w := by kernel_rfl
theorem span_index (b k : Nat) (hk : k < 5) (w : World) : (Instr.index 78 (.agg #[.pointer (some ⟨b, 1, none⟩), .pointer (some ⟨b, 2, none⟩), .pointer (some ⟨b, 3, none⟩), .pointer (some ⟨b, 4, none⟩), .pointer (some ⟨b, 5, none⟩)]) (.int .i64 k)).run Try.prog w = .ok (.pointer (some ⟨b, k + 1, none⟩)) w := by
  have h : k = 0 ∨ k = 1 ∨ k = 2 ∨ k = 3 ∨ k = 4 := by omega
  rcases h with rfl | rfl | rfl | rfl | rfl
  · exact span_index0 b w
  · exact span_index1 b w
  · exact span_index2 b w
  · exact span_index3 b w
  · exact span_index4 b w
theorem span_cell (k p e v b l : Nat) (j : Nat) (hj : j < 5) : ∃ x : Nat, [p, e, v, b, l][j]? = some x ∧ (cC k p e v b l)[j + 1]? = some (.int .i64 x) ∧ (x = p ∨ x = e ∨ x = v ∨ x = b ∨ x = l) := by
  have h : j = 0 ∨ j = 1 ∨ j = 2 ∨ j = 3 ∨ j = 4 := by omega
  rcases h with rfl | rfl | rfl | rfl | rfl
  · exact ⟨p, rfl, rfl, by simp⟩
  · exact ⟨e, rfl, rfl, by simp⟩
  · exact ⟨v, rfl, rfl, by simp⟩
  · exact ⟨b, rfl, rfl, by simp⟩
  · exact ⟨l, rfl, rfl, by simp⟩

set_option maxHeartbeats 4000000 in
theorem traf_ok (k p e v b l : Nat) (h : errN k p e v b l = 0) (hp : p ≤ 1099511627776) (he : e ≤ 1099511627776) (hv : v ≤ 1099511627776) (hb : b ≤ 1099511627776) (hl : l ≤ 1099511627776) (w : World) : Calls Try.prog 18 #[cV k p e v b l] w fun x w' => IeAns w.heap.size (trafE k p e v b l) x w' ∧ Below w.heap.size w w' := by
  have A0 : Below w.heap.size w ((w.alloc (.cells (cC k p e v b l) 43)).alloc (.cells #[.int .u8 0, .slice none 0 0] 36)) := ((Below.refl _ w).alloc (Nat.le_refl _) _).alloc (by simp) _
  have S0 : w.heap.size + 2 ≤ ((w.alloc (.cells (cC k p e v b l) 43)).alloc (.cells #[.int .u8 0, .slice none 0 0] 36)).heap.size := by simp
  have K1 : BK ((w.alloc (.cells (cC k p e v b l) 43)).alloc (.cells #[.int .u8 0, .slice none 0 0] 36)) (w.heap.size + 1) #[.int .u8 0, .slice none 0 0] 36 := by
    have := ie_new (w.alloc (.cells (cC k p e v b l) 43))
    rwa [World.size_alloc] at this
  have J1 : BK ((w.alloc (.cells (cC k p e v b l) 43)).alloc (.cells #[.int .u8 0, .slice none 0 0] 36)) w.heap.size (cC k p e v b l) 43 := (bk_new w _ _).alloc _
  have HR := right_calls k p e v b l
  rw [h] at HR
  have HW : Hid ((k : Int) % 256 = ((UInt8.ofNat k).toNat : Int)) := by show _ = _; rw [byteN]; omega
  have HT0 : Hid (trafB k [] = [UInt8.ofNat k]) := rfl
  have HE : Hid ((trafE k p e v b l).body = trafB k [p, e, v, b, l]) := rfl
  have HB : Hid (p ≤ 1099511627776 ∧ e ≤ 1099511627776 ∧ v ≤ 1099511627776 ∧ b ≤ 1099511627776 ∧ l ≤ 1099511627776) := ⟨hp, he, hv, hb, hl⟩
  have HX := fun w => spans_calls w.heap.size w
  clear h hp he hv hb hl
  generalize UInt8.ofNat k = y at *
  go_enter Try.func18, Try.ntmps18
  go_wp2_with fail
  refine (HR _).mono ?_
  rintro x w2 ⟨rfl, b2⟩
  have B2 := A0.trans (b2.mono A0.size)
  have S2 := Nat.le_trans S0 b2.size
  have K2 := K1.below b2 K1.lt
  have J2 := J1.below b2 J1.lt
  have j0 := J2.cell 0 _ rfl
  have jl := J2.lt
  clear HR A0 K1 J1 S0 b2
  go_wp2_with (with_reducible show wpList _ _ _ (Oper.mk _ (Op.buildSlice _ _ _) _ _ _ _ :: _) _ _; refine stop_here ?_)
  refine ⟨?_⟩
  rw [HW.out]
  refine wpList_slB (zs := [y]) (vs := [(0, .int .u8 (y.toNat : Int))]) (by rfl) (w.heap.size + 2) (by rfl) (by rfl) (run_sl1 _) rfl (by decide) S2 ?_
  intro b5 w5 hb5 o5 e5
  have S5 := Nat.le_trans S2 e5.size
  have K5 := K2.below e5 K2.lt
  have J5 := J2.below e5 J2.lt
  have B5 := B2.trans (e5.mono B2.size)
  have HS := spans_calls w.heap.size w5
  rw [← HT0.out] at o5
  clear K2 J2 B2 j0 jl e5 S2
  go_wp2_with fail
  refine HS.mono ?_
  rintro x w6 ⟨rfl, b6⟩
  have S6 := Nat.le_trans S5 b6.size
  have K6 := K5.below b6 K5.lt
  have J6 := J5.below b6 J5.lt
  have B6 := B5.trans (b6.mono B5.size)
  have o6 := o5.below b6 (Nat.le_refl _)
  clear K5 J5 B5 HS b6 S5 o5 hb5
  go_wp2
  go_loopw [5, 19] (fun s iv wr => ∃ (j : Nat) (a : Option Addr) (n c : Nat), j ≤ 5 ∧ iv = .int .i64 j ∧ s = .slice a n c ∧ OwnB (w.heap.size + 2) wr a n c (trafB k (List.take j [p, e, v, b, l])) ∧ BK wr (w.heap.size + 1) #[.int .u8 0, .slice none 0 0] 36 ∧ BK wr w.heap.size (cC k p e v b l) 43 ∧ Below w.heap.size w wr ∧ w.heap.size + 2 ≤ wr.heap.size) (fun _ iv _ => 5 - (intOf iv).toNat)
  case atStart => exact ⟨0, _, _, _, by omega, rfl, rfl, o6, K6, J6, B6, S6⟩
  case round =>
    obtain ⟨j, a, n, c, hj, rfl, rfl, o7, K7, J7, B7, S7⟩ := hrel
    by_cases hlt : j < 5
    · obtain ⟨x, hx, hcx, hor⟩ := span_cell k p e v b l j hlt
      have hxb : (x : Int) ≤ 1099511627776 := by
        obtain ⟨h1, h2, h3, h4, h5⟩ := HB.out
        rcases hor with rfl | rfl | rfl | rfl | rfl <;> omega
      have hidx := span_index w.heap.size j hlt
      have d1 := J7.cell (j + 1) _ hcx
      have HG : Hid (trafB k (List.take (j + 1) [p, e, v, b, l]) = trafB k (List.take j [p, e, v, b, l]) ++ beN 6 x) := by
        show _ = _
        rw [List.take_add_one, hx, ← trafB_snoc]
        rfl
      have hn : n ≤ 1000 := by
        have := o7.1
        rw [trafB_length, List.length_take] at this
        simp at this
        omega
      have HL := lay_calls (w.heap.size + 2) wr S7 a n c _ o7 (by omega) x hxb 6 (by decide)
      have jl := J7.lt
      clear hcx hor hx
      go_wp2_with fail
      refine HL.mono ?_
      rintro e' w8 ⟨a8, c8, rfl, o8, g8⟩
      have e8 := g8.below (fun k hk => (o7.blk_lt k hk).1) S7
      have K8 := K7.below e8 (by omega)
      have J8 := J7.below e8 (by omega)
      have B8 := B7.trans (e8.mono (by omega))
      have S8 := Nat.le_trans S7 e8.size
      clear HL o7 K7 J7 B7 S7 g8 e8 d1 hidx jl o6 K6 J6 B6
      go_wp2
      go_roundw
      case rel => exact ⟨j + 1, a8, n + 6, c8, by omega, by go_num, rfl, by rw [HG.out]; exact o8, K8, J8, B8, S8⟩
      case measure => simp [intOf]; omega
    · obtain rfl : j = 5 := by omega
      have p0 := K7.cell 0 _ rfl
      have p1 := K7.cell 1 _ rfl
      have z0 := K7.frozen 0
      have z1 := K7.frozen 1
      have kl := K7.lt
      have KF := bk_set2 (u := .int .u8 89) (v := .slice a n c) K7
      have BF := below_set2 (b := w.heap.size + 1) (u := .int .u8 89) (v := .slice a n c) B7 (Nat.le_succ _)
      have oF := (o7.set2 (b := w.heap.size + 1) (Nat.lt_succ_self _) (.int .u8 89) (.slice a n c)).mono (show w.heap.size ≤ w.heap.size + 2 by omega)
      clear K6 J6 B6 o6 J7
      go_wp2
      refine bodyPost_ret (v := .tuple #[ieV 89 a n c, .int .i64 0]) (results_cell_tmp_row Try.results18 _ _ _ _ _ _ _ _ rfl rfl KF Try.underlying36 rfl size_ie) rfl ⟨⟨_, _, _, rfl, by rw [HE.out]; exact oF⟩, BF⟩
end Go.Proofs.Ytbjkioekmekeaaa
