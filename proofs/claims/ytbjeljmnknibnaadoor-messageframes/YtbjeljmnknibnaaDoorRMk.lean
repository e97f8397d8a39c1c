/- Proved here: what the document's Pack of a message answers. Conditions: as each theorem states them. -/
import Derived.Test.YtbjeljmnknibnaaDoorMk
namespace Go.Proofs.YtbjeljmnknibnaaDoor
set_option linter.unusedSimpArgs false
set_option linter.unusedVariables false
open Go.RowKit Go.Shelf

theorem run_sl9 (x0 x1 x2 x3 x4 x5 x6 x7 x8 : UInt8) (w : World) : (Instr.buildSlice 25 9 #[(0, .int .u8 (x0.toNat : Int)), (1, .int .u8 (x1.toNat : Int)), (2, .int .u8 (x2.toNat : Int)), (3, .int .u8 (x3.toNat : Int)), (4, .int .u8 (x4.toNat : Int)), (5, .int .u8 (x5.toNat : Int)), (6, .int .u8 (x6.toNat : Int)), (7, .int .u8 (x7.toNat : Int)), (8, .int .u8 (x8.toNat : Int))]).run Tryd.prog w = .ok (.slice (some ⟨w.heap.size, 0, none⟩) 9 9) (w.alloc (.cells (vals [x0, x1, x2, x3, x4, x5, x6, x7, x8]).toArray 5)) := by kernel_rfl

set_option maxHeartbeats 4000000 in
theorem refmpack_calls (r : Int) (b : Bool) (k : Int) (a : Option Addr) (n c : Nat) (L : List El) (w : World) {m0 : Nat} (hv : IsI m0 w a n L) (hm0 : m0 ≤ w.heap.size) (hn : n ≤ 1000) :
    Calls Tryd.prog 12 #[meV r b k a n c] w (MpAns (mk r b k L) w) := by
  have A0 := me_below (w := w) (r := r) (b := b) (k := k) (a := a) (n := n) (c := c)
  have K0 := me_box (w := w) (r := r) (b := b) (k := k) (a := a) (n := n) (c := c)
  have HT := refmright_calls r b k a n c L (w.alloc (.cells (meC r b k a n c) 24)) (hv.below A0 hm0) (Nat.le_trans hm0 A0.size) hn
  obtain ⟨R, hR⟩ : ∃ R, rightM (mk r b k L) = R := ⟨_, rfl⟩
  rw [hR] at HT
  have HR : Hid (rightM (mk r b k L) = R) := hR
  clear hR
  cases R
  · clear hv
    go_enter Tryd.func12, Tryd.ntmps12
    go_wp2_with (with_reducible show wpList _ _ _ (Oper.mk _ (Op.load 24 _) _ _ _ _ :: _) _ _; refine wpList_ld rfl rfl rfl (run_ldM (by with_reducible assumption)) ?_; (try simp only [Act.put, List.setIfInBounds_toArray, List.set_cons_zero, List.set_cons_succ, World.size_alloc]))
    refine HT.mono ?_
    rintro e w1 ⟨rfl, b1⟩
    have B1 := A0.trans (b1.mono A0.size)
    clear HT
    go_wp2
    go_ret2
    exact ⟨B1, .inl ⟨HR.out, rfl⟩⟩
  · obtain ⟨ho, h1, h2, hk⟩ := rightM_iff.1 HR.out
    obtain ⟨q, hq⟩ : ∃ q : Nat, r = q := ⟨r.toNat, by have : (1 : Int) ≤ r := h1; omega⟩
    subst hq
    have hq2 : q ≤ 8388607 := by have : (q : Int) ≤ 8388607 := h2; omega
    have HK : Hid (k % 256 = ((UInt8.ofNat k.toNat).toNat : Int)) := wrap_kind (show knownB k = true from hk)
    have hsm := bytes_small (show okL L = true from ho)
    have HB : Hid (bytesM (mk q b k L) = headM (q + backN b) k.toNat (bytesE L).length ++ bytesE L) := rfl
    have HLn : Hid ((bytesM (mk q b k L)).length = 9 + (bytesE L).length) := bytesM_length _
    have ho' : okL L = true := ho
    have HPP := fun w1 (hb : Below w.heap.size w w1) => refpack_calls a n c L w1 (hv.below hb hm0) (Nat.le_trans hm0 hb.size) hn
    go_enter Tryd.func12, Tryd.ntmps12
    go_wp2_with (with_reducible show wpList _ _ _ (Oper.mk _ (Op.load 24 _) _ _ _ _ :: _) _ _; refine wpList_ld rfl rfl rfl (run_ldM (by with_reducible assumption)) ?_; (try simp only [Act.put, List.setIfInBounds_toArray, List.set_cons_zero, List.set_cons_succ, World.size_alloc]))
    refine HT.mono ?_
    rintro e w1 ⟨rfl, b1⟩
    have B1 := A0.trans (b1.mono A0.size)
    have K1 := K0.below b1 K0.lt
    have p3 := K1.cell 3 _ rfl
    have HP := HPP w1 B1
    rw [ho'] at HP
    clear HT hv hk h1 h2 ho K0 A0 b1 HPP
    go_wp2_with fail
    refine HP.mono ?_
    rintro e w2 ⟨b2, hcase⟩
    obtain ⟨a2, c2, rfl, o2⟩ : ∃ a2 c2, e = .returned (.tuple #[.slice a2 (bytesE L).length c2, .int .i64 0]) ∧ OwnB w1.heap.size w2 a2 (bytesE L).length c2 (bytesE L) := by
      rcases hcase with ⟨_, h⟩ | ⟨h, _⟩
      · exact h
      · cases h
    clear hcase
    have B2 := B1.trans (b2.mono B1.size)
    have K2 := K1.below b2 K1.lt
    have I2 := o2.isB
    have kl := K2.lt
    have p0 := K2.cell 0 _ rfl
    have p1 := K2.cell 1 _ rfl
    have p2 := K2.cell 2 _ rfl
    obtain ⟨nE, hnE⟩ : ∃ nE, (bytesE L).length = nE := ⟨_, rfl⟩
    rw [hnE] at hsm I2 HB HLn
    rw [hnE]
    clear HP p3 b2 K1 B1 ho' o2
    cases b
    · have HB : Hid (bytesM (mk q false k L) = headM q k.toNat nE ++ bytesE L) := HB
      have hQ2 : q ≤ 16777215 := by omega
      have H2 : Hid ((q : Int) / 65536 = ((UInt8.ofNat (q / 256 ^ 2)).toNat : Int)) := by show _ = _; rw [byteN]; omega
      have H1 : Hid ((q : Int) / 256 % 256 = ((UInt8.ofNat (q / 256 ^ 1)).toNat : Int)) := by show _ = _; rw [byteN]; omega
      have H0 : Hid ((q : Int) % 256 = ((UInt8.ofNat (q / 256 ^ 0)).toNat : Int)) := by show _ = _; rw [byteN]; omega
      have N1 : Hid ((nE : Int) / 256 = ((UInt8.ofNat (nE / 256 ^ 1)).toNat : Int)) := by show _ = _; rw [byteN]; omega
      have N0 : Hid ((nE : Int) % 256 = ((UInt8.ofNat (nE / 256 ^ 0)).toNat : Int)) := by show _ = _; rw [byteN]; omega
      go_wp2_with (with_reducible show wpList _ _ _ (Oper.mk _ (Op.buildSlice _ _ _) _ _ _ _ :: _) _ _; refine stop_here ?_)
      refine ⟨?_⟩
      rw [H2.out, H1.out, H0.out, HK.out, N1.out, N0.out]
      refine wpList_slB (zs := [9, 3, UInt8.ofNat (q / 256 ^ 2), UInt8.ofNat (q / 256 ^ 1), UInt8.ofNat (q / 256 ^ 0), UInt8.ofNat k.toNat, 128, UInt8.ofNat (nE / 256 ^ 1), UInt8.ofNat (nE / 256 ^ 0)]) (vs := [(0, .int .u8 ((9 : UInt8).toNat : Int)), (1, .int .u8 ((3 : UInt8).toNat : Int)), (2, .int .u8 ((UInt8.ofNat (q / 256 ^ 2)).toNat : Int)), (3, .int .u8 ((UInt8.ofNat (q / 256 ^ 1)).toNat : Int)), (4, .int .u8 ((UInt8.ofNat (q / 256 ^ 0)).toNat : Int)), (5, .int .u8 ((UInt8.ofNat k.toNat).toNat : Int)), (6, .int .u8 ((128 : UInt8).toNat : Int)), (7, .int .u8 ((UInt8.ofNat (nE / 256 ^ 1)).toNat : Int)), (8, .int .u8 ((UInt8.ofNat (nE / 256 ^ 0)).toNat : Int))]) (by rfl) w2.heap.size (by rfl) (by rfl) (run_sl9 _ _ _ _ _ _ _ _ _) rfl (by decide) (Nat.le_refl _) ?_
      intro b3 w3 hb3 o3 d3
      have I3 := I2.1.below d3 (Nat.le_refl _)
      clear p0 p1 p2 K2
      go_wp2_with (at_builtin; refine wpList_appG (N := 9 + nE) (by rfl) (by rfl) (by rfl) (by rfl) o3 I3 I2.2.1 (by omega) d3.size rfl ?_; intro a9 c9 w9 o9 e9; refine stop_here ?_)
      refine ⟨?_⟩
      have d9 := e9.on o3 d3.size
      have D9 := B2.trans ((d3.trans d9).mono B2.size)
      clear e9 d9 d3 o3 I3
      by_cases hlong : 991 < nE
      · have q1 : decide ((1000 : Int) < 9 + (nE : Int)) = true := by simp; omega
        have HX : Hid (1000 < (bytesM (mk q false k L)).length) := by show _ < _; rw [HLn.out]; omega
        clear hlong
        go_wp2
        go_ret2
        exact ⟨D9, .inr (.inl ⟨HR.out, HX.out, rfl⟩)⟩
      · have q1 : decide ((1000 : Int) < 9 + (nE : Int)) = false := by simp; omega
        have HX : Hid ((bytesM (mk q false k L)).length ≤ 1000) := by show _ ≤ _; rw [HLn.out]; omega
        clear hlong
        go_wp2
        go_ret2
        exact ⟨D9, .inr (.inr ⟨HR.out, HX.out, a9, c9, by rw [HLn.out]; rfl, by rw [HLn.out, HB.out]; exact o9.mono B2.size⟩)⟩
    · obtain ⟨Q, hQ⟩ : ∃ Q, q + 8388608 = Q := ⟨_, rfl⟩
      have HB : Hid (bytesM (mk q true k L) = headM Q k.toNat nE ++ bytesE L) := by show _ = _; rw [← hQ]; exact HB.out
      have hQI : (q : Int) + 8388608 = (Q : Int) := by omega
      have hQ2 : Q ≤ 16777215 := by omega
      have H2 : Hid ((Q : Int) / 65536 = ((UInt8.ofNat (Q / 256 ^ 2)).toNat : Int)) := by show _ = _; rw [byteN]; omega
      have H1 : Hid ((Q : Int) / 256 % 256 = ((UInt8.ofNat (Q / 256 ^ 1)).toNat : Int)) := by show _ = _; rw [byteN]; omega
      have H0 : Hid ((Q : Int) % 256 = ((UInt8.ofNat (Q / 256 ^ 0)).toNat : Int)) := by show _ = _; rw [byteN]; omega
      have N1 : Hid ((nE : Int) / 256 = ((UInt8.ofNat (nE / 256 ^ 1)).toNat : Int)) := by show _ = _; rw [byteN]; omega
      have N0 : Hid ((nE : Int) % 256 = ((UInt8.ofNat (nE / 256 ^ 0)).toNat : Int)) := by show _ = _; rw [byteN]; omega
      go_wp2_with (with_reducible show wpList _ _ _ (Oper.mk _ (Op.buildSlice _ _ _) _ _ _ _ :: _) _ _; refine stop_here ?_)
      refine ⟨?_⟩
      rw [H2.out, H1.out, H0.out, HK.out, N1.out, N0.out]
      refine wpList_slB (zs := [9, 3, UInt8.ofNat (Q / 256 ^ 2), UInt8.ofNat (Q / 256 ^ 1), UInt8.ofNat (Q / 256 ^ 0), UInt8.ofNat k.toNat, 128, UInt8.ofNat (nE / 256 ^ 1), UInt8.ofNat (nE / 256 ^ 0)]) (vs := [(0, .int .u8 ((9 : UInt8).toNat : Int)), (1, .int .u8 ((3 : UInt8).toNat : Int)), (2, .int .u8 ((UInt8.ofNat (Q / 256 ^ 2)).toNat : Int)), (3, .int .u8 ((UInt8.ofNat (Q / 256 ^ 1)).toNat : Int)), (4, .int .u8 ((UInt8.ofNat (Q / 256 ^ 0)).toNat : Int)), (5, .int .u8 ((UInt8.ofNat k.toNat).toNat : Int)), (6, .int .u8 ((128 : UInt8).toNat : Int)), (7, .int .u8 ((UInt8.ofNat (nE / 256 ^ 1)).toNat : Int)), (8, .int .u8 ((UInt8.ofNat (nE / 256 ^ 0)).toNat : Int))]) (by rfl) w2.heap.size (by rfl) (by rfl) (run_sl9 _ _ _ _ _ _ _ _ _) rfl (by decide) (Nat.le_refl _) ?_
      intro b3 w3 hb3 o3 d3
      have I3 := I2.1.below d3 (Nat.le_refl _)
      clear p0 p1 p2 K2
      go_wp2_with (at_builtin; refine wpList_appG (N := 9 + nE) (by rfl) (by rfl) (by rfl) (by rfl) o3 I3 I2.2.1 (by omega) d3.size rfl ?_; intro a9 c9 w9 o9 e9; refine stop_here ?_)
      refine ⟨?_⟩
      have d9 := e9.on o3 d3.size
      have D9 := B2.trans ((d3.trans d9).mono B2.size)
      clear e9 d9 d3 o3 I3
      by_cases hlong : 991 < nE
      · have q1 : decide ((1000 : Int) < 9 + (nE : Int)) = true := by simp; omega
        have HX : Hid (1000 < (bytesM (mk q true k L)).length) := by show _ < _; rw [HLn.out]; omega
        clear hlong
        go_wp2
        go_ret2
        exact ⟨D9, .inr (.inl ⟨HR.out, HX.out, rfl⟩)⟩
      · have q1 : decide ((1000 : Int) < 9 + (nE : Int)) = false := by simp; omega
        have HX : Hid ((bytesM (mk q true k L)).length ≤ 1000) := by show _ ≤ _; rw [HLn.out]; omega
        clear hlong
        go_wp2
        go_ret2
        exact ⟨D9, .inr (.inr ⟨HR.out, HX.out, a9, c9, by rw [HLn.out]; rfl, by rw [HLn.out, HB.out]; exact o9.mono B2.size⟩)⟩
end Go.Proofs.YtbjeljmnknibnaaDoor
