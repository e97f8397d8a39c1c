/- Proved here: what message.Pack answers. Conditions: as each theorem states them. -/
import Derived.Lib.EndianBits
import Derived.Laws.BitsAllLaws
import Derived.Test.YtbjeljmnknibnaaDoorMl
import Derived.Test.YtbjeljmnknibnaaDoorMr
namespace Go.Proofs.YtbjeljmnknibnaaDoor
set_option linter.unusedSimpArgs false
set_option linter.unusedVariables false
open Go.RowKit Go.Shelf

theorem or_back {r : Nat} (h : r ≤ 8388607) : bits .or .i64 (r : Int) 8388608 = ((r + 8388608 : Nat) : Int) := by
  rw [bits_join_low .i64 63 (by decide) wraps_i64 23 (r : Int) 8388608 (by omega) (by omega) (by omega) (by decide) (by decide) (by decide)]
  omega
theorem not_back {N : Nat} (h : N < 16777216) : bits .andNot .i64 (N : Int) 8388608 = ((N % 8388608 : Nat) : Int) := by
  have e : N &&& (2 ^ 64 - (8388608 + 1)) = N % 8388608 := by
    apply Nat.eq_of_testBit_eq
    intro i
    rw [Nat.testBit_and, Nat.testBit_two_pow_sub_succ (by decide), show 8388608 = 2 ^ 23 by rfl, Nat.testBit_mod_two_pow, Nat.testBit_two_pow]
    by_cases h1 : i < 23
    · have h2 : i < 64 := by omega
      have h3 : ¬ 23 = i := by omega
      simp [h1, h2, h3]
    · by_cases h2 : 23 = i
      · simp [h2]
      · have : N.testBit i = false := Nat.testBit_lt_two_pow (Nat.lt_of_lt_of_le h (Nat.le_trans (show 16777216 ≤ 2 ^ 24 by decide) (Nat.pow_le_pow_right (by decide) (by omega))))
        simp [this]
  show IntKind.i64.wrap ((BitVec.ofInt 64 (N : Int) &&& ~~~ BitVec.ofInt 64 8388608).toNat : Int) = _
  rw [BitVec.toNat_and, BitVec.toNat_not, BitVec.ofInt_natCast, BitVec.toNat_ofNat, Nat.mod_eq_of_lt (show N < 2 ^ 64 by omega),
    show (2 ^ 64 - 1 - (BitVec.ofInt 64 8388608).toNat) = 2 ^ 64 - (8388608 + 1) by decide, e, wraps_i64 _ (by omega) (by omega)]
theorem is_back {N : Nat} (h : N < 16777216) : (bits .and .i64 (N : Int) 8388608 != 0) = decide (8388608 ≤ N) := by
  have := (bits_nat .i64 63 (by decide) wraps_i64 N 8388608 (by omega) (by omega)).1
  rw [show (8388608 : Int) = ((8388608 : Nat) : Int) by rfl, this, show 8388608 = 2 ^ 23 by rfl, nat_bit]
  by_cases hd : 2 ^ 23 ≤ N
  · have : N / 2 ^ 23 % 2 = 1 := by omega
    simp [this, hd]
  · have : N / 2 ^ 23 % 2 = 0 := by omega
    simp [this]; omega

/-- What Pack answers of a message. -/
def MpAns (m : Me) (w : World) (e : Ending) (w' : World) : Prop :=
  Below w.heap.size w w' ∧ ((rightM m = false ∧ e = .returned (.tuple #[.slice none 0 0, .int .i64 1])) ∨ (rightM m = true ∧ 1000 < (bytesM m).length ∧ e = .returned (.tuple #[.slice none 0 0, .int .i64 6])) ∨
    (rightM m = true ∧ (bytesM m).length ≤ 1000 ∧ ∃ a' c', e = .returned (.tuple #[.slice a' (bytesM m).length c', .int .i64 0]) ∧ OwnB w.heap.size w' a' (bytesM m).length c' (bytesM m)))
theorem GB.on {base : Nat} {a a' : Option Addr} {w w' : World} {n c : Nat} {zs : List UInt8} (h : GB a w a' w') (o : OwnB base w a n c zs) (hb : base ≤ w.heap.size) : Below base w w' := h.below (fun k hk => (o.blk_lt k hk).1) hb
theorem bytes_small {L : List El} (h : okL L = true) : (bytesE L).length ≤ 4864 := by
  have ⟨h1, h2⟩ := okL_iff.1 h
  have := bytesE_length_le L (fun x hx => by have := h2 x hx; omega)
  omega
theorem wrap_kind {k : Int} (h : knownB k = true) : k % 256 = ((UInt8.ofNat k.toNat).toNat : Int) := by
  rcases knownB_iff.1 h with rfl | rfl | rfl | rfl | rfl <;> rfl

set_option maxHeartbeats 4000000 in
theorem mpack_calls (r : Int) (b : Bool) (k : Int) (a : Option Addr) (n c : Nat) (L : List El) (w : World) {m0 : Nat} (hv : IsI m0 w a n L) (hm0 : m0 ≤ w.heap.size) (hn : n ≤ 1000) (ht : Tab w) :
    Calls Tryd.prog 11 #[meV r b k a n c] w (MpAns (mk r b k L) w) := by
  have A0 := me_below (w := w) (r := r) (b := b) (k := k) (a := a) (n := n) (c := c)
  have K0 := me_box (w := w) (r := r) (b := b) (k := k) (a := a) (n := n) (c := c)
  have HT := mright_calls r b k a n c L (w.alloc (.cells (meC r b k a n c) 24)) (hv.below A0 hm0) (Nat.le_trans hm0 A0.size) hn (ht.on A0)
  obtain ⟨R, hR⟩ : ∃ R, rightM (mk r b k L) = R := ⟨_, rfl⟩
  rw [hR] at HT
  have HR : Hid (rightM (mk r b k L) = R) := hR
  clear hR
  cases R
  · clear hv ht
    go_enter Tryd.func11, Tryd.ntmps11
    go_wp2_with (with_reducible show wpList _ _ _ (Oper.mk _ (Op.load 24 _) _ _ _ _ :: _) _ _; refine wpList_ld rfl rfl rfl (run_ldM (by with_reducible assumption)) ?_; (try simp only [Act.put, List.setIfInBounds_toArray, List.set_cons_zero, List.set_cons_succ, World.size_alloc]))
    refine HT.mono ?_
    rintro e w1 ⟨rfl, b1⟩
    have B1 := A0.trans (b1.mono A0.size)
    clear HT
    go_wp2
    go_ret2
    exact ⟨B1, .inl ⟨HR.out, rfl⟩⟩
  · obtain ⟨ho, h1, h2, hk⟩ := rightM_iff.1 HR.out
    obtain ⟨q, hq⟩ : ∃ q : Nat, r = q := ⟨r.toNat, by have : (1 : Int) ≤ r := h1; omega⟩
    subst hq
    have hq2 : q ≤ 8388607 := by have : (q : Int) ≤ 8388607 := h2; omega
    have hor := or_back hq2
    have HK : Hid (k % 256 = ((UInt8.ofNat k.toNat).toNat : Int)) := wrap_kind (show knownB k = true from hk)
    have hsm := bytes_small (show okL L = true from ho)
    have HB : Hid (bytesM (mk q b k L) = (((([9, 3] ++ beN 3 (q + backN b)) ++ [UInt8.ofNat k.toNat, 128]) ++ beN 2 (bytesE L).length) ++ bytesE L)) := by
      show _ = _
      simp [bytesM, headM]
    have HLn : Hid ((bytesM (mk q b k L)).length = 9 + (bytesE L).length) := bytesM_length _
    have ho' : okL L = true := ho
    go_enter Tryd.func11, Tryd.ntmps11
    go_wp2_with (with_reducible show wpList _ _ _ (Oper.mk _ (Op.load 24 _) _ _ _ _ :: _) _ _; refine wpList_ld rfl rfl rfl (run_ldM (by with_reducible assumption)) ?_; (try simp only [Act.put, List.setIfInBounds_toArray, List.set_cons_zero, List.set_cons_succ, World.size_alloc]))
    refine HT.mono ?_
    rintro e w1 ⟨rfl, b1⟩
    have B1 := A0.trans (b1.mono A0.size)
    have K1 := K0.below b1 K0.lt
    have p3 := K1.cell 3 _ rfl
    have HP := pack_ok a n c L w1 (hv.below B1 hm0) (Nat.le_trans hm0 B1.size) ho'
    clear HT hv hk h1 h2 ho K0 A0 b1
    go_wp2_with fail
    refine HP.mono ?_
    rintro e w2 ⟨a2, c2, rfl, o2, b2⟩
    have B2 := B1.trans (b2.mono B1.size)
    have K2 := K1.below b2 K1.lt
    have I2 := o2.isB
    have kl := K2.lt
    have p0 := K2.cell 0 _ rfl
    have p1 := K2.cell 1 _ rfl
    have p2 := K2.cell 2 _ rfl
    obtain ⟨nE, hnE⟩ : ∃ nE, (bytesE L).length = nE := ⟨_, rfl⟩
    rw [hnE] at hsm I2 HB HLn
    rw [hnE]
    clear HP p3 b2 K1 B1 ho' o2
    by_cases hlong : 991 < nE
    · have q1 : decide ((1000 : Int) < 9 + (nE : Int)) = true := by simp; omega
      have HX : Hid (1000 < (bytesM (mk q b k L)).length) := by show _ < _; rw [HLn.out]; omega
      clear hlong hor
      go_wp2
      go_ret2
      exact ⟨B2, .inr (.inl ⟨HR.out, HX.out, rfl⟩)⟩
    · have q1 : decide ((1000 : Int) < 9 + (nE : Int)) = false := by simp; omega
      have HX : Hid ((bytesM (mk q b k L)).length ≤ 1000) := by show _ ≤ _; rw [HLn.out]; omega
      have hnE2 : nE ≤ 991 := by omega
      clear hlong hsm
      have HG : ∀ Q : Nat, Q = q + backN b → ∀ (a9 : Option Addr) (c9 : Nat) (w9 : World), OwnB w2.heap.size w9 a9 (9 + nE) c9 ((((([9, 3] ++ beN 3 Q) ++ [UInt8.ofNat k.toNat, 128]) ++ beN 2 nE) ++ bytesE L)) → Below w2.heap.size w2 w9 →
          MpAns (mk q b k L) w (.returned (.tuple #[.slice a9 (9 + nE) c9, .int .i64 0])) w9 := fun Q hQ a9 c9 w9 o9 b9 =>
        ⟨B2.trans (b9.mono B2.size), .inr (.inr ⟨HR.out, HX.out, a9, c9, by rw [HLn.out], by rw [HLn.out, HB.out, ← hQ]; exact o9.mono B2.size⟩)⟩
      clear HB HLn HX HR
      cases b
      · have HF : Hid (∀ (a9 : Option Addr) (c9 : Nat) (w9 : World), OwnB w2.heap.size w9 a9 (9 + nE) c9 ((((([9, 3] ++ beN 3 q) ++ [UInt8.ofNat k.toNat, 128]) ++ beN 2 nE) ++ bytesE L)) → Below w2.heap.size w2 w9 →
          MpAns (mk q false k L) w (.returned (.tuple #[.slice a9 (9 + nE) c9, .int .i64 0])) w9) := HG q (by simp [backN])
        clear HG
        go_wp2_with (with_reducible show wpList _ _ _ (Oper.mk _ (Op.buildSlice _ _ _) _ _ _ _ :: _) _ _; refine stop_here ?_)
        refine ⟨?_⟩
        refine wpList_slB (zs := [9, 3]) (vs := [(0, .int .u8 ((9 : UInt8).toNat : Int)), (1, .int .u8 ((3 : UInt8).toNat : Int))]) (by rfl) w2.heap.size (by rfl) (by rfl) (run_sl2 _ _) rfl (by decide) (Nat.le_refl _) ?_
        intro b3 w3 hb3 o3 d3
        have K3 := K2.below d3 K2.lt
        have I3 := I2.1.below d3 (Nat.le_refl _)
        have hor' := hor
        clear p0 p1 p2 K2
        have HL := mlay_calls w2.heap.size w3 d3.size _ 2 _ _ o3 (by decide) q (by omega) 3 (by decide)
        go_wp2_with fail
        refine HL.mono ?_
        rintro e w4 ⟨a4, c4, rfl, o4, e4⟩
        have d4 := e4.on o3 d3.size
        have D4 := d3.trans d4
        have K4 := K3.below d4 kl
        have I4 := I3.below d4 (Nat.le_refl _)
        have p2 := K4.cell 2 _ rfl
        have kl4 := K4.lt
        clear HL o3 d3 e4 d4 K3 I3
        go_wp2_with (with_reducible show wpList _ _ _ (Oper.mk _ (Op.buildSlice _ _ _) _ _ _ _ :: _) _ _; refine stop_here ?_)
        refine ⟨?_⟩
        rw [HK.out]
        refine wpList_slB (zs := [UInt8.ofNat k.toNat, 128]) (vs := [(0, .int .u8 ((UInt8.ofNat k.toNat).toNat : Int)), (1, .int .u8 ((128 : UInt8).toNat : Int))]) (by rfl) w2.heap.size (by rfl) (by rfl) (run_sl2 _ _) rfl (by decide) D4.size ?_
        intro b5 w5 hb5 o5 e5
        have d5 := e5.mono D4.size
        have D5 := D4.trans d5
        have o45 := o4.below e5 (Nat.le_refl _)
        have I5 := I4.below d5 (Nat.le_refl _)
        clear o4 I4 D4 e5 d5 K4 p2
        go_wp2_with (at_builtin; refine wpList_appG (N := 7) (by rfl) (by rfl) (by rfl) (by rfl) o45 o5.isB.1 (by intro h; cases h) (by decide) D5.size rfl ?_; intro a6 c6 w6 o6 e6; refine stop_here ?_)
        refine ⟨?_⟩
        have d6 := e6.on o45 D5.size
        have D6 := D5.trans d6
        have I6 := I5.below d6 (Nat.le_refl _)
        clear e6 o45 o5 D5 d6 I5
        have HL := mlay_calls w2.heap.size w6 D6.size _ 7 _ _ o6 (by decide) nE (by omega) 2 (by decide)
        go_wp2_with fail
        refine HL.mono ?_
        rintro e w7 ⟨a7, c7, rfl, o7, e7⟩
        have d7 := e7.on o6 D6.size
        have D7 := D6.trans d7
        have I7 := I6.below d7 (Nat.le_refl _)
        clear HL e7 o6 D6 d7 I6
        go_wp2_with (at_builtin; refine wpList_appG (N := 9 + nE) (by rfl) (by rfl) (by rfl) (by rfl) o7 I7 I2.2.1 (by omega) D7.size rfl ?_; intro a9 c9 w9 o9 e9; refine stop_here ?_)
        refine ⟨?_⟩
        have d9 := e9.on o7 D7.size
        have D9 := D7.trans d9
        clear e9 o7 D7 d9 I7
        go_wp2
        go_ret2
        exact HF.out _ _ _ o9 D9
      · obtain ⟨Q, hQ⟩ : ∃ Q, q + 8388608 = Q := ⟨_, rfl⟩
        have HF : Hid (∀ (a9 : Option Addr) (c9 : Nat) (w9 : World), OwnB w2.heap.size w9 a9 (9 + nE) c9 ((((([9, 3] ++ beN 3 Q) ++ [UInt8.ofNat k.toNat, 128]) ++ beN 2 nE) ++ bytesE L)) → Below w2.heap.size w2 w9 →
          MpAns (mk q true k L) w (.returned (.tuple #[.slice a9 (9 + nE) c9, .int .i64 0])) w9) := HG Q (by rw [← hQ]; simp [backN])
        have hQ2 : Q ≤ 16777215 := by omega
        rw [hQ] at hor
        clear HG hQ
        go_wp2_with (with_reducible show wpList _ _ _ (Oper.mk _ (Op.buildSlice _ _ _) _ _ _ _ :: _) _ _; refine stop_here ?_)
        refine ⟨?_⟩
        refine wpList_slB (zs := [9, 3]) (vs := [(0, .int .u8 ((9 : UInt8).toNat : Int)), (1, .int .u8 ((3 : UInt8).toNat : Int))]) (by rfl) w2.heap.size (by rfl) (by rfl) (run_sl2 _ _) rfl (by decide) (Nat.le_refl _) ?_
        intro b3 w3 hb3 o3 d3
        have K3 := K2.below d3 K2.lt
        have I3 := I2.1.below d3 (Nat.le_refl _)
        have hor' := hor
        clear p0 p1 p2 K2
        have HL := mlay_calls w2.heap.size w3 d3.size _ 2 _ _ o3 (by decide) Q (by omega) 3 (by decide)
        go_wp2_with fail
        refine HL.mono ?_
        rintro e w4 ⟨a4, c4, rfl, o4, e4⟩
        have d4 := e4.on o3 d3.size
        have D4 := d3.trans d4
        have K4 := K3.below d4 kl
        have I4 := I3.below d4 (Nat.le_refl _)
        have p2 := K4.cell 2 _ rfl
        have kl4 := K4.lt
        clear HL o3 d3 e4 d4 K3 I3
        go_wp2_with (with_reducible show wpList _ _ _ (Oper.mk _ (Op.buildSlice _ _ _) _ _ _ _ :: _) _ _; refine stop_here ?_)
        refine ⟨?_⟩
        rw [HK.out]
        refine wpList_slB (zs := [UInt8.ofNat k.toNat, 128]) (vs := [(0, .int .u8 ((UInt8.ofNat k.toNat).toNat : Int)), (1, .int .u8 ((128 : UInt8).toNat : Int))]) (by rfl) w2.heap.size (by rfl) (by rfl) (run_sl2 _ _) rfl (by decide) D4.size ?_
        intro b5 w5 hb5 o5 e5
        have d5 := e5.mono D4.size
        have D5 := D4.trans d5
        have o45 := o4.below e5 (Nat.le_refl _)
        have I5 := I4.below d5 (Nat.le_refl _)
        clear o4 I4 D4 e5 d5 K4 p2
        go_wp2_with (at_builtin; refine wpList_appG (N := 7) (by rfl) (by rfl) (by rfl) (by rfl) o45 o5.isB.1 (by intro h; cases h) (by decide) D5.size rfl ?_; intro a6 c6 w6 o6 e6; refine stop_here ?_)
        refine ⟨?_⟩
        have d6 := e6.on o45 D5.size
        have D6 := D5.trans d6
        have I6 := I5.below d6 (Nat.le_refl _)
        clear e6 o45 o5 D5 d6 I5
        have HL := mlay_calls w2.heap.size w6 D6.size _ 7 _ _ o6 (by decide) nE (by omega) 2 (by decide)
        go_wp2_with fail
        refine HL.mono ?_
        rintro e w7 ⟨a7, c7, rfl, o7, e7⟩
        have d7 := e7.on o6 D6.size
        have D7 := D6.trans d7
        have I7 := I6.below d7 (Nat.le_refl _)
        clear HL e7 o6 D6 d7 I6
        go_wp2_with (at_builtin; refine wpList_appG (N := 9 + nE) (by rfl) (by rfl) (by rfl) (by rfl) o7 I7 I2.2.1 (by omega) D7.size rfl ?_; intro a9 c9 w9 o9 e9; refine stop_here ?_)
        refine ⟨?_⟩
        have d9 := e9.on o7 D7.size
        have D9 := D7.trans d9
        clear e9 o7 D7 d9 I7
        go_wp2
        go_ret2
        exact HF.out _ _ _ o9 D9
end Go.Proofs.YtbjeljmnknibnaaDoor
