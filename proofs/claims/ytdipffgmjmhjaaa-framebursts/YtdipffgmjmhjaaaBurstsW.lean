/- Proved here: the walk of FrameBursts. Conditions: as each theorem states them. -/
import Derived.Test.YtdipffgmjmhjaaaBackW
import Derived.Test.YtdipffgmjmhjaaaBurst
import Derived.Test.YtdipffgmjmhjaaaWhole
namespace Go.Proofs.Ytdipffgmjmhjaaa
set_option linter.unusedSimpArgs false
set_option linter.unusedVariables false
open Go.RowKit

theorem shift_bit32 (y i : Nat) (hy : y < 4294967296) : bits .and .u32 ((y : Int) / 2 ^ i) 1 = bv (y.testBit i) := by
  have e : (y : Int) / 2 ^ i = ((y / 2 ^ i : Nat) : Int) := by simp
  have hlt : y / 2 ^ i < 4294967296 := Nat.lt_of_le_of_lt (Nat.div_le_self _ _) (by omega)
  have h := u32_and_nat (y / 2 ^ i) 1 hlt (by decide)
  rw [e]
  refine (show bits .and .u32 ((y / 2 ^ i : Nat) : Int) 1 = _ from h).trans ?_
  rw [Nat.and_one_is_mod, Nat.testBit_eq_decide_div_mod_eq, bv]
  rcases Nat.mod_two_eq_zero_or_one (y / 2 ^ i) with h | h <;> simp [h]

theorem burst_none (xs : List UInt8) (p y : Nat) : ∀ i, changedTo xs.length p y i = false → burstTo xs p y i = xs
  | 0, _ => rfl
  | i + 1, h => by
    unfold changedTo at h
    rw [Bool.or_eq_false_iff] at h
    unfold burstTo
    rw [if_neg (by rw [h.2]; decide)]
    exact burst_none xs p y i h.1
theorem unpack_more {b : List UInt8} (h : b.length ≤ 1000) : (unpackN b).2.2 = 0 ∨ (unpackN b).2.2 = 4 ∨ (unpackN b).2.2 = 5 := by
  rcases unpack_cases b with h | h | ⟨_, h'⟩ | ⟨h, _⟩
  · exact .inr (.inl h)
  · exact .inr (.inr h)
  · omega
  · exact .inl h
theorem unpack_ahead {ms t : List UInt8} (m : UInt8) (hm : ms.length = 48) (h1 : 1 ≤ t.length) : (unpackN (ms ++ frameN t m)).2.2 ≠ 0 ∨ (unpackN (ms ++ frameN t m)).1 ≠ t := by
  have hl := frame_len (t := t) m h1
  have hlen : (ms ++ frameN t m).length = 48 + 48 * manyN t.length := by rw [List.length_append, hm, hl]
  rcases unpack_cases (ms ++ frameN t m) with h | h | ⟨h, _⟩ | ⟨_, _, h3, _⟩
  · left; omega
  · left; omega
  · left; omega
  · right; intro e; rw [e, hlen] at h3; omega

set_option maxRecDepth 20000 in
set_option maxHeartbeats 4000000 in
theorem bursts_walk (a1 : Option Addr) (len cap1 : Nat) (xs : List UInt8) (m : UInt8) (t y : Nat) (ht : t < 18446744073709551616) (hy : y < 4294967296) (ms : List UInt8) (hms : ms.length = 48) (w : World) (h1 : IsB w.heap.size w a1 len xs) (n1 : a1 = none → cap1 = 0) :
    Calls Try.prog 6 #[.slice a1 len cap1, .int .u8 (m.toNat : Int), .int .u64 t, .int .u32 y, .agg (payV ms)] w fun e w' => e = .returned (.bool true) ∧ Below w.heap.size w w' := by
  have A0 : Below w.heap.size w (w.alloc (.cells (payV ms) 40)) := (Below.refl _ w).alloc (Nat.le_refl _) _
  have K0 := bk_new w (payV ms) 40
  by_cases g1 : 400 < len
  · have q1 : decide (400 < (len : Int)) = true := by simp; omega
    clear g1 h1 K0
    go_enter Try.func6, Try.ntmps6
    go_wp2_with fail
    refine (awake_calls _).mono ?_
    rintro e w1 ⟨rfl, hb1⟩
    have B1 := A0.trans (hb1.mono A0.size)
    go_wp2_with fail
    refine (awake_calls _).mono ?_
    rintro e w2 ⟨rfl, hb2⟩
    go_wp2
    go_ret
    exact ⟨rfl, B1.trans (hb2.mono B1.size)⟩
  have q1 : decide (400 < (len : Int)) = false := by simp; omega
  by_cases g0 : len = 0
  · subst g0
    clear g1 h1 K0
    go_enter Try.func6, Try.ntmps6
    go_wp2_with fail
    refine (awake_calls _).mono ?_
    rintro e w1 ⟨rfl, hb1⟩
    have B1 := A0.trans (hb1.mono A0.size)
    go_wp2_with fail
    refine (awake_calls _).mono ?_
    rintro e w2 ⟨rfl, hb2⟩
    go_wp2
    go_ret
    exact ⟨rfl, B1.trans (hb2.mono B1.size)⟩
  have q0 : ((len : Int) == 0) = false := beq_eq_false_iff_ne.2 (by omega)
  have p1 : 1 ≤ len := by omega
  have p2 : len ≤ 400 := by omega
  have lx := h1.1
  have hme := many_eq p1
  have hfl := frame_len (t := xs) m (by omega)
  rw [← lx] at hfl
  have HP : ∀ w1, Below w.heap.size w w1 → Calls Try.prog 10 #[.slice a1 len cap1, .int .u8 (m.toNat : Int)] w1 fun e w' => ∃ a' c', e = .returned (.tuple #[.slice a' (48 * manyN len) c', .int .i64 0]) ∧ OwnB w1.heap.size w' a' (48 * manyN len) c' (frameN xs m) ∧ Below w1.heap.size w1 w' := fun w1 b => pack_calls a1 len cap1 xs m w1 (h1.below b (Nat.le_refl _)) b.size n1 p1 (by omega)
  obtain ⟨L, hL⟩ : ∃ L, 48 * manyN len = L := ⟨_, rfl⟩
  rw [hL] at HP hfl
  have hL1 : 48 ≤ L := by omega
  have hL2 : L ≤ 432 := by omega
  have hLm : Hid (L % 48 = 0) := by show _ = _; omega
  have UF : Hid (unpackN (frameN xs m) = (xs, m, 0)) := unpack_frame m (by omega) (by omega)
  have UB : Hid (∀ p, changedTo (frameN xs m).length p y 32 = true → unpackN (burstTo (frameN xs m) p y 32) = ([], 0, 4)) := fun p h => unpack_burst m (by omega) p y h
  have UG := unpack_more (b := frameN xs m ++ ms) (by rw [List.length_append]; omega)
  have UH := unpack_ahead (ms := ms) (t := xs) m hms (by omega)
  have LX : Hid (len = xs.length) := lx
  have LM : Hid (ms.length = 48) := hms
  clear g0 g1 hL lx hms
  generalize frameN xs m = F at *
  have LF : Hid (F.length = L) := hfl
  clear hfl hme
  go_enter Try.func6, Try.ntmps6
  go_wp2_with fail
  refine (awake_calls _).mono ?_
  rintro e w1 ⟨rfl, b1⟩
  have B1 := A0.trans (b1.mono A0.size)
  have K1 := K0.below b1 K0.lt
  go_wp2_with fail
  refine (HP _ B1).mono ?_
  rintro e w2 ⟨a2, c2, rfl, o2, b2⟩
  have B2 := B1.trans (b2.mono B1.size)
  have K2 := K1.below b2 K1.lt
  have I2 := o2.isB
  clear K0 K1 A0 B1 b1 b2 HP
  have s3 : Below w2.heap.size w2 (w2.alloc (.cells #[] 5)) := (Below.refl _ w2).alloc (Nat.le_refl _) _
  obtain ⟨a4, c4, w4, hap4, o4, b4⟩ := run_app (w2.alloc (.cells #[] 5)) w2.heap.size 22 _ 0 0 _ (ownB_new w2.heap.size w2 (Nat.le_refl _)) a2 L c2 F (I2.1.below s3 (Nat.le_refl _)) I2.2.1 (by omega) (by simp)
  simp only [Nat.zero_add, List.nil_append] at hap4 o4
  have s4 : Below w2.heap.size w2 w4 := s3.trans b4
  clear s3 b4
  obtain ⟨p, hp⟩ : ∃ p, t % (8 * L) = p := ⟨_, rfl⟩
  have hp8 : p < 8 * L := by rw [← hp]; exact Nat.mod_lt _ (by omega)
  have tp : (t : Int) % (8 * (L : Int)) = (p : Int) := by rw [← hp]; simp
  clear hp
  go_wp2_with (at_builtin; refine wpList_app hap4 _ _ rfl rfl rfl rfl rfl ?_)
  clear hap4
  go_loopw [13, 14, 54] (fun ov cv iv wr => ∃ i : Nat, ∃ a' c', i ≤ 32 ∧ iv = .int .i64 i ∧ cv = .bool (changedTo F.length p y i) ∧ ov = .slice a' L c' ∧ OwnB w2.heap.size wr a' L c' (burstTo F p y i) ∧ Below w2.heap.size w2 wr) (fun _ _ iv _ => 32 - (intOf iv).toNat)
  case atStart => exact ⟨0, a4, c4, Nat.zero_le _, rfl, rfl, rfl, o4, s4⟩
  case round =>
    obtain ⟨i, a', c', hi, rfl, rfl, rfl, oi, bi⟩ := hrel
    by_cases hlt : i < 32
    · have hbit := shift_bit32 y i hy
      have lB := burst_length F p y i
      by_cases hb : y.testBit i = true
      · rw [hb] at hbit
        have hbit1 : bits .and .u32 ((y : Int) / 2 ^ i) 1 = 1 := hbit
        clear hbit
        by_cases hk : p + i < 8 * L
        · have hh : hit F.length p y i = true := by simp [hit, hb, LF.out, hk]
          have EC : Hid (changedTo F.length p y (i + 1) = true) := by show _ = _; simp [changedTo, hh]
          have EB : Hid (burstTo F p y (i + 1) = flipN (burstTo F p y i) (p + i)) := by show _ = _; simp [burstTo, hh]
          have hk' : (p : Int) + (i : Int) < 8 * (L : Int) := by omega
          clear hh hb hk lB UG UH
          go_wp2_with fail
          have e1 : (p : Int) + (i : Int) = ((p + i : Nat) : Int) := by simp
          rw [e1]
          refine (flip_calls _ _ _ _ _ oi.isB.1 (Nat.le_refl _) oi.isB.2.1 (by omega) (p + i) (by omega)).mono ?_
          rintro e w5 ⟨a5, c5, rfl, o5, b5⟩
          rw [← e1]
          clear e1
          go_wp2
          go_roundw
          case rel => exact ⟨i + 1, a5, c5, by omega, by go_num, by rw [EC.out], rfl, by rw [EB.out]; exact o5.mono bi.size, bi.trans (b5.mono bi.size)⟩
          case measure => simp [intOf]; omega
        · have hh : hit F.length p y i = false := by simp [hit, hb, LF.out]; omega
          have EC : Hid (changedTo F.length p y (i + 1) = changedTo F.length p y i) := by show _ = _; simp [changedTo, hh]
          have EB : Hid (burstTo F p y (i + 1) = burstTo F p y i) := by show _ = _; simp [burstTo, hh]
          have hk' : 8 * (L : Int) ≤ (p : Int) + (i : Int) := by omega
          clear hh hb hk lB UG UH
          go_wp2
          go_roundw
          case rel => exact ⟨i + 1, a', c', by omega, by go_num, by rw [EC.out], rfl, by rw [EB.out]; exact oi, bi⟩
          case measure => simp [intOf]; omega
      · have hb' : y.testBit i = false := by simpa using hb
        rw [hb'] at hbit
        have hbit1 : bits .and .u32 ((y : Int) / 2 ^ i) 1 = 0 := hbit
        clear hbit
        have hh : hit F.length p y i = false := by simp [hit, hb']
        have EC : Hid (changedTo F.length p y (i + 1) = changedTo F.length p y i) := by show _ = _; simp [changedTo, hh]
        have EB : Hid (burstTo F p y (i + 1) = burstTo F p y i) := by show _ = _; simp [burstTo, hh]
        clear hh hb hb' lB UG UH
        go_wp2
        go_roundw
        case rel => exact ⟨i + 1, a', c', by omega, by go_num, by rw [EC.out], rfl, by rw [EB.out]; exact oi, bi⟩
        case measure => simp [intOf]; omega
    · obtain rfl : i = 32 := by omega
      have Kr := K2.below bi K2.lt
      have Ir := I2.1.below bi (Nat.le_refl _)
      have Br := B2.trans (bi.mono B2.size)
      have hcap := I2.2.2
      have hnone := I2.2.1
      have hzr := bi.size
      have I5 := oi.isB
      have hUO := unpack_len (burstTo F p y 32)
      rw [burst_length, LF.out] at hUO
      by_cases hch : changedTo F.length p y 32 = true
      · have key := unpack_calls a' L c' _ wr I5.1 (Nat.le_refl _) I5.2.2 (by omega)
        unfold UpAns at key
        rw [UB.out p hch] at key
        rw [hch]
        clear oi o4 o2 I5 hch UG UH hUO K2 I2 B2 bi s4
        go_wp2_with fail
        refine key.mono ?_
        rintro e w6 ⟨a6, c6, rfl, i6, n6, b6⟩
        clear key
        go_wp2
        go_ret
        exact ⟨rfl, Br.trans (b6.mono Br.size)⟩
      · have hch' : changedTo F.length p y 32 = false := by simpa using hch
        have e0 := burst_none F p y 32 hch'
        rw [e0] at I5
        rw [hch']
        have key := unpack_calls a' L c' F wr I5.1 (Nat.le_refl _) I5.2.2 (by omega)
        unfold UpAns at key
        rw [UF.out] at key
        dsimp only at key
        rw [← LX.out] at key
        clear oi o4 hch hch' UB hUO K2 I2 B2 bi s4 e0 I5
        go_wp2_with fail
        refine key.mono ?_
        rintro e w6 ⟨a6, c6, rfl, i6, n6, b6⟩
        have B6 := Br.trans (b6.mono Br.size)
        have K6 := Kr.below b6 Kr.lt
        have I6 := Ir.below b6 hzr
        have z6 : w2.heap.size ≤ w6.heap.size := Nat.le_trans hzr b6.size
        clear key Kr Ir Br b6 hzr
        have hf : (unpackN (F.take (L - 48))).2.2 ≠ 0 ∨ 48 < L := by
          by_cases h : 48 < L
          · exact .inr h
          · left
            have e : F.take (L - 48) = [] := by rw [show L - 48 = 0 from by omega]; rfl
            rw [e, unpack_nil]; decide
        have key2 := unpack_calls a2 (L - 48) c2 (F.take (L - 48)) w6 (I6.take (L - 48) (by rw [LF.out]; omega)) z6 (by omega) (by omega)
        unfold UpAns at key2
        generalize unpackN (F.take (L - 48)) = U7 at key2 hf
        obtain ⟨u7, m7, e7⟩ := U7
        dsimp only at key2 hf
        generalize u7.length = l7 at key2
        go_wp2_with fail
        refine key2.mono ?_
        rintro e w7 ⟨a7, c7, rfl, i7, n7, b7⟩
        have B7 := B6.trans (b7.mono B6.size)
        have K7 := K6.below b7 K6.lt
        have I7 := I6.below b7 z6
        have i6' := i6.below b7 (Nat.le_refl _)
        have z7 : w2.heap.size ≤ w7.heap.size := Nat.le_trans z6 b7.size
        have z67 := b7.size
        clear key2 i6 i7 K6 I6 B6 z6
        have s8 : Below w7.heap.size w7 (w7.drew.alloc (.cells #[] 5)) := ((Below.refl w7.heap.size w7).drew).alloc (Nat.le_refl _) _
        obtain ⟨a9, c9, w9, hap9, o9, b9⟩ := run_app (w7.drew.alloc (.cells #[] 5)) w7.heap.size 22 _ 0 0 _ (ownB_new w7.heap.size w7.drew (Nat.le_refl _)) a2 L c2 F (I7.below s8 z7) hnone (by omega) (by simp)
        simp only [Nat.zero_add, List.nil_append] at hap9 o9
        have s9 : Below w7.heap.size w7 w9 := s8.trans b9
        have K9 := K7.below s9 K7.lt
        have P9 := K9.pay
        rw [LM.out] at P9
        obtain ⟨a10, c10, w10, hap10, o10, b10⟩ := run_app w9 w7.heap.size 22 _ L c9 _ o9 (some ⟨w.heap.size, 0, none⟩) 48 48 ms P9 (by intro h; cases h) (by omega) s9.size
        have s10 := s9.trans b10
        have I10 := o10.isB
        have key3 := unpack_calls a10 (L + 48) c10 (F ++ ms) w10 I10.1 (Nat.le_refl _) I10.2.2 (by omega)
        unfold UpAns at key3
        generalize unpackN (F ++ ms) = U11 at key3 UG
        obtain ⟨u11, m11, e11⟩ := U11
        dsimp only at key3 UG
        generalize u11.length = l11 at key3
        clear s8 b9 s9 K9 P9 o9 b10 I10 o10
        go_wp2
        refine wp_region_held_drew (S := (fun _ => True)) (by kernel_rfl) trivial (fun hHeld => ?_)
        refine wpAnyH_take (i := 1) (oi := ({ dst := some 112, op := Op.move (Operand.tmp 11), type := 22, pos := _, after := #[], guard := none } : Oper)) (v := ?_) rfl (by kernel_rfl) (by kernel_rfl) (by kernel_rfl) (fun _ _ _ h => h) (Or.inl ⟨by rfl, ?_⟩) hHeld ?_
        rotate_left
        · (intro w hS; go_simp; try with_reducible rfl)
        try simp only [Act.put, List.setIfInBounds_toArray, List.set_cons_zero, List.set_cons_succ]
        refine wpAnyH_take (i := 3) (oi := ({ dst := some 114, op := Op.slice 40 (Operand.tmp 9) none none none, type := 22, pos := _, after := #[], guard := none } : Oper)) (v := ?_) rfl (by kernel_rfl) (by kernel_rfl) (by kernel_rfl) (fun _ _ _ h => h) (Or.inl ⟨by rfl, ?_⟩) hHeld ?_
        rotate_left
        · (intro w hS; go_simp; try with_reducible rfl)
        try simp only [Act.put, List.setIfInBounds_toArray, List.set_cons_zero, List.set_cons_succ]
        refine wpAnyH_ready (rs := [0]) (by kernel_rfl) (by simp) ?_
        refine AllReadyH.cons (o := ({ dst := some 111, op := Op.buildSlice 22 0 #[], type := 22, pos := _, after := #[], guard := none } : Oper)) rfl (fun K hK => ?_) AllReadyH.nil
        go_simp
        skip
        refine hK.out _ _ trivial (fun hHeld => ?_)
        clear hK K
        try simp only [Act.put, List.setIfInBounds_toArray, List.set_cons_zero, List.set_cons_succ]
        refine wpAnyH_ready (rs := [2]) (by kernel_rfl) (by simp) ?_
        refine AllReadyH.cons (o := ({ dst := some 113, op := Op.call { callee := Callee.builtin Builtin.append, args := #[Operand.tmp 111, Operand.tmp 112], argTypes := #[22, 22] }, type := 22, pos := _, after := #[{ on := 0, ground := Ground.data }, { on := 1, ground := Ground.data }], guard := none } : Oper)) rfl (fun K hK => ?_) AllReadyH.nil
        refine step_app hap9 _ _ rfl rfl rfl rfl rfl ?_
        skip
        refine hK.out _ _ trivial (fun hHeld => ?_)
        clear hK K
        try simp only [Act.put, List.setIfInBounds_toArray, List.set_cons_zero, List.set_cons_succ]
        refine wpAnyH_ready (rs := [4]) (by kernel_rfl) (by simp) ?_
        refine AllReadyH.cons (o := ({ dst := some 115, op := Op.call { callee := Callee.builtin Builtin.append, args := #[Operand.tmp 113, Operand.tmp 114], argTypes := #[22, 22] }, type := 22, pos := _, after := #[{ on := 2, ground := Ground.data }, { on := 3, ground := Ground.data }, { on := 2, ground := Ground.chain }], guard := none } : Oper)) rfl (fun K hK => ?_) AllReadyH.nil
        refine step_app hap10 _ _ rfl rfl rfl rfl rfl ?_
        skip
        refine hK.out _ _ trivial (fun hHeld => ?_)
        clear hK K
        try simp only [Act.put, List.setIfInBounds_toArray, List.set_cons_zero, List.set_cons_succ]
        refine wpAnyH_ready (rs := [5]) (by kernel_rfl) (by simp) ?_
        refine AllReadyH.cons (o := ({ dst := some 116, op := Op.call { callee := Callee.value (Operand.func 12), args := #[Operand.tmp 115], argTypes := #[22] }, type := 29, pos := _, after := #[{ on := 4, ground := Ground.data }, { on := 4, ground := Ground.chain }], guard := none } : Oper)) rfl (fun K hK => ?_) AllReadyH.nil
        refine step_call (key3) (enters_of Try.func12 (by kernel_rfl) rfl) _ _ rfl rfl rfl ?_
        rintro e w11 ⟨a11, c11, rfl, i11, n11, b11⟩
        skip
        refine ⟨_, rfl, hK.out _ _ trivial (fun hHeld => ?_)⟩
        clear hK K
        try simp only [Act.put, List.setIfInBounds_toArray, List.set_cons_zero, List.set_cons_succ]
        refine wpAnyH_take (i := 6) (oi := ({ dst := some 110, op := Op.move (Operand.tmp 116), type := 29, pos := _, after := #[{ on := 5, ground := Ground.data }], guard := none } : Oper)) (v := ?_) rfl (by kernel_rfl) (by kernel_rfl) (by kernel_rfl) (fun _ _ _ h => h) (Or.inl ⟨by rfl, ?_⟩) hHeld ?_
        rotate_left
        · (intro w hS; go_simp; try with_reducible rfl)
        try simp only [Act.put, List.setIfInBounds_toArray, List.set_cons_zero, List.set_cons_succ]
        refine wpAnyH_take (i := 7) (oi := ({ dst := some 117, op := Op.extract (Operand.tmp 110) 0, type := 22, pos := _, after := #[{ on := 6, ground := Ground.data }], guard := none } : Oper)) (v := ?_) rfl (by kernel_rfl) (by kernel_rfl) (by kernel_rfl) (fun _ _ _ h => h) (Or.inl ⟨by rfl, ?_⟩) hHeld ?_
        rotate_left
        · (intro w hS; go_simp; try with_reducible rfl)
        try simp only [Act.put, List.setIfInBounds_toArray, List.set_cons_zero, List.set_cons_succ]
        refine wpAnyH_take (i := 8) (oi := ({ dst := some 118, op := Op.extract (Operand.tmp 110) 1, type := 5, pos := _, after := #[{ on := 6, ground := Ground.data }, { on := 10, ground := Ground.gcOnly Departure.lateStores }], guard := none } : Oper)) (v := ?_) rfl (by kernel_rfl) (by kernel_rfl) (by kernel_rfl) (fun _ _ _ h => h) (Or.inl ⟨by rfl, ?_⟩) hHeld ?_
        rotate_left
        · (intro w hS; go_simp; try with_reducible rfl)
        try simp only [Act.put, List.setIfInBounds_toArray, List.set_cons_zero, List.set_cons_succ]
        refine wpAnyH_take (i := 9) (oi := ({ dst := some 119, op := Op.extract (Operand.tmp 110) 2, type := 24, pos := _, after := #[{ on := 6, ground := Ground.data }, { on := 11, ground := Ground.gcOnly Departure.lateStores }], guard := none } : Oper)) (v := ?_) rfl (by kernel_rfl) (by kernel_rfl) (by kernel_rfl) (fun _ _ _ h => h) (Or.inl ⟨by rfl, ?_⟩) hHeld ?_
        rotate_left
        · (intro w hS; go_simp; try with_reducible rfl)
        try simp only [Act.put, List.setIfInBounds_toArray, List.set_cons_zero, List.set_cons_succ]
        refine wpAnyH_take (i := 10) (oi := ({ dst := some 23, op := Op.assign (Operand.tmp 117), type := 22, pos := _, after := #[{ on := 7, ground := Ground.data }, { on := 5, ground := Ground.chain }, { on := 0, ground := Ground.phase }, { on := 1, ground := Ground.phase }, { on := 2, ground := Ground.phase }, { on := 3, ground := Ground.phase }, { on := 4, ground := Ground.phase }, { on := 5, ground := Ground.phase }, { on := 6, ground := Ground.phase }, { on := 7, ground := Ground.phase }, { on := 8, ground := Ground.textOnly Departure.lateStores }, { on := 9, ground := Ground.textOnly Departure.lateStores }], guard := none } : Oper)) (v := ?_) rfl (by kernel_rfl) (by kernel_rfl) (by kernel_rfl) (fun _ _ _ h => h) (Or.inl ⟨by rfl, ?_⟩) hHeld ?_
        rotate_left
        · (intro w hS; go_simp; try with_reducible rfl)
        try simp only [Act.put, List.setIfInBounds_toArray, List.set_cons_zero, List.set_cons_succ]
        refine wpAnyH_take (i := 11) (oi := ({ dst := some 24, op := Op.assign (Operand.tmp 118), type := 5, pos := _, after := #[{ on := 8, ground := Ground.data }, { on := 10, ground := Ground.chain }, { on := 0, ground := Ground.phase }, { on := 1, ground := Ground.phase }, { on := 2, ground := Ground.phase }, { on := 3, ground := Ground.phase }, { on := 4, ground := Ground.phase }, { on := 5, ground := Ground.phase }, { on := 6, ground := Ground.phase }, { on := 7, ground := Ground.phase }, { on := 8, ground := Ground.phase }, { on := 9, ground := Ground.textOnly Departure.lateStores }, { on := 10, ground := Ground.phase }], guard := none } : Oper)) (v := ?_) rfl (by kernel_rfl) (by kernel_rfl) (by kernel_rfl) (fun _ _ _ h => h) (Or.inl ⟨by rfl, ?_⟩) hHeld ?_
        rotate_left
        · (intro w hS; go_simp; try with_reducible rfl)
        try simp only [Act.put, List.setIfInBounds_toArray, List.set_cons_zero, List.set_cons_succ]
        refine wpAnyH_take (i := 12) (oi := ({ dst := some 25, op := Op.assign (Operand.tmp 119), type := 24, pos := _, after := #[{ on := 9, ground := Ground.data }, { on := 11, ground := Ground.chain }, { on := 0, ground := Ground.phase }, { on := 1, ground := Ground.phase }, { on := 2, ground := Ground.phase }, { on := 3, ground := Ground.phase }, { on := 4, ground := Ground.phase }, { on := 5, ground := Ground.phase }, { on := 6, ground := Ground.phase }, { on := 7, ground := Ground.phase }, { on := 8, ground := Ground.phase }, { on := 9, ground := Ground.phase }, { on := 10, ground := Ground.phase }, { on := 11, ground := Ground.phase }], guard := none } : Oper)) (v := ?_) rfl (by kernel_rfl) (by kernel_rfl) (by kernel_rfl) (fun _ _ _ h => h) (Or.inl ⟨by rfl, ?_⟩) hHeld ?_
        rotate_left
        · (intro w hS; go_simp; try with_reducible rfl)
        try simp only [Act.put, List.setIfInBounds_toArray, List.set_cons_zero, List.set_cons_succ]
        refine wpAnyH_done (by kernel_rfl) ?_ _
        have D11 : Below w7.heap.size w7 w11 := s10.trans (b11.mono s10.size)
        have B11 := B7.trans (D11.mono B7.size)
        have K11 := K7.below D11 K7.lt
        have I11 := I7.below D11 z7
        have i6'' := i6'.below D11 z67
        have z11 : w2.heap.size ≤ w11.heap.size := Nat.le_trans z7 D11.size
        have z611 : w6.heap.size ≤ w11.heap.size := Nat.le_trans z67 D11.size
        clear hHeld hap9 hap10 key3 i11 i6' K7 I7 D11 s10 b11 B7 z67 z7
        have P11 := K11.pay
        rw [LM.out] at P11
        have s12 : Below w11.heap.size w11 (w11.alloc (.cells #[] 5)) := (Below.refl w11.heap.size w11).alloc (Nat.le_refl _) _
        obtain ⟨a13, c13, w13, hap13, o13, b13⟩ := run_app (w11.alloc (.cells #[] 5)) w11.heap.size 22 _ 0 0 _ (ownB_new w11.heap.size w11 (Nat.le_refl _)) (some ⟨w.heap.size, 0, none⟩) 48 48 ms (P11.below s12 (Nat.le_refl _)) (by intro h; cases h) (by omega) (by simp)
        simp only [Nat.zero_add, List.nil_append] at hap13 o13
        have s13 := s12.trans b13
        obtain ⟨a14, c14, w14, hap14, o14, b14⟩ := run_app w13 w11.heap.size 22 _ 48 c13 _ o13 a2 L c2 F (I11.below s13 z11) hnone (by omega) s13.size
        have s14 := s13.trans b14
        have I14 := o14.isB
        have key4 := unpack_calls a14 (48 + L) c14 (ms ++ F) w14 I14.1 (Nat.le_refl _) I14.2.2 (by omega)
        have hul := unpack_len (ms ++ F)
        rw [List.length_append, LM.out, LF.out] at hul
        unfold UpAns at key4
        generalize unpackN (ms ++ F) = U15 at key4 UH hul
        obtain ⟨u15, m15, e15⟩ := U15
        dsimp only at key4 UH hul
        have HX : Hid (e15 ≠ 0 ∨ (u15 == xs) = false) := by
          rcases UH with h | h
          · exact .inl h
          · exact .inr (beq_eq_false_iff_ne.2 h)
        obtain ⟨l15, hl15⟩ : ∃ l, u15.length = l := ⟨_, rfl⟩
        rw [hl15] at key4 hul
        clear s12 b13 s13 P11 o13 b14 I14 o14 K11 UH hl15
        go_wp2_with (first | (at_builtin; refine wpList_app hap13 _ _ rfl rfl rfl rfl rfl ?_) | (at_builtin; refine wpList_app hap14 _ _ rfl rfl rfl rfl rfl ?_))
        refine key4.mono ?_
        rintro e w15 ⟨a15, c15, rfl, i15, n15, b15⟩
        have D15 : Below w11.heap.size w11 w15 := s14.trans (b15.mono s14.size)
        have B15 := B11.trans (D15.mono B11.size)
        have i6 := i6''.below D15 z611
        have z615 := Nat.le_trans z611 D15.size
        have h15 := h1.below B15 (Nat.le_refl _)
        have HUL : Hid (l15 ≤ 480) := by show _ ≤ _; omega
        clear hap13 hap14 key4 I11 i6'' s14 b15 D15 B11 z11 z611 hul h1
        have fin : ∀ w16, Below w15.heap.size w15 w16 → Below w.heap.size w w16 := fun w16 b => B15.trans (b.mono B15.size)
        have FIN : Hid (∀ w16, Below w15.heap.size w15 w16 → Below w.heap.size w w16) := fin
        have HS1 := same_calls a6 a1 len c6 len cap1 xs xs w15 i6 h15 z615 B15.size (by omega)
        rw [beq_self_eq_true] at HS1
        have HS2 : ∀ w16, Below w15.heap.size w15 w16 → (u15 == xs) = false → Calls Try.prog 14 #[.slice a15 l15 c15, .slice a1 len cap1] w16 fun e w' => e = .returned (.bool false) ∧ Below w16.heap.size w16 w' := by
          intro w16 b h
          have := same_calls a15 a1 l15 c15 len cap1 u15 xs w16 (i15.below b (Nat.le_refl _)) (h15.below b B15.size) b.size (Nat.le_trans B15.size b.size) (by have := HUL.out; omega)
          rwa [h] at this
        clear i6 h15 z615 i15 fin B15
        have HF : Hid (e7 ≠ 0 ∨ (e7 = 0 ∧ 48 < L)) := by
          show _ ∨ _
          rcases Nat.eq_zero_or_pos e7 with h | h
          · rcases hf with h' | h'
            · exact absurd h h'
            · exact .inr ⟨h, h'⟩
          · exact .inl (by omega)
        clear hf
        rcases HF.out with hf | ⟨rfl, hf⟩
        · have qf : ((e7 : Int) != 0) = true := by rw [bne_iff_ne]; omega
          clear HF hf
          by_cases h15 : e15 = 0
          · subst h15
            have hx : (u15 == xs) = false := by
              rcases HX.out with h | h
              · exact absurd rfl h
              · exact h
            clear HX
            rcases UG with rfl | rfl | rfl
            all_goals
              go_wp2_with fail
              refine HS1.mono ?_
              rintro e w16 ⟨rfl, b16⟩
              go_wp2_with fail
              refine (HS2 _ b16 hx).mono ?_
              rintro e w17 ⟨rfl, b17⟩
              go_wp2
              go_ret
              exact ⟨rfl, FIN.out _ (b16.trans (b17.mono b16.size))⟩
          · have qh : ((e15 : Int) != 0) = true := by rw [bne_iff_ne]; omega
            clear HX HS2 h15
            rcases UG with rfl | rfl | rfl
            all_goals
              go_wp2_with fail
              refine HS1.mono ?_
              rintro e w16 ⟨rfl, b16⟩
              go_wp2
              go_ret
              exact ⟨rfl, FIN.out _ b16⟩
        · have qf : decide (48 < (L : Int)) = true := by simp; omega
          clear HF hf
          by_cases h15 : e15 = 0
          · subst h15
            have hx : (u15 == xs) = false := by
              rcases HX.out with h | h
              · exact absurd rfl h
              · exact h
            clear HX
            rcases UG with rfl | rfl | rfl
            all_goals
              go_wp2_with fail
              refine HS1.mono ?_
              rintro e w16 ⟨rfl, b16⟩
              go_wp2_with fail
              refine (HS2 _ b16 hx).mono ?_
              rintro e w17 ⟨rfl, b17⟩
              go_wp2
              go_ret
              exact ⟨rfl, FIN.out _ (b16.trans (b17.mono b16.size))⟩
          · have qh : ((e15 : Int) != 0) = true := by rw [bne_iff_ne]; omega
            clear HX HS2 h15
            rcases UG with rfl | rfl | rfl
            all_goals
              go_wp2_with fail
              refine HS1.mono ?_
              rintro e w16 ⟨rfl, b16⟩
              go_wp2
              go_ret
              exact ⟨rfl, FIN.out _ b16⟩
end Go.Proofs.Ytdipffgmjmhjaaa
