/- Proved here: what the document's Unpack answers. Conditions: as each theorem states them. -/
import Derived.Test.YtfmicnjijcmjaaaUp
import Derived.Test.YtfmicnjijcmjaaaRef
namespace Go.Proofs.Ytfmicnjijcmjaaa
set_option linter.unusedSimpArgs false
set_option linter.unusedVariables false
open Go.RowKit

theorem refunpack_form (a : Option Addr) (len cap : Nat) (zs : List UInt8) (w : World) (hz : len = zs.length) (h : len = 0 ∨ len % 48 ≠ 0) (hl : len ≤ 3000) :
    Calls Try.prog 27 #[.slice a len cap] w (UpAns zs w) := by
  have HE : unpackN zs = ([], 0, 5) := by unfold unpackN; rw [if_pos (by omega)]
  have fin : UpAns zs w (.returned (.tuple #[.slice none 0 0, .int .u8 0, .int .i64 5])) w := ans_err 5 HE (Below.refl _ _)
  rcases h with rfl | h
  · clear hz HE
    go_enter Try.func27, Try.ntmps27
    go_wp2
    go_ret3
    exact fin
  · have q1 : ((len : Int) == 0) = false := beq_eq_false_iff_ne.2 (by omega)
    have q2 : ((len : Int) % 48 != 0) = true := by rw [bne_iff_ne]; omega
    clear hz HE h
    go_enter Try.func27, Try.ntmps27
    go_wp2
    go_ret3
    exact fin

theorem same_be4 (c0 c1 c2 c3 : UInt8) (C : Nat) (hC : C < 4294967296) : ([c0, c1, c2, c3] == be4 C) = decide (numN [c0, c1, c2, c3] = C) := by
  by_cases h : numN [c0, c1, c2, c3] = C
  · rw [← h, ← eq_be4]; simp
  · have : ([c0, c1, c2, c3] == be4 C) = false := by
      rw [beq_eq_false_iff_ne]
      intro e
      apply h
      rw [e, numN_be4 _ hC]
    rw [this]; simp [h]
theorem drop_zeros {body : List UInt8} {N : Nat} (h : ∀ j x, N ≤ j → body[j]? = some x → x = 0) : (body.drop N).all (· == 0) = true := by
  rw [List.all_eq_true]
  intro x hx
  obtain ⟨j, hj⟩ := List.getElem?_of_mem hx
  rw [List.getElem?_drop] at hj
  have := h (N + j) x (by omega) hj
  simp [this]
theorem drop_not {body : List UInt8} {N j : Nat} {x : UInt8} (hN : N ≤ j) (hx : body[j]? = some x) (h : x ≠ 0) : (body.drop N).all (· == 0) = false := by
  rw [List.all_eq_false]
  refine ⟨x, ?_, by simpa using h⟩
  apply List.mem_of_getElem? (i := j - N)
  rw [List.getElem?_drop, show N + (j - N) = j from by omega]; exact hx

set_option maxHeartbeats 4000000 in
theorem refunpack_eight (b off cap K : Nat) (body : List UInt8) (m z h l c0 c1 c2 c3 : UInt8) (w : World) {n : Nat} (hI : IsB n w (some ⟨b, off, none⟩) (K + 8) (body ++ [m, z, h, l, c0, c1, c2, c3])) (hn : n ≤ w.heap.size) (hK : body.length = K) (hm : (K + 8) % 48 = 0) (hcap : K + 8 ≤ cap) (hl : K ≤ 1100) :
    Calls Try.prog 27 #[.slice (some ⟨b, off, none⟩) (K + 8) cap] w (UpAns (body ++ [m, z, h, l, c0, c1, c2, c3]) w) := by
  have q1 : ((K : Int) + 8 == 0) = false := beq_eq_false_iff_ne.2 (by omega)
  have q2 : (((K : Int) + 8) % 48 != 0) = false := by rw [bne_eq_false_iff_eq]; omega
  have hU := unpack8 body m z h l c0 c1 c2 c3 (by rw [hK]; exact hm)
  unfold up8 at hU
  have e1 : body ++ [m, z, h, l, c0, c1, c2, c3] = (body ++ [m, z, h, l]) ++ [c0, c1, c2, c3] := by simp
  have hl4 : (body ++ [m, z, h, l]).length = K + 4 := by simp [hK]
  have I2 := hI
  rw [e1] at I2
  have J4 := I2.dropA
  have A4 := I2.takeA
  rw [hl4] at J4 A4
  have T4 := A4.dropA
  have BB := A4.takeA
  rw [hK] at T4 BB
  obtain ⟨b', off', e, hbn, hc⟩ := T4.cell (k := 0) (x := m) rfl
  cases e
  have HU : Hid (unpackN (body ++ [m, z, h, l, c0, c1, c2, c3]) = _) := hU
  have HK : Hid (body.length = K) := hK
  have hnw := hn
  have h1 := h.toNat_lt
  have h2 := l.toNat_lt
  have hC := longN_lt (body ++ [m, z, h, l])
  have HS := same_be4 c0 c1 c2 c3 _ hC
  clear hU e1 hl4 I2 hI hc hK
  go_enter Try.func27, Try.ntmps27
  go_wp2_with fail
  refine (reflong_calls _ _ _ _ _ A4 hn (by omega)).mono ?_
  rintro e w1 ⟨rfl, b1⟩
  generalize longN (body ++ [m, z, h, l]) = C at *
  have HS : Hid (([c0, c1, c2, c3] == be4 C) = decide (numN [c0, c1, c2, c3] = C)) := HS
  have j3 : (C : Int) / 16777216 = ((UInt8.ofNat (C / 16777216)).toNat : Int) := by rw [byteN]; omega
  have j2 : (C : Int) / 65536 % 256 = ((UInt8.ofNat (C / 65536)).toNat : Int) := by rw [byteN]; omega
  have j1 : (C : Int) / 256 % 256 = ((UInt8.ofNat (C / 256)).toNat : Int) := by rw [byteN]; omega
  have j0 : (C : Int) % 256 = ((UInt8.ofNat C).toNat : Int) := by rw [byteN]; omega
  rw [be4_list] at HS
  generalize (UInt8.ofNat (C / 16777216)) = v3 at *
  generalize (UInt8.ofNat (C / 65536)) = v2 at *
  generalize (UInt8.ofNat (C / 256)) = v1 at *
  generalize (UInt8.ofNat C) = v0 at *
  obtain ⟨w2, hW2⟩ : ∃ w2, w1.alloc (.cells #[.int .u8 (v3.toNat : Int), .int .u8 (v2.toNat : Int), .int .u8 (v1.toNat : Int), .int .u8 (v0.toNat : Int)] 5) = w2 := ⟨_, rfl⟩
  have J2 : IsB (w1.heap.size + 1) w2 (some ⟨w1.heap.size, 0, none⟩) 4 [v3, v2, v1, v0] := by rw [← hW2]; exact isB_new w1 [v3, v2, v1, v0] 5 (0, 0)
  have s2 : Below w.heap.size w1 w2 := by rw [← hW2]; exact (Below.refl _ w1).alloc b1.size _
  have z2 : w2.heap.size = w1.heap.size + 1 := by rw [← hW2]; simp
  have B2 : Below w.heap.size w w2 := b1.trans s2
  have SC := same_calls (some ⟨b, off + (K + 4), none⟩) (some ⟨w1.heap.size, 0, none⟩) 4 (cap - (K + 4)) 4 4 [c0, c1, c2, c3] [v3, v2, v1, v0] w2 (J4.below B2 hn) J2 (Nat.le_trans hn B2.size) (by omega) (by decide)
  rw [HS.out] at SC
  clear z2 s2 J2 J4 A4 HS
  go_wp2_with fail
  refine SC.mono ?_
  rintro e w3 ⟨rfl, b3⟩
  have B3 : Below w.heap.size w w3 := B2.trans (b3.mono B2.size)
  have T3 := T4.below B3 hn
  have BB3 := BB.below B3 hn
  have hn3 := Nat.le_trans hn B3.size
  clear SC T4 BB b1 b3 B2 hn hW2
  by_cases hs : numN [c0, c1, c2, c3] = C
  · rw [if_neg (by simpa using hs)] at HU
    rw [show decide (numN [c0, c1, c2, c3] = C) = true from by simp [hs]]
    obtain ⟨b', off', e, _, hc⟩ := T3.cell (k := 0) (x := m) rfl
    cases e
    have cm : w3.cell? ⟨b, off + K, none⟩ = some (.int .u8 (m.toNat : Int)) := hc 0 m rfl
    have cz : w3.cell? ⟨b, off + (K + 1), none⟩ = some (.int .u8 (z.toNat : Int)) := hc 1 z rfl
    have ch : w3.cell? ⟨b, off + (K + 2), none⟩ = some (.int .u8 (h.toNat : Int)) := hc 2 h rfl
    have cl : w3.cell? ⟨b, off + (K + 3), none⟩ = some (.int .u8 (l.toNat : Int)) := hc 3 l rfl
    clear hs hc T3
    obtain ⟨N, hN⟩ : ∃ N, h.toNat * 256 + l.toNat = N := ⟨_, rfl⟩
    rw [hN] at HU
    have EN : (h.toNat : Int) * 256 + (l.toNat : Int) = (N : Int) := by omega
    have hN6 : N < 65536 := by omega
    clear hN
    generalize h.toNat = hv at *
    generalize l.toNat = lv at *
    go_wp2
    go_quiet (fail)
    have B4 : Below w.heap.size w (w3.drewN nq) := below_drewN B3
    have BB4 : IsB n (w3.drewN nq) (some ⟨b, off, none⟩) K body := BB3.below (m := n) (below_drewN (Below.refl n w3)) (Nat.le_refl _)
    have C4 : (w3.drewN nq).cell? ⟨b, off + (K + 1), none⟩ = some (.int .u8 (z.toNat : Int)) := cz
    have M4 : (w3.drewN nq).cell? ⟨b, off + K, none⟩ = some (.int .u8 (m.toNat : Int)) := cm
    have hn4 : n ≤ (w3.drewN nq).heap.size := hn3
    generalize w3.drewN nq = w4 at *
    clear B3 BB3 cm cz hn3 ch cl EN j0 j1 j2 j3
    by_cases hz : z.toNat ≠ 0
    · rw [if_pos (.inl hz)] at HU
      have q4 : ((z.toNat : Int) != 0) = true := by rw [bne_iff_ne]; omega
      generalize z.toNat = zn at *
      clear hz BB4 M4
      go_wp2
      go_ret3
      exact ans_err 5 HU.out B4
    have hz0 : z.toNat = 0 := by omega
    rw [hz0] at C4
    clear hz
    by_cases hN0 : N = 0
    · rw [if_pos (.inr (.inl (by rw [hN0, many_zero]; omega)))] at HU
      subst hN0
      clear BB4 M4
      go_wp2
      go_ret3
      exact ans_err 5 HU.out B4
    have q5 : ((N : Int) == 0) = false := beq_eq_false_iff_ne.2 (by omega)
    have hme := many_eq (n := N) (by omega)
    by_cases hNK : K < N
    · rw [if_pos (.inr (.inl (by rw [HK.out]; omega)))] at HU
      have q6 : decide ((K : Int) < (N : Int)) = true := by simp; omega
      clear BB4 M4 hme
      go_wp2
      go_ret3
      exact ans_err 5 HU.out B4
    have q6 : decide ((K : Int) < (N : Int)) = false := by simp; omega
    by_cases h47 : 47 < K - N
    · rw [if_pos (.inr (.inl (by rw [HK.out]; omega)))] at HU
      have q7 : decide (47 < (K : Int) - (N : Int)) = true := by simp; omega
      clear BB4 M4 hme
      go_wp2
      go_ret3
      exact ans_err 5 HU.out B4
    have q7 : decide (47 < (K : Int) - (N : Int)) = false := by simp; omega
    have hm48 : manyN N * 48 = body.length + 8 := by rw [HK.out]; omega
    have hNK' : N ≤ K := by omega
    have hz0' : Hid (¬ (z.toNat ≠ 0)) := by show ¬ _; omega
    have hm48' : Hid (¬ (manyN N * 48 ≠ body.length + 8)) := by show ¬ _; omega
    clear hme hm48 h47 hNK hN0 hz0
    go_wp2
    go_loopw [8] (fun iv wr => ∃ k : Nat, N ≤ k ∧ k ≤ K ∧ iv = .int .i64 k ∧ (∀ j x, N ≤ j → j < k → body[j]? = some x → x = 0) ∧ Below w.heap.size w4 wr) (fun iv _ => K - (intOf iv).toNat)
    case atStart => exact ⟨N, Nat.le_refl _, hNK', rfl, fun j x h1 h2 => absurd h1 (by omega), Below.refl _ _⟩
    case round =>
      obtain ⟨k, hk1, hk2, rfl, hz, bel⟩ := hrel
      have HZ : Hid (∀ j x, N ≤ j → j < k → body[j]? = some x → x = 0) := hz
      clear hz
      by_cases hlt : k < K
      · obtain ⟨x, hx⟩ : ∃ x, body[k]? = some x := ⟨body[k]'(by have := HK.out; omega), by rw [List.getElem?_eq_getElem]⟩
        have hbw : b < w.heap.size ∨ True := .inr trivial
        have HX : Hid (body[k]? = some x) := hx
        have BBr : IsB n wr (some ⟨b, off, none⟩) K body := BB4.below (m := n) (bel.mono hnw) (Nat.le_refl _)
        obtain ⟨b', off', e, _, hc⟩ := BBr.cell hx
        cases e
        have cx := hc k x hx
        clear hc hx BBr
        by_cases hx0 : x = 0
        · have HZ2 : Hid (∀ j x, N ≤ j → j < k + 1 → body[j]? = some x → x = 0) := by
            intro j y h1 h2 hy
            rcases Nat.lt_or_ge j k with h | h
            · exact HZ.out j y h1 h hy
            · obtain rfl : j = k := by omega
              rw [HX.out] at hy; cases hy; exact hx0
          subst hx0
          rw [show ((0 : UInt8).toNat : Int) = 0 from rfl] at cx
          clear HZ HX BB4 B4 C4 M4 HU HK
          go_wp2
          go_roundw
          case rel => exact ⟨k + 1, by omega, by omega, by go_num, HZ2.out, bel⟩
          case measure => simp [intOf]; omega
        · have ha := drop_not hk1 HX.out hx0
          rw [if_pos (.inr (.inr ha))] at HU
          have q8 : ((x.toNat : Int) != 0) = true := by
            rw [bne_iff_ne]; intro e; apply hx0; rw [← UInt8.toNat_inj]; show x.toNat = 0; omega
          generalize x.toNat = xn at *
          clear HZ HX BB4 C4 M4 HK ha hx0
          go_wp2
          go_ret3
          exact ans_err 5 HU.out (B4.trans bel)
      · obtain rfl : k = K := by omega
        have ha : (body.drop N).all (· == 0) = true := drop_zeros fun j x h1 hx => HZ.out j x h1 (by have := (List.getElem?_eq_some_iff.1 hx).1; have := HK.out; omega) hx
        rw [if_neg (not_or.2 ⟨hz0'.out, not_or.2 ⟨hm48'.out, by simpa using ha⟩⟩)] at HU
        have BBr : IsB n wr (some ⟨b, off, none⟩) k body := BB4.below (m := n) (bel.mono hnw) (Nat.le_refl _)
        have Mr : wr.cell? ⟨b, off + k, none⟩ = some (.int .u8 (m.toNat : Int)) := (bel.cell (p := ⟨b, off + k, none⟩) (by show b < _; omega)).trans M4
        have Br := B4.trans bel
        have hnr : n ≤ wr.heap.size := Nat.le_trans hnw Br.size
        clear HZ BB4 M4 C4 bel B4 ha hz0' hm48' q1 q2 q5 q6 q7
        by_cases hb : 1000 < N
        · rw [if_pos hb] at HU
          have q8 : decide (1000 < (N : Int)) = true := by simp; omega
          clear hb BBr Mr
          go_wp2
          go_ret3
          exact ans_err 6 HU.out Br
        · rw [if_neg hb] at HU
          have q8 : decide (1000 < (N : Int)) = false := by simp; omega
          have hb' : N ≤ 1000 := by omega
          have hNc : N ≤ cap := by omega
          have ew1 : IntKind.i64.wrap ((k : Int) + 8 - 8) = (k : Int) := by rw [IntKind.wrap_i64]; omega
          have ew2 : IntKind.i64.wrap (k : Int) = (k : Int) := by rw [IntKind.wrap_i64]; omega
          have ew3 : (k : Int) < (k : Int) + 8 := by omega
          have HL : Hid ((body.take N).length = N) := by show _ = _; rw [List.length_take]; have := HK.out; omega
          obtain ⟨mk, hmk⟩ : ∃ mk, m.toNat = mk := ⟨_, rfl⟩
          have HM : Hid (m.toNat = mk) := hmk
          rw [hmk] at Mr
          have HX : Hid (unpackN (body ++ [m, z, h, l, c0, c1, c2, c3]) = (body.take N, m, 0)) := HU
          have HWN : Hid (w.heap.size ≤ wr.heap.size) := Br.size
          have s0 : Below wr.heap.size wr.drew (wr.drew.alloc (.cells #[] 5)) := (Below.refl wr.heap.size wr.drew).alloc (Nat.le_refl _) _
          have M0 : (wr.drew.alloc (.cells #[] 5)).cell? ⟨b, off + k, none⟩ = some (.int .u8 (mk : Int)) := (s0.cell (p := ⟨b, off + k, none⟩) (by show b < _; omega)).trans Mr
          have BT : IsB n (wr.drew.alloc (.cells #[] 5)) (some ⟨b, off, none⟩) N (body.take N) := by
            have := (BBr.take N (by have := HK.out; omega)).below (m := n) (((Below.refl n wr).drew).trans (s0.mono hnr)) (Nat.le_refl _)
            exact this
          obtain ⟨a9, c9, w9, hap9, o9, b9⟩ := run_app (wr.drew.alloc (.cells #[] 5)) wr.heap.size 32 _ 0 0 _ (ownB_new wr.heap.size wr.drew (Nat.le_refl _)) (some ⟨b, off, none⟩) N cap _ BT (by intro h; cases h) (by omega) (by simp)
          simp only [Nat.zero_add, List.nil_append] at hap9 o9
          have M9 : w9.cell? ⟨b, off + k, none⟩ = some (.int .u8 (mk : Int)) := (b9.cell (p := ⟨b, off + k, none⟩) (by show b < _; omega)).trans M0
          have B9 : Below w.heap.size w w9 := Br.trans ((((Below.refl wr.heap.size wr).drew).trans (s0.trans b9)).mono HWN.out)
          clear hmk HU BBr s0 BT hb b9
          go_wp2
          refine wp_region_held_drew (S := (fun w' => w'.cell? ⟨b, off + k, none⟩ = some (.int .u8 mk))) (by kernel_rfl) Mr (fun hHeld => ?_)
          refine wpAnyH_take (i := 1) (oi := ({ dst := some 96, op := Op.move (Operand.tmp 0), type := 32, pos := _, after := #[], guard := none } : Oper)) (v := ?_) rfl (by kernel_rfl) (by kernel_rfl) (by kernel_rfl) (fun _ _ _ h => h) (Or.inl ⟨by rfl, ?_⟩) hHeld ?_
          rotate_left
          · (intro w hS; go_simp; try with_reducible rfl)
          try simp only [Act.put, List.setIfInBounds_toArray, List.set_cons_zero, List.set_cons_succ]
          refine wpAnyH_take (i := 2) (oi := ({ dst := some 97, op := Op.move (Operand.tmp 7), type := 3, pos := _, after := #[], guard := none } : Oper)) (v := ?_) rfl (by kernel_rfl) (by kernel_rfl) (by kernel_rfl) (fun _ _ _ h => h) (Or.inl ⟨by rfl, ?_⟩) hHeld ?_
          rotate_left
          · (intro w hS; go_simp; try with_reducible rfl)
          try simp only [Act.put, List.setIfInBounds_toArray, List.set_cons_zero, List.set_cons_succ]
          refine wpAnyH_take (i := 3) (oi := ({ dst := some 98, op := Op.slice 32 (Operand.tmp 96) none (some (Operand.tmp 97)) none, type := 32, pos := _, after := #[{ on := 1, ground := Ground.data }, { on := 2, ground := Ground.data }], guard := none } : Oper)) (v := ?_) rfl (by kernel_rfl) (by kernel_rfl) (by kernel_rfl) (fun _ _ _ h => h) (Or.inl ⟨by rfl, ?_⟩) hHeld ?_
          rotate_left
          · (intro w hS; go_simp; try with_reducible rfl)
          try simp only [Act.put, List.setIfInBounds_toArray, List.set_cons_zero, List.set_cons_succ]
          refine wpAnyH_take (i := 5) (oi := ({ dst := some 100, op := Op.move (Operand.tmp 0), type := 32, pos := _, after := #[{ on := 10, ground := Ground.gcOnly Departure.lateStores }], guard := none } : Oper)) (v := ?_) rfl (by kernel_rfl) (by kernel_rfl) (by kernel_rfl) (fun _ _ _ h => h) (Or.inl ⟨by rfl, ?_⟩) hHeld ?_
          rotate_left
          · (intro w hS; go_simp; try with_reducible rfl)
          try simp only [Act.put, List.setIfInBounds_toArray, List.set_cons_zero, List.set_cons_succ]
          refine wpAnyH_take (i := 6) (oi := ({ dst := some 101, op := Op.move (Operand.tmp 5), type := 3, pos := _, after := #[{ on := 10, ground := Ground.gcOnly Departure.lateStores }], guard := none } : Oper)) (v := ?_) rfl (by kernel_rfl) (by kernel_rfl) (by kernel_rfl) (fun _ _ _ h => h) (Or.inl ⟨by rfl, ?_⟩) hHeld ?_
          rotate_left
          · (intro w hS; go_simp; try with_reducible rfl)
          try simp only [Act.put, List.setIfInBounds_toArray, List.set_cons_zero, List.set_cons_succ]
          refine wpAnyH_take (i := 7) (oi := ({ dst := some 102, op := Op.binOp BinOp.sub 3 (Operand.tmp 101) (Operand.const (Value.int IntKind.i64 8)) 3, type := 3, pos := _, after := #[{ on := 6, ground := Ground.data }, { on := 10, ground := Ground.gcOnly Departure.lateStores }], guard := none } : Oper)) (v := ?_) rfl (by kernel_rfl) (by kernel_rfl) (by kernel_rfl) (fun _ _ _ h => h) (Or.inl ⟨by rfl, ?_⟩) hHeld ?_
          rotate_left
          · (intro w hS; go_simp; try with_reducible rfl)
          try simp only [Act.put, List.setIfInBounds_toArray, List.set_cons_zero, List.set_cons_succ]
          refine wpAnyH_take (i := 8) (oi := ({ dst := some 103, op := Op.indexAddr 32 (Operand.tmp 100) (Operand.tmp 102), type := 0, pos := _, after := #[{ on := 5, ground := Ground.data }, { on := 7, ground := Ground.data }, { on := 10, ground := Ground.gcOnly Departure.lateStores }], guard := none } : Oper)) (v := ?_) rfl (by kernel_rfl) (by kernel_rfl) (by kernel_rfl) (fun _ _ _ h => h) (Or.inl ⟨by rfl, ?_⟩) hHeld ?_
          rotate_left
          · (intro w hS; go_simp; try with_reducible rfl)
          try simp only [Act.put, List.setIfInBounds_toArray, List.set_cons_zero, List.set_cons_succ]
          refine wpAnyH_take (i := 9) (oi := ({ dst := some 104, op := Op.load 5 (Operand.tmp 103), type := 5, pos := _, after := #[{ on := 8, ground := Ground.data }, { on := 10, ground := Ground.gcOnly Departure.lateStores }], guard := none } : Oper)) (v := ?_) rfl (by kernel_rfl) (by kernel_rfl) (by kernel_rfl) (fun _ _ _ h => h) (Or.inl ⟨by rfl, ?_⟩) hHeld ?_
          rotate_left
          · (intro w hS; go_simp; try with_reducible rfl)
          try simp only [Act.put, List.setIfInBounds_toArray, List.set_cons_zero, List.set_cons_succ]
          refine wpAnyH_ready (rs := [0]) (by kernel_rfl) (by simp) ?_
          refine AllReadyH.cons (o := ({ dst := some 95, op := Op.buildSlice 32 0 #[], type := 32, pos := _, after := #[], guard := none } : Oper)) rfl (fun K hK => ?_) AllReadyH.nil
          go_simp
          skip
          refine hK.out _ _ M0 (fun hHeld => ?_)
          clear hK K
          try simp only [Act.put, List.setIfInBounds_toArray, List.set_cons_zero, List.set_cons_succ]
          refine wpAnyH_ready (rs := [4]) (by kernel_rfl) (by simp) ?_
          refine AllReadyH.cons (o := ({ dst := some 99, op := Op.call { callee := Callee.builtin Builtin.append, args := #[Operand.tmp 95, Operand.tmp 98], argTypes := #[32, 32] }, type := 32, pos := _, after := #[{ on := 0, ground := Ground.data }, { on := 3, ground := Ground.data }], guard := none } : Oper)) rfl (fun K hK => ?_) AllReadyH.nil
          refine step_app hap9 _ _ rfl rfl rfl rfl rfl ?_
          skip
          refine hK.out _ _ M9 (fun hHeld => ?_)
          clear hK K
          try simp only [Act.put, List.setIfInBounds_toArray, List.set_cons_zero, List.set_cons_succ]
          refine wpAnyH_take (i := 10) (oi := ({ dst := some 2, op := Op.assign (Operand.tmp 99), type := 32, pos := _, after := #[{ on := 4, ground := Ground.data }, { on := 4, ground := Ground.chain }, { on := 0, ground := Ground.phase }, { on := 1, ground := Ground.phase }, { on := 2, ground := Ground.phase }, { on := 3, ground := Ground.phase }, { on := 4, ground := Ground.phase }, { on := 5, ground := Ground.textOnly Departure.lateStores }, { on := 6, ground := Ground.textOnly Departure.lateStores }, { on := 7, ground := Ground.textOnly Departure.lateStores }, { on := 8, ground := Ground.textOnly Departure.lateStores }, { on := 9, ground := Ground.textOnly Departure.lateStores }], guard := none } : Oper)) (v := ?_) rfl (by kernel_rfl) (by kernel_rfl) (by kernel_rfl) (fun _ _ _ h => h) (Or.inl ⟨by rfl, ?_⟩) hHeld ?_
          rotate_left
          · (intro w hS; go_simp; try with_reducible rfl)
          try simp only [Act.put, List.setIfInBounds_toArray, List.set_cons_zero, List.set_cons_succ]
          refine wpAnyH_take (i := 11) (oi := ({ dst := some 3, op := Op.assign (Operand.tmp 104), type := 5, pos := _, after := #[{ on := 9, ground := Ground.data }, { on := 10, ground := Ground.chain }, { on := 0, ground := Ground.phase }, { on := 1, ground := Ground.phase }, { on := 2, ground := Ground.phase }, { on := 3, ground := Ground.phase }, { on := 4, ground := Ground.phase }, { on := 5, ground := Ground.phase }, { on := 6, ground := Ground.phase }, { on := 7, ground := Ground.phase }, { on := 8, ground := Ground.phase }, { on := 9, ground := Ground.phase }, { on := 10, ground := Ground.phase }], guard := none } : Oper)) (v := ?_) rfl (by kernel_rfl) (by kernel_rfl) (by kernel_rfl) (fun _ _ _ h => h) (Or.inl ⟨by rfl, ?_⟩) hHeld ?_
          rotate_left
          · (intro w hS; go_simp; try with_reducible rfl)
          try simp only [Act.put, List.setIfInBounds_toArray, List.set_cons_zero, List.set_cons_succ]
          refine wpAnyH_take (i := 12) (oi := ({ dst := some 4, op := Op.assign (Operand.const (Value.int IntKind.i64 0)), type := 3, pos := _, after := #[{ on := 11, ground := Ground.chain }, { on := 0, ground := Ground.phase }, { on := 1, ground := Ground.phase }, { on := 2, ground := Ground.phase }, { on := 3, ground := Ground.phase }, { on := 4, ground := Ground.phase }, { on := 5, ground := Ground.phase }, { on := 6, ground := Ground.phase }, { on := 7, ground := Ground.phase }, { on := 8, ground := Ground.phase }, { on := 9, ground := Ground.phase }, { on := 10, ground := Ground.phase }, { on := 11, ground := Ground.phase }], guard := none } : Oper)) (v := ?_) rfl (by kernel_rfl) (by kernel_rfl) (by kernel_rfl) (fun _ _ _ h => h) (Or.inl ⟨by rfl, ?_⟩) hHeld ?_
          rotate_left
          · (intro w hS; go_simp; try with_reducible rfl)
          try simp only [Act.put, List.setIfInBounds_toArray, List.set_cons_zero, List.set_cons_succ]
          refine wpAnyH_done (by kernel_rfl) ?_ _
          clear hHeld
          go_wp2
          go_ret3
          exact ans_ok HX.out HL.out HM.out (o9.mono HWN.out) B9
  · rw [if_pos hs] at HU
    rw [show decide (numN [c0, c1, c2, c3] = C) = false from by simp [hs]]
    clear hs
    go_wp2
    go_ret3
    exact ans_err 4 HU.out B3
theorem refunpack_all (a : Option Addr) (len cap : Nat) (zs : List UInt8) (w : World) {n : Nat} (h : IsB n w a len zs) (hn : n ≤ w.heap.size) (hcap : len ≤ cap) (hl : len ≤ 1100) :
    Calls Try.prog 27 #[.slice a len cap] w (UpAns zs w) := by
  by_cases hb : len = 0 ∨ len % 48 ≠ 0
  · exact refunpack_form a len cap zs w h.1 hb (by omega)
  · have hz := h.1
    obtain ⟨body, m, z, hh, l, c0, c1, c2, c3, rfl, _⟩ := split8 (b := zs) (by omega)
    obtain ⟨b, off, rfl, _, _⟩ := h.cell (k := body.length) (x := m) (by simp)
    have hl2 : len = body.length + 8 := by rw [hz]; simp
    subst hl2
    exact refunpack_eight b off cap body.length body m z hh l c0 c1 c2 c3 w h hn rfl (by omega) hcap (by omega)
end Go.Proofs.Ytfmicnjijcmjaaa
