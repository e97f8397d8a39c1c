/- Proved here: what frame.Unpack answers. Conditions: as each theorem states them. -/
import Derived.Deep.RegionHeld
import Derived.Deep.RegionHeldLaw
import Derived.Deep.RegionLaw
import Derived.BigRegion
import Derived.BigQuiet
import Derived.Deep.QuietTactic
import Derived.OwnWalk
import Derived.Test.YtbjeljmnknibnaaDoorFSml
namespace Go.Proofs.YtbjeljmnknibnaaDoor.F
set_option linter.unusedSimpArgs false
set_option linter.unusedVariables false
open Go.RowKit

theorem IsB.dropA {n : Nat} {W : World} {b off len : Nat} {xs ys : List UInt8} (h : IsB n W (some ⟨b, off, none⟩) len (xs ++ ys)) : IsB n W (some ⟨b, off + xs.length, none⟩) ys.length ys := by
  refine ⟨rfl, ?_⟩
  rcases h.2 with e | ⟨b', off', e, hb, hc⟩
  · left; exact (List.append_eq_nil_iff.1 e).2
  · right
    cases e
    refine ⟨b, off + xs.length, rfl, hb, fun j x hx => ?_⟩
    rw [Nat.add_assoc]
    exact hc (xs.length + j) x (by rw [List.getElem?_append_right (by omega)]; rw [show xs.length + j - xs.length = j from by omega]; exact hx)
theorem IsB.takeA {n : Nat} {W : World} {a : Option Addr} {len : Nat} {xs ys : List UInt8} (h : IsB n W a len (xs ++ ys)) : IsB n W a xs.length xs := by
  have := h.take xs.length (by simp)
  rwa [List.take_left'] at this
  rfl

/-- What Unpack answers. -/
def UpAns (zs : List UInt8) (w : World) (e : Ending) (w' : World) : Prop :=
  ∃ a' c', e = .returned (.tuple #[.slice a' (unpackN zs).1.length c', .int .u8 ((unpackN zs).2.1.toNat : Int), .int .i64 ((unpackN zs).2.2 : Nat)]) ∧ IsB w'.heap.size w' a' (unpackN zs).1.length (unpackN zs).1 ∧ (a' = none → c' = 0) ∧ (unpackN zs).1.length ≤ c' ∧ Below w.heap.size w w'

theorem unpack_form (a : Option Addr) (len cap : Nat) (zs : List UInt8) (w : World) (hz : len = zs.length) (h : len = 0 ∨ len % 48 ≠ 0) (hl : len ≤ 3000) :
    Calls Tryd.prog 26 #[.slice a len cap] w (UpAns zs w) := by
  have HE : Hid (unpackN zs = ([], 0, 5)) := by show _ = _; unfold unpackN; rw [if_pos (by omega)]
  have fin : UpAns zs w (.returned (.tuple #[.slice none 0 0, .int .u8 0, .int .i64 5])) w := by
    unfold UpAns; rw [HE.out]
    exact ⟨none, 0, rfl, ⟨rfl, .inl rfl⟩, fun _ => rfl, Nat.le_refl _, Below.refl _ _⟩
  rcases h with rfl | h
  · clear hz HE
    go_enter Tryd.func26, Tryd.ntmps26
    go_wp2
    go_ret3
    exact fin
  · have q1 : ((len : Int) == 0) = false := beq_eq_false_iff_ne.2 (by omega)
    have q2 : ((len : Int) % 48 != 0) = true := by rw [bne_iff_ne]; omega
    clear hz HE h
    go_enter Tryd.func26, Tryd.ntmps26
    go_wp2
    go_ret3
    exact fin

theorem below_drewN {n k : Nat} {a w : World} (h : Below n a w) : Below n a (w.drewN k) := ⟨h.os, h.tape, h.output, h.size, h.block⟩
theorem ans_err {zs : List UInt8} {w w' : World} (k : Nat) (h : unpackN zs = ([], 0, k)) (b : Below w.heap.size w w') : UpAns zs w (.returned (.tuple #[.slice none 0 0, .int .u8 0, .int .i64 (k : Nat)])) w' := by
  unfold UpAns; rw [h]
  exact ⟨none, 0, rfl, ⟨rfl, .inl rfl⟩, fun _ => rfl, Nat.le_refl _, b⟩
theorem ans_ok {zs t : List UInt8} {w w' : World} {N mk : Nat} {m : UInt8} {a' : Option Addr} {c' : Nat} (h : unpackN zs = (t, m, 0)) (hl : t.length = N) (hm : m.toNat = mk) (hI : OwnB w.heap.size w' a' N c' t) (b : Below w.heap.size w w') :
    UpAns zs w (.returned (.tuple #[.slice a' N c', .int .u8 (mk : Int), .int .i64 0])) w' := by
  unfold UpAns; rw [h]
  subst hl hm
  exact ⟨a', c', rfl, hI.isB.1, hI.isB.2.1, hI.isB.2.2, b⟩

set_option maxHeartbeats 4000000 in
theorem unpack_eight (b off cap K : Nat) (body : List UInt8) (m z h l c0 c1 c2 c3 : UInt8) (w : World) {n : Nat} (hI : IsB n w (some ⟨b, off, none⟩) (K + 8) (body ++ [m, z, h, l, c0, c1, c2, c3])) (hn : n ≤ w.heap.size) (hK : body.length = K) (hm : (K + 8) % 48 = 0) (hcap : K + 8 ≤ cap) (hl : K ≤ 3000) :
    Calls Tryd.prog 26 #[.slice (some ⟨b, off, none⟩) (K + 8) cap] w (UpAns (body ++ [m, z, h, l, c0, c1, c2, c3]) w) := by
  have q1 : ((K : Int) + 8 == 0) = false := beq_eq_false_iff_ne.2 (by omega)
  have q2 : (((K : Int) + 8) % 48 != 0) = false := by rw [bne_eq_false_iff_eq]; omega
  have hU := unpack8 body m z h l c0 c1 c2 c3 (by rw [hK]; exact hm)
  unfold up8 at hU
  have e1 : body ++ [m, z, h, l, c0, c1, c2, c3] = (body ++ [m, z, h, l]) ++ [c0, c1, c2, c3] := by simp
  have hl4 : (body ++ [m, z, h, l]).length = K + 4 := by simp [hK]
  have I2 := hI
  rw [e1] at I2
  have J4 := I2.dropA
  have A4 := I2.takeA
  rw [hl4] at J4 A4
  have T4 := A4.dropA
  have T2 : IsB n w (some ⟨b, off + K + 2, none⟩) 2 [h, l] := IsB.dropA (xs := [m, z]) (ys := [h, l]) (by rw [hK] at T4; exact T4)
  have BB := A4.takeA
  rw [hK] at T4 BB
  obtain ⟨b', off', e, hbn, hc⟩ := T4.cell (k := 0) (x := m) rfl
  cases e
  have cm : w.cell? ⟨b, off + K, none⟩ = some (.int .u8 (m.toNat : Int)) := hc 0 m rfl
  have cz : w.cell? ⟨b, off + K + 1, none⟩ = some (.int .u8 (z.toNat : Int)) := hc 1 z rfl
  have hreach : (body ++ [m, z, h, l]).length ≤ maxLen := by rw [hl4]; unfold maxLen; omega
  have HU : Hid (unpackN (body ++ [m, z, h, l, c0, c1, c2, c3]) = _) := hU
  have HN : Hid (numN [h, l] = h.toNat * 256 + l.toNat) := numN_two h l
  have h1 := h.toNat_lt
  have h2 := l.toNat_lt
  clear hU e1 hl4 I2 T4 hI hc
  go_enter Tryd.func26, Tryd.ntmps26
  go_wp2_with fail
  refine (number_calls _ _ _ _ _ J4 hn (by simp)).mono ?_
  rintro e w1 ⟨rfl, b1⟩
  go_wp2_with fail
  refine (long_calls _ _ _ _ hreach _ (A4.below b1 hn) (Nat.le_trans hn b1.size)).mono ?_
  rintro e w2 ⟨rfl, b2⟩
  have B2 : Below w.heap.size w w2 := b1.trans (b2.mono b1.size)
  have C2 : w2.cell? ⟨b, off + K + 1, none⟩ = some (.int .u8 (z.toNat : Int)) := (B2.cell (p := ⟨b, off + K + 1, none⟩) (by show b < _; omega)).trans cz
  have M2 : w2.cell? ⟨b, off + K, none⟩ = some (.int .u8 (m.toNat : Int)) := (B2.cell (p := ⟨b, off + K, none⟩) (by show b < _; omega)).trans cm
  have T2' := T2.below B2 hn
  have BB' := BB.below B2 hn
  have hn2 := Nat.le_trans hn B2.size
  clear J4 A4 cm cz T2 BB b1 b2 hreach hn
  by_cases hs : numN [c0, c1, c2, c3] = longN (body ++ [m, z, h, l])
  · rw [if_neg (by simpa using hs)] at HU
    rw [hs]
    have q3 : (((longN (body ++ [m, z, h, l]) : Nat) : Int) != ((longN (body ++ [m, z, h, l]) : Nat) : Int)) = false := by simp
    generalize longN (body ++ [m, z, h, l]) = C at *
    clear hs
    go_wp2
    go_quiet (fail)
    have B3 : Below w.heap.size w (w2.drewN nq) := below_drewN B2
    have T3 : IsB n (w2.drewN nq) (some ⟨b, off + K + 2, none⟩) 2 [h, l] := T2'.below (m := n) (below_drewN (Below.refl n w2)) (Nat.le_refl _)
    have BB3 : IsB n (w2.drewN nq) (some ⟨b, off, none⟩) K body := BB'.below (m := n) (below_drewN (Below.refl n w2)) (Nat.le_refl _)
    have C3 : (w2.drewN nq).cell? ⟨b, off + K + 1, none⟩ = some (.int .u8 (z.toNat : Int)) := C2
    have M3 : (w2.drewN nq).cell? ⟨b, off + K, none⟩ = some (.int .u8 (m.toNat : Int)) := M2
    have hn3 : n ≤ (w2.drewN nq).heap.size := hn2
    generalize w2.drewN nq = w3 at *
    clear B2 T2' BB' C2 M2 hn2 q3
    go_wp2_with fail
    refine (number_calls _ _ _ _ _ T3 hn3 (by decide)).mono ?_
    rintro e w4 ⟨rfl, b4⟩
    rw [HN.out]
    have B4 : Below w.heap.size w w4 := B3.trans (b4.mono B3.size)
    have C4 : w4.cell? ⟨b, off + K + 1, none⟩ = some (.int .u8 (z.toNat : Int)) := (b4.cell (p := ⟨b, off + K + 1, none⟩) (by show b < _; omega)).trans C3
    have M4 : w4.cell? ⟨b, off + K, none⟩ = some (.int .u8 (m.toNat : Int)) := (b4.cell (p := ⟨b, off + K, none⟩) (by show b < _; omega)).trans M3
    have BB4 := BB3.below b4 hn3
    have hn4 := Nat.le_trans hn3 b4.size
    have hN : h.toNat * 256 + l.toNat < 65536 := by omega
    clear B3 T3 BB3 C3 M3 hn3 b4 HN h1 h2
    generalize h.toNat * 256 + l.toNat = N at *
    have HM := many_calls N (by omega) w4
    obtain ⟨M, hM⟩ : ∃ M, manyN N = M := ⟨_, rfl⟩
    by_cases hz : z.toNat ≠ 0
    · rw [if_pos (.inl hz)] at HU
      have q4 : ((z.toNat : Int) != 0) = true := by rw [bne_iff_ne]; omega
      generalize z.toNat = zn at *
      clear hz BB4 hM HM M4
      go_wp2
      go_ret3
      exact ans_err 5 HU.out B4
    have hz0 : z.toNat = 0 := by omega
    rw [hz0] at C4
    clear hz
    by_cases hk : M * 48 ≠ K + 8
    · rw [if_pos (.inr (.inl (by rw [hM, hK]; exact hk)))] at HU
      have hMb : M ≤ 1366 := by rw [← hM]; unfold manyN; split <;> omega
      have q5 : ((M : Int) * 48 != (K : Int) + 8) = true := by rw [bne_iff_ne]; omega
      rw [hM] at HM
      clear BB4 hM hk M4
      go_wp2_with fail
      refine HM.mono ?_
      rintro e w5 ⟨rfl, rfl⟩
      go_wp2
      go_ret3
      exact ans_err 5 HU.out B4
    have hk' : M * 48 = K + 8 := by omega
    have q5 : ((M : Int) * 48 != (K : Int) + 8) = false := by rw [bne_eq_false_iff_eq]; omega
    have hN1 : 1 ≤ N := by
      rcases Nat.eq_zero_or_pos N with e | e
      · rw [e, many_zero] at hM; omega
      · exact e
    have hNK : N ≤ K := by
      have := many_eq hN1
      omega
    have hMb : M ≤ 1366 := by omega
    have eb : body = body.take N ++ body.drop N := (List.take_append_drop N body).symm
    have BD : IsB n w4 (some ⟨b, off + N, none⟩) (K - N) (body.drop N) := by
      have h' := BB4
      rw [eb] at h'
      have := h'.dropA
      rwa [List.length_take, List.length_drop, hK, Nat.min_eq_left hNK] at this
    have BT : IsB n w4 (some ⟨b, off, none⟩) N (body.take N) := by
      have := BB4.take N (by omega)
      exact this
    rw [hM] at HM
    have hm48 : manyN N * 48 = body.length + 8 := by rw [hM, hK]; exact hk'
    clear hk hM
    by_cases ha : (body.drop N).all (· == 0) = false
    · rw [if_pos (.inr (.inr ha))] at HU
      clear eb hm48 hk' BT M4 BB4
      go_wp2_with fail
      refine HM.mono ?_
      rintro e w5 ⟨rfl, rfl⟩
      go_wp2_with fail
      refine (zeros_calls _ _ _ _ _ BD hn4 (by omega)).mono ?_
      rintro e w6 ⟨rfl, b6⟩
      rw [ha]
      go_wp2
      go_ret3
      exact ans_err 5 HU.out (B4.trans (b6.mono B4.size))
    have ha' : (body.drop N).all (· == 0) = true := by simpa using ha
    rw [if_neg (not_or.2 ⟨by simpa using hz0, not_or.2 ⟨by simpa using hm48, by simpa using ha'⟩⟩)] at HU
    clear ha eb hm48
    by_cases hb : 1000 < N
    · rw [if_pos hb] at HU
      have q6 : decide (1000 < (N : Int)) = true := by simp; omega
      clear hk' BT M4 hb
      go_wp2_with fail
      refine HM.mono ?_
      rintro e w5 ⟨rfl, rfl⟩
      go_wp2_with fail
      refine (zeros_calls _ _ _ _ _ BD hn4 (by omega)).mono ?_
      rintro e w6 ⟨rfl, b6⟩
      rw [ha']
      go_wp2
      go_ret3
      exact ans_err 6 HU.out (B4.trans (b6.mono B4.size))
    · rw [if_neg hb] at HU
      have q6 : decide (1000 < (N : Int)) = false := by simp; omega
      have hb' : N ≤ 1000 := by omega
      clear hb
      go_wp2_with fail
      refine HM.mono ?_
      rintro e w5 ⟨rfl, rfl⟩
      go_wp2_with fail
      refine (zeros_calls _ _ _ _ _ BD hn4 (by omega)).mono ?_
      rintro e w6 ⟨rfl, b6⟩
      rw [ha']
      have B6 := B4.trans (b6.mono B4.size)
      have BT6 := BT.below b6 hn4
      have M6 : w6.cell? ⟨b, off + K, none⟩ = some (.int .u8 (m.toNat : Int)) := (b6.cell (p := ⟨b, off + K, none⟩) (by show b < _; omega)).trans M4
      have hn6 := Nat.le_trans hn4 b6.size
      obtain ⟨mk, hmk⟩ : ∃ mk, m.toNat = mk := ⟨_, rfl⟩
      have HL : Hid ((body.take N).length = N) := by show _ = _; rw [List.length_take]; omega
      have HX : Hid (unpackN (body ++ [m, z, h, l, c0, c1, c2, c3]) = (body.take N, m, 0)) := HU
      have HK : Hid (m.toNat = mk) := hmk
      rw [hmk] at M6
      clear hmk HU BT BD BB4 B4 b6 M4 C4 hn4 q5 hk' ha' hz0
      go_wp2
      have hwn : w.heap.size ≤ w6.heap.size := B6.size
      have hNc : N ≤ cap := by omega
      refine wp_region_held_drew (S := (fun w' => w'.cell? ⟨b, off + K, none⟩ = some (.int .u8 mk))) (by kernel_rfl) M6 (fun hHeld => ?_)
      refine wpAnyH_take (i := 0) (oi := ({ dst := some 66, op := Op.move (Operand.tmp 6), type := 25, pos := _, after := #[], guard := none } : Oper)) (v := ?_) rfl (by kernel_rfl) (by kernel_rfl) (by kernel_rfl) (fun _ _ _ h => h) (Or.inl ⟨by rfl, ?_⟩) hHeld ?_
      rotate_left
      · (intro w hS; go_simp; try with_reducible rfl)
      try simp only [Act.put, List.setIfInBounds_toArray, List.set_cons_zero, List.set_cons_succ]
      refine wpAnyH_take (i := 1) (oi := ({ dst := some 67, op := Op.move (Operand.tmp 8), type := 3, pos := _, after := #[], guard := none } : Oper)) (v := ?_) rfl (by kernel_rfl) (by kernel_rfl) (by kernel_rfl) (fun _ _ _ h => h) (Or.inl ⟨by rfl, ?_⟩) hHeld ?_
      rotate_left
      · (intro w hS; go_simp; try with_reducible rfl)
      try simp only [Act.put, List.setIfInBounds_toArray, List.set_cons_zero, List.set_cons_succ]
      refine wpAnyH_take (i := 2) (oi := ({ dst := some 68, op := Op.slice 25 (Operand.tmp 66) none (some (Operand.tmp 67)) none, type := 25, pos := _, after := #[{ on := 0, ground := Ground.data }, { on := 1, ground := Ground.data }], guard := none } : Oper)) (v := ?_) rfl (by kernel_rfl) (by kernel_rfl) (by kernel_rfl) (fun _ _ _ h => h) (Or.inl ⟨by rfl, ?_⟩) hHeld ?_
      rotate_left
      · (intro w hS; go_simp; try with_reducible rfl)
      try simp only [Act.put, List.setIfInBounds_toArray, List.set_cons_zero, List.set_cons_succ]
      refine wpAnyH_take (i := 4) (oi := ({ dst := some 70, op := Op.move (Operand.tmp 7), type := 25, pos := _, after := #[{ on := 7, ground := Ground.gcOnly Departure.lateStores }], guard := none } : Oper)) (v := ?_) rfl (by kernel_rfl) (by kernel_rfl) (by kernel_rfl) (fun _ _ _ h => h) (Or.inl ⟨by rfl, ?_⟩) hHeld ?_
      rotate_left
      · (intro w hS; go_simp; try with_reducible rfl)
      try simp only [Act.put, List.setIfInBounds_toArray, List.set_cons_zero, List.set_cons_succ]
      refine wpAnyH_take (i := 5) (oi := ({ dst := some 71, op := Op.indexAddr 25 (Operand.tmp 70) (Operand.const (Value.int IntKind.i64 0)), type := 0, pos := _, after := #[{ on := 4, ground := Ground.data }, { on := 7, ground := Ground.gcOnly Departure.lateStores }], guard := none } : Oper)) (v := ?_) rfl (by kernel_rfl) (by kernel_rfl) (by kernel_rfl) (fun _ _ _ h => h) (Or.inl ⟨by rfl, ?_⟩) hHeld ?_
      rotate_left
      · (intro w hS; go_simp; try with_reducible rfl)
      try simp only [Act.put, List.setIfInBounds_toArray, List.set_cons_zero, List.set_cons_succ]
      refine wpAnyH_take (i := 6) (oi := ({ dst := some 72, op := Op.load 5 (Operand.tmp 71), type := 5, pos := _, after := #[{ on := 5, ground := Ground.data }, { on := 7, ground := Ground.gcOnly Departure.lateStores }], guard := none } : Oper)) (v := ?_) rfl (by kernel_rfl) (by kernel_rfl) (by kernel_rfl) (fun _ _ _ h => h) (Or.inl ⟨by rfl, ?_⟩) hHeld ?_
      rotate_left
      · (intro w hS; go_simp; try with_reducible rfl)
      try simp only [Act.put, List.setIfInBounds_toArray, List.set_cons_zero, List.set_cons_succ]
      refine wpAnyH_ready (rs := [3]) (by kernel_rfl) (by simp) ?_
      refine AllReadyH.cons (o := ({ dst := some 69, op := Op.call { callee := Callee.value (Operand.func 51), args := #[Operand.tmp 68], argTypes := #[25] }, type := 25, pos := _, after := #[{ on := 2, ground := Ground.data }], guard := none } : Oper)) rfl (fun K hK => ?_) AllReadyH.nil
      refine step_call (clone_calls _ _ _ _ _ (BT6.below ((Below.refl n w6).drew) (Nat.le_refl _)) hn6 (by intro h; cases h) (by omega)) (enters_of Tryd.func51 (by kernel_rfl) rfl) _ _ rfl rfl rfl ?_
      rintro e w7 ⟨a7, c7, rfl, o7, b7⟩
      skip
      refine ⟨_, rfl, hK.out _ _ ((b7.cell (p := ⟨b, _, none⟩) (by show b < w6.heap.size; omega)).trans M6) (fun hHeld => ?_)⟩
      clear hK K
      try simp only [Act.put, List.setIfInBounds_toArray, List.set_cons_zero, List.set_cons_succ]
      refine wpAnyH_take (i := 7) (oi := ({ dst := some 2, op := Op.assign (Operand.tmp 69), type := 25, pos := _, after := #[{ on := 3, ground := Ground.data }, { on := 3, ground := Ground.chain }, { on := 0, ground := Ground.phase }, { on := 1, ground := Ground.phase }, { on := 2, ground := Ground.phase }, { on := 3, ground := Ground.phase }, { on := 4, ground := Ground.textOnly Departure.lateStores }, { on := 5, ground := Ground.textOnly Departure.lateStores }, { on := 6, ground := Ground.textOnly Departure.lateStores }], guard := none } : Oper)) (v := ?_) rfl (by kernel_rfl) (by kernel_rfl) (by kernel_rfl) (fun _ _ _ h => h) (Or.inl ⟨by rfl, ?_⟩) hHeld ?_
      rotate_left
      · (intro w hS; go_simp; try with_reducible rfl)
      try simp only [Act.put, List.setIfInBounds_toArray, List.set_cons_zero, List.set_cons_succ]
      refine wpAnyH_take (i := 8) (oi := ({ dst := some 3, op := Op.assign (Operand.tmp 72), type := 5, pos := _, after := #[{ on := 6, ground := Ground.data }, { on := 7, ground := Ground.chain }, { on := 0, ground := Ground.phase }, { on := 1, ground := Ground.phase }, { on := 2, ground := Ground.phase }, { on := 3, ground := Ground.phase }, { on := 4, ground := Ground.phase }, { on := 5, ground := Ground.phase }, { on := 6, ground := Ground.phase }, { on := 7, ground := Ground.phase }], guard := none } : Oper)) (v := ?_) rfl (by kernel_rfl) (by kernel_rfl) (by kernel_rfl) (fun _ _ _ h => h) (Or.inl ⟨by rfl, ?_⟩) hHeld ?_
      rotate_left
      · (intro w hS; go_simp; try with_reducible rfl)
      try simp only [Act.put, List.setIfInBounds_toArray, List.set_cons_zero, List.set_cons_succ]
      refine wpAnyH_take (i := 9) (oi := ({ dst := some 4, op := Op.assign (Operand.const (Value.int IntKind.i64 0)), type := 28, pos := _, after := #[{ on := 8, ground := Ground.chain }, { on := 0, ground := Ground.phase }, { on := 1, ground := Ground.phase }, { on := 2, ground := Ground.phase }, { on := 3, ground := Ground.phase }, { on := 4, ground := Ground.phase }, { on := 5, ground := Ground.phase }, { on := 6, ground := Ground.phase }, { on := 7, ground := Ground.phase }, { on := 8, ground := Ground.phase }], guard := none } : Oper)) (v := ?_) rfl (by kernel_rfl) (by kernel_rfl) (by kernel_rfl) (fun _ _ _ h => h) (Or.inl ⟨by rfl, ?_⟩) hHeld ?_
      rotate_left
      · (intro w hS; go_simp; try with_reducible rfl)
      try simp only [Act.put, List.setIfInBounds_toArray, List.set_cons_zero, List.set_cons_succ]
      refine wpAnyH_done (by kernel_rfl) ?_ _
      clear hHeld
      go_wp2
      go_ret3
      exact ans_ok HX.out HL.out HK.out (o7.mono hwn) (B6.trans (((Below.refl w6.heap.size w6).drew.trans b7).mono hwn))
  · rw [if_pos hs] at HU
    have q3 : (((numN [c0, c1, c2, c3] : Nat) : Int) != ((longN (body ++ [m, z, h, l]) : Nat) : Int)) = true := by rw [bne_iff_ne]; omega
    generalize longN (body ++ [m, z, h, l]) = C at *
    generalize numN [c0, c1, c2, c3] = D at *
    clear hs
    go_wp2
    go_ret3
    exact ans_err 4 HU.out B2

theorem unpack_calls (a : Option Addr) (len cap : Nat) (zs : List UInt8) (w : World) {n : Nat} (h : IsB n w a len zs) (hn : n ≤ w.heap.size) (hcap : len ≤ cap) (hl : len ≤ 3000) :
    Calls Tryd.prog 26 #[.slice a len cap] w (UpAns zs w) := by
  by_cases hb : len = 0 ∨ len % 48 ≠ 0
  · exact unpack_form a len cap zs w h.1 hb hl
  · have hz := h.1
    obtain ⟨body, m, z, hh, l, c0, c1, c2, c3, rfl, _⟩ := split8 (b := zs) (by omega)
    obtain ⟨b, off, rfl, _, _⟩ := h.cell (k := body.length) (x := m) (by simp)
    have hl2 : len = body.length + 8 := by rw [hz]; simp
    subst hl2
    exact unpack_eight b off cap body.length body m z hh l c0 c1 c2 c3 w h hn rfl (by omega) hcap (by omega)
end Go.Proofs.YtbjeljmnknibnaaDoor.F
