/- Proved here: what conns.Put answers, and leaves. Conditions: as each theorem states them. -/
import Derived.Test.YtgimmaancnlbcaaSl
namespace Go.Proofs.Ytgimmaancnlbcaa
set_option linter.unusedSimpArgs false
set_option linter.unusedVariables false
open Go.RowKit Go.Shelf

theorem take_of {S L : List En} (hL : S.take L.length = L) {i : Nat} (hi : i ≤ L.length) : S.take i = L.take i := by
  rw [← hL, List.take_take]; congr 1; omega
theorem put_slots {S L : List En} (hS : S.length = 64) (hL : S.take L.length = L) {i : Nat} (hi : i ≤ L.length) (hl : L.length < 64) (e : En) {S1 : List En} (h1 : S1 = S.take (i + 1) ++ L.drop i ++ S.drop (i + 1 + (L.drop i).length)) :
    S1.length = 64 ∧ (S1.set i e).length = 64 ∧ (S1.set i e).take (L.length + 1) = L.take i ++ e :: L.drop i := by
  have hd : (L.drop i).length = L.length - i := List.length_drop
  have h64 : S1.length = 64 := by rw [h1]; simp only [List.length_append, List.length_take, List.length_drop]; omega
  refine ⟨h64, by rw [List.length_set]; exact h64, ?_⟩
  have hx : S.take (i + 1) = L.take i ++ [S[i]'(by omega)] := by rw [List.take_succ_eq_append_getElem (by omega), take_of hL hi]
  have hti : (L.take i).length = i := by rw [List.length_take]; omega
  rw [h1, hx, List.append_assoc, List.append_assoc, List.set_append_right _ _ (by omega), hti, Nat.sub_self, List.singleton_append, List.set_cons_zero, ← List.cons_append, ← List.append_assoc]
  exact List.take_left' (by simp only [List.length_append, List.length_cons, hd, hti]; omega)

set_option maxHeartbeats 800000 in
theorem put_nil (k : Ky) (n : Int) (w : World) : Calls Try.prog 12 #[.pointer none, keyV k, .int .i64 n] w fun e w' => e = .returned (.int .i64 9) ∧ Below w.heap.size w w' := by
  go_enter Try.func12, Try.ntmps12
  go_wp2
  go_ret
  exact ⟨rfl, below_box _ _⟩

set_option maxHeartbeats 4000000 in
set_option maxRecDepth 20000 in
theorem put_calls {w : World} {b : Nat} {L : List En} {room : Nat} (h : TB w b L room) (k : Ky) (n : Int) :
    Calls Try.prog 12 #[.pointer (some ⟨b, 0, none⟩), keyV k, .int .i64 n] w fun e w' => e = .returned (.int .i64 (putE L room k)) ∧ TB w' b (putL L room (k, n)) room ∧ But b w.heap.size w w' := by
  have K0 := bk_new w #[.int .i64 k.1, .int .i64 k.2.1, .int .i64 k.2.2] 24
  have B0 := below_box w (.cells #[.int .i64 k.1, .int .i64 k.2.1, .int .i64 k.2.2] 24)
  have T0 := h.below B0 h.lt
  have hok := h.ok
  have hlen := h.len
  have hlt := h.lt
  clear h
  go_enter Try.func12, Try.ntmps12
  go_wp2_with fail
  refine (right_calls k _).mono ?_
  rintro e w1 ⟨rfl, b1⟩
  have B1 := B0.trans (b1.mono B0.size)
  have T1 := T0.below b1 T0.lt
  have K1 := K0.below b1 K0.lt
  clear T0 K0 B0 b1
  cases hr : rightK k with
  | false =>
    have HR : Hid (rightK k = false) := hr
    clear hr
    go_wp2
    go_ret
    have e1 : putE L room k = 1 := by unfold putE; rw [if_pos HR.out]
    exact ⟨cret_int e1.symm, by unfold putL; rw [if_neg (by rw [e1]; decide)]; exact T1, But.of B1⟩
  | true =>
    have HR : Hid (rightK k = true) := hr
    clear hr
    have k0 := K1.cell 0 _ rfl
    have k1 := K1.cell 1 _ rfl
    have k2 := K1.cell 2 _ rfl
    go_wp2_with fail
    refine (find_calls T1 k).mono ?_
    rintro e w2 ⟨rfl, b2⟩
    have B2 := B1.trans (b2.mono B1.size)
    have T2 := T1.below b2 T1.lt
    have K2 := K1.below b2 K1.lt
    clear T1 K1 B1 b2 k0 k1 k2
    have hi := fnd_le L k
    cases hb : (fnd L k).2 with
    | true =>
      have HB : Hid ((fnd L k).2 = true) := hb
      clear hb
      go_wp2
      go_ret
      have e1 : putE L room k = 7 := by unfold putE; rw [if_neg (by rw [HR.out]; decide), if_pos HB.out]
      exact ⟨cret_int e1.symm, by unfold putL; rw [if_neg (by rw [e1]; decide)]; exact T2, But.of B2⟩
    | false =>
      have HB : Hid ((fnd L k).2 = false) := hb
      have HI : Hid (ins L (k, n) = L.take (fnd L k).1 ++ (k, n) :: L.drop (fnd L k).1) := ins_at (e := (k, n)) hb
      obtain ⟨i, hii⟩ : ∃ i, (fnd L k).1 = i := ⟨_, rfl⟩
      rw [hii] at hi HI ⊢
      clear hb hii
      obtain ⟨m1, m2⟩ := T2.many
      by_cases hfull : L.length = room
      · have HF : Hid (L.length = room) := hfull
        have hq : ((L.length : Int) == (room : Int)) = true := by simp [hfull]
        clear hfull
        go_wp2
        go_region
        go_wp2
        go_ret
        have e1 : putE L room k = 9 := by unfold putE; rw [if_neg (by rw [HR.out]; decide), if_neg (by rw [HB.out]; decide), if_pos HF.out]
        exact ⟨cret_int e1.symm, by unfold putL; rw [if_neg (by rw [e1]; decide)]; exact T2.drew, But.of B2.drew⟩
      · have hl64 : L.length < 64 := by have := hok.len; have := hok.room; omega
        have e1 : putE L room k = 0 := by unfold putE; rw [if_neg (by rw [HR.out]; decide), if_neg (by rw [HB.out]; decide), if_neg hfull]
        have HE : Hid (putE L room k = 0) := e1
        have HL : Hid (putL L room (k, n) = L.take i ++ (k, n) :: L.drop i ∧ Ok (putL L room (k, n)) room) := ⟨by unfold putL; rw [if_pos e1]; exact HI.out, hok.put _⟩
        have hq : ((L.length : Int) == (room : Int)) = false := by simp; omega
        obtain ⟨S, hSz, hSL, hKT⟩ := T2.ex
        have hdl : (S.drop i).take (L.length - i) = L.drop i := by rw [← List.drop_take, hSL]
        obtain ⟨S1, hS1⟩ : ∃ S1, S1 = S.take (i + 1) ++ L.drop i ++ S.drop (i + 1 + (L.drop i).length) := ⟨_, rfl⟩
        obtain ⟨l1, l2, l3⟩ := put_slots hSz hSL hi hl64 (k, n) hS1
        have hcp := fun (W : World) (hW : BK W b (tabV S (L.length : Int) (room : Int)) 62) ty dc sc o o' ho ho' => copy_slots hSz hW ty (i + 1) i (L.length - i) (64 - (i + 1)) dc (L.length - i) sc o o' ho ho' (by simp only [Nat.min_def]; split <;> omega) (by omega) (by omega)
        have hdd : (L.drop i).length = L.length - i := List.length_drop
        rw [hdd] at hS1
        rw [hdl, ← hS1] at hcp
        clear hS1 hdl
        have hw1 : IntKind.i64.wrap ((i : Int) + 1) = (i : Int) + 1 := by rw [IntKind.wrap_i64]; omega
        go_wp2
        go_region
        go_wp2
        refine wp_region_held_drew (S := (fun w' => w'.cell? ⟨b, 256, none⟩ = some (.int .i64 (L.length : Int)))) (by kernel_rfl) m1 (fun hHeld => ?_)
        refine wpAnyH_take (i := 0) (oi := ({ dst := some 30, op := Op.move (Operand.tmp 0), type := 26, pos := _, after := #[], guard := none } : Oper)) (v := ?_) rfl (by kernel_rfl) (by kernel_rfl) (by kernel_rfl) (fun _ _ _ h => h) (Or.inl ⟨by rfl, ?_⟩) hHeld ?_
        rotate_left
        · (intro w hS; go_simp; try with_reducible rfl)
        try simp only [Act.put, List.setIfInBounds_toArray, List.set_cons_zero, List.set_cons_succ]
        refine wpAnyH_take (i := 1) (oi := ({ dst := some 31, op := Op.nilCheck (Operand.tmp 30), type := 0, pos := _, after := #[{ on := 0, ground := Ground.data }], guard := none } : Oper)) (v := ?_) rfl (by kernel_rfl) (by kernel_rfl) (by kernel_rfl) (fun _ _ _ h => h) (Or.inl ⟨by rfl, ?_⟩) hHeld ?_
        rotate_left
        · (intro w hS; go_simp; try with_reducible rfl)
        try simp only [Act.put, List.setIfInBounds_toArray, List.set_cons_zero, List.set_cons_succ]
        refine wpAnyH_take (i := 2) (oi := ({ dst := some 32, op := Op.fieldAddr 62 (Operand.tmp 31) 0, type := 0, pos := _, after := #[{ on := 1, ground := Ground.data }], guard := none } : Oper)) (v := ?_) rfl (by kernel_rfl) (by kernel_rfl) (by kernel_rfl) (fun _ _ _ h => h) (Or.inl ⟨by rfl, ?_⟩) hHeld ?_
        rotate_left
        · (intro w hS; go_simp; try with_reducible rfl)
        try simp only [Act.put, List.setIfInBounds_toArray, List.set_cons_zero, List.set_cons_succ]
        refine wpAnyH_take (i := 3) (oi := ({ dst := some 33, op := Op.move (Operand.tmp 7), type := 3, pos := _, after := #[], guard := none } : Oper)) (v := ?_) rfl (by kernel_rfl) (by kernel_rfl) (by kernel_rfl) (fun _ _ _ h => h) (Or.inl ⟨by rfl, ?_⟩) hHeld ?_
        rotate_left
        · (intro w hS; go_simp; try with_reducible rfl)
        try simp only [Act.put, List.setIfInBounds_toArray, List.set_cons_zero, List.set_cons_succ]
        refine wpAnyH_take (i := 4) (oi := ({ dst := some 34, op := Op.binOp BinOp.add 3 (Operand.tmp 33) (Operand.const (Value.int IntKind.i64 1)) 3, type := 3, pos := _, after := #[{ on := 3, ground := Ground.data }], guard := none } : Oper)) (v := ?_) rfl (by kernel_rfl) (by kernel_rfl) (by kernel_rfl) (fun _ _ _ h => h) (Or.inl ⟨by rfl, ?_⟩) hHeld ?_
        rotate_left
        · (intro w hS; go_simp; try with_reducible rfl)
        try simp only [Act.put, List.setIfInBounds_toArray, List.set_cons_zero, List.set_cons_succ]
        refine wpAnyH_take (i := 5) (oi := ({ dst := some 35, op := Op.slice 60 (Operand.tmp 32) (some (Operand.tmp 34)) none none, type := 63, pos := _, after := #[{ on := 2, ground := Ground.data }, { on := 4, ground := Ground.data }], guard := none } : Oper)) (v := ?_) rfl (by kernel_rfl) (by kernel_rfl) (by kernel_rfl) (fun _ _ _ h => h) (Or.inl ⟨by rfl, ?_⟩) hHeld ?_
        rotate_left
        · (intro w hS; go_simp; rw [run_slot_l _ b _ (i + 1) (by omega) (by omega)]; rfl)
        try simp only [Act.put, List.setIfInBounds_toArray, List.set_cons_zero, List.set_cons_succ]
        refine wpAnyH_take (i := 6) (oi := ({ dst := some 36, op := Op.move (Operand.tmp 0), type := 26, pos := _, after := #[], guard := none } : Oper)) (v := ?_) rfl (by kernel_rfl) (by kernel_rfl) (by kernel_rfl) (fun _ _ _ h => h) (Or.inl ⟨by rfl, ?_⟩) hHeld ?_
        rotate_left
        · (intro w hS; go_simp; try with_reducible rfl)
        try simp only [Act.put, List.setIfInBounds_toArray, List.set_cons_zero, List.set_cons_succ]
        refine wpAnyH_take (i := 7) (oi := ({ dst := some 37, op := Op.nilCheck (Operand.tmp 36), type := 0, pos := _, after := #[{ on := 6, ground := Ground.data }], guard := none } : Oper)) (v := ?_) rfl (by kernel_rfl) (by kernel_rfl) (by kernel_rfl) (fun _ _ _ h => h) (Or.inl ⟨by rfl, ?_⟩) hHeld ?_
        rotate_left
        · (intro w hS; go_simp; try with_reducible rfl)
        try simp only [Act.put, List.setIfInBounds_toArray, List.set_cons_zero, List.set_cons_succ]
        refine wpAnyH_take (i := 8) (oi := ({ dst := some 38, op := Op.fieldAddr 62 (Operand.tmp 37) 0, type := 0, pos := _, after := #[{ on := 7, ground := Ground.data }], guard := none } : Oper)) (v := ?_) rfl (by kernel_rfl) (by kernel_rfl) (by kernel_rfl) (fun _ _ _ h => h) (Or.inl ⟨by rfl, ?_⟩) hHeld ?_
        rotate_left
        · (intro w hS; go_simp; try with_reducible rfl)
        try simp only [Act.put, List.setIfInBounds_toArray, List.set_cons_zero, List.set_cons_succ]
        refine wpAnyH_take (i := 9) (oi := ({ dst := some 39, op := Op.move (Operand.tmp 7), type := 3, pos := _, after := #[], guard := none } : Oper)) (v := ?_) rfl (by kernel_rfl) (by kernel_rfl) (by kernel_rfl) (fun _ _ _ h => h) (Or.inl ⟨by rfl, ?_⟩) hHeld ?_
        rotate_left
        · (intro w hS; go_simp; try with_reducible rfl)
        try simp only [Act.put, List.setIfInBounds_toArray, List.set_cons_zero, List.set_cons_succ]
        refine wpAnyH_take (i := 10) (oi := ({ dst := some 40, op := Op.move (Operand.tmp 0), type := 26, pos := _, after := #[], guard := none } : Oper)) (v := ?_) rfl (by kernel_rfl) (by kernel_rfl) (by kernel_rfl) (fun _ _ _ h => h) (Or.inl ⟨by rfl, ?_⟩) hHeld ?_
        rotate_left
        · (intro w hS; go_simp; try with_reducible rfl)
        try simp only [Act.put, List.setIfInBounds_toArray, List.set_cons_zero, List.set_cons_succ]
        refine wpAnyH_take (i := 11) (oi := ({ dst := some 41, op := Op.nilCheck (Operand.tmp 40), type := 0, pos := _, after := #[{ on := 10, ground := Ground.data }], guard := none } : Oper)) (v := ?_) rfl (by kernel_rfl) (by kernel_rfl) (by kernel_rfl) (fun _ _ _ h => h) (Or.inl ⟨by rfl, ?_⟩) hHeld ?_
        rotate_left
        · (intro w hS; go_simp; try with_reducible rfl)
        try simp only [Act.put, List.setIfInBounds_toArray, List.set_cons_zero, List.set_cons_succ]
        refine wpAnyH_take (i := 12) (oi := ({ dst := some 42, op := Op.fieldAddr 62 (Operand.tmp 41) 1, type := 0, pos := _, after := #[{ on := 11, ground := Ground.data }], guard := none } : Oper)) (v := ?_) rfl (by kernel_rfl) (by kernel_rfl) (by kernel_rfl) (fun _ _ _ h => h) (Or.inl ⟨by rfl, ?_⟩) hHeld ?_
        rotate_left
        · (intro w hS; go_simp; try with_reducible rfl)
        try simp only [Act.put, List.setIfInBounds_toArray, List.set_cons_zero, List.set_cons_succ]
        refine wpAnyH_take (i := 13) (oi := ({ dst := some 43, op := Op.load 3 (Operand.tmp 42), type := 3, pos := _, after := #[{ on := 12, ground := Ground.data }], guard := none } : Oper)) (v := ?_) rfl (by kernel_rfl) (by kernel_rfl) (by kernel_rfl) (fun _ _ _ h => h) (Or.inl ⟨by rfl, ?_⟩) hHeld ?_
        rotate_left
        · (intro w hS; go_simp; try with_reducible rfl)
        try simp only [Act.put, List.setIfInBounds_toArray, List.set_cons_zero, List.set_cons_succ]
        refine wpAnyH_take (i := 14) (oi := ({ dst := some 44, op := Op.slice 60 (Operand.tmp 38) (some (Operand.tmp 39)) (some (Operand.tmp 43)) none, type := 63, pos := _, after := #[{ on := 8, ground := Ground.data }, { on := 9, ground := Ground.data }, { on := 13, ground := Ground.data }], guard := none } : Oper)) (v := ?_) rfl (by kernel_rfl) (by kernel_rfl) (by kernel_rfl) (fun _ _ _ h => h) (Or.inl ⟨by rfl, ?_⟩) hHeld ?_
        rotate_left
        · (intro w hS; go_simp; rw [run_slot_lh _ b _ _ i L.length rfl rfl (by omega) (by omega)]; rfl)
        try simp only [Act.put, List.setIfInBounds_toArray, List.set_cons_zero, List.set_cons_succ]
        refine wpAnyH_ready (rs := [15]) (by kernel_rfl) (by simp) ?_
        refine AllReadyH.cons (o := ({ dst := some 45, op := Op.call { callee := Callee.builtin Builtin.copy, args := #[Operand.tmp 35, Operand.tmp 44], argTypes := #[63, 63] }, type := 3, pos := _, after := #[{ on := 5, ground := Ground.data }, { on := 14, ground := Ground.data }], guard := none } : Oper)) rfl (fun K hK => ?_) AllReadyH.nil
        refine step_copy_run (hcp _ (by exact hKT) _ _ _ _ _ rfl rfl) _ _ rfl rfl rfl rfl rfl ?_
        refine hK.out _ _ (cell_setRow (cur := tabV S (L.length : Int) (room : Int)) (t := 62) (by exact hKT) (tabV_many l1 _ _).1) (fun hHeld => ?_)
        clear hK K
        try simp only [Act.put, List.setIfInBounds_toArray, List.set_cons_zero, List.set_cons_succ]
        refine wpAnyH_done (by kernel_rfl) ?_ _
        skip
        generalize (if i + 1 = 64 then 0 else (i + 1) * 4) = o1
        generalize (if i = 64 then 0 else i * 4) = o2
        have hil : i < S1.length := by rw [l1]; omega
        have K3 : BK (w2.drew.drew.setRow b (tabV S1 (L.length : Int) (room : Int))) b (tabV S1 (L.length : Int) (room : Int)) 62 := bk_setRow (cur := tabV S (L.length : Int) (room : Int)) hKT _
        have Q3 : BK (w2.drew.drew.setRow b (tabV S1 (L.length : Int) (room : Int))) w.heap.size #[.int .i64 k.1, .int .i64 k.2.1, .int .i64 k.2.2] 24 := bk_setRow_other (show BK w2.drew.drew _ _ _ from K2) _ (by omega)
        have B3 : But b w.heap.size w (w2.drew.drew.setRow b (tabV S1 (L.length : Int) (room : Int))) := but_setRow (But.of B2.drew.drew) _
        generalize w2.drew.drew.setRow b (tabV S1 (L.length : Int) (room : Int)) = W3 at *
        obtain ⟨c0, c1, c2, c3⟩ := tabV_slot (m := (L.length : Int)) (r := (room : Int)) (List.getElem?_eq_getElem hil)
        replace c0 := K3.cell _ _ c0
        replace c1 := K3.cell _ _ c1
        replace c2 := K3.cell _ _ c2
        replace c3 := K3.cell _ _ c3
        rw [show i * 4 + 2 = i * 4 + 1 + 1 from rfl] at c2
        rw [show i * 4 + 3 = i * 4 + 1 + 1 + 1 from rfl] at c3
        have f0 := K3.frozen (i * 4)
        have f1 := K3.frozen (i * 4 + 1)
        have f2 := K3.frozen (i * 4 + 1 + 1)
        have f3 := K3.frozen (i * 4 + 1 + 1 + 1)
        have q0 := Q3.cell 0 _ rfl
        have q1 := Q3.cell 1 _ rfl
        have q2 := Q3.cell 2 _ rfl
        have K4 := ((((K3.set (i * 4) (.int .i64 k.1)).set (i * 4 + 1) (.int .i64 k.2.1)).set (i * 4 + 2) (.int .i64 k.2.2)).set (i * 4 + 3) (.int .i64 n)).drew
        rw [tabV_set (L.length : Int) (room : Int) hil (k, n)] at K4
        have B4 := ((((B3.set (p := ⟨b, i * 4, none⟩) rfl (.int .i64 k.1)).set (p := ⟨b, i * 4 + 1, none⟩) rfl (.int .i64 k.2.1)).set (p := ⟨b, i * 4 + 2, none⟩) rfl (.int .i64 k.2.2)).set (p := ⟨b, i * 4 + 3, none⟩) rfl (.int .i64 n)).drew
        clear hcp hKT K2 m1 m2 T2 hSz hSL hdd
        go_wp2
        go_region
        generalize ((((W3.setCell ⟨b, i * 4, none⟩ (.int .i64 k.1)).setCell ⟨b, i * 4 + 1, none⟩ (.int .i64 k.2.1)).setCell ⟨b, i * 4 + 2, none⟩ (.int .i64 k.2.2)).setCell ⟨b, i * 4 + 3, none⟩ (.int .i64 n)).drew = W4 at *
        have m1 := K4.cell 256 _ (tabV_many l2 _ _).1
        have fm := K4.frozen 256
        have K5 := K4.set 256 (.int .i64 ((L.length : Int) + 1))
        rw [tabV_setM l2] at K5
        have B5 := B4.set (p := ⟨b, 256, none⟩) rfl (.int .i64 ((L.length : Int) + 1))
        have hw2 : IntKind.i64.wrap ((L.length : Int) + 1) = (L.length : Int) + 1 := by rw [IntKind.wrap_i64]; omega
        have HK : Hid (S1.set i (k, n) = S1.set i (k, n)) := rfl
        clear c0 c1 c2 c3 f0 f1 f2 f3 q0 q1 q2 K3 Q3 B3 B4 K4
        go_wp2
        go_ret
        have hpl : (putL L room (k, n)).length = L.length + 1 := by
          rw [HL.out.1]; simp only [List.length_append, List.length_cons, List.length_take, List.length_drop]; omega
        refine ⟨by first | rfl | exact cret_int HE.out.symm, ⟨⟨S1.set i (k, n), l2, by rw [hpl, HL.out.1]; exact l3, ?_⟩, HL.out.2⟩, B5⟩
        rw [hpl]
        exact K5
end Go.Proofs.Ytgimmaancnlbcaa
