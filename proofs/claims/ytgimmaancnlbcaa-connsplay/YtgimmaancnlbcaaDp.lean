/- Proved here: what conns.Drop answers, and leaves. Conditions: as each theorem states them. -/
import Derived.Test.YtgimmaancnlbcaaSl
namespace Go.Proofs.Ytgimmaancnlbcaa
set_option linter.unusedSimpArgs false
set_option linter.unusedVariables false
open Go.RowKit Go.Shelf

theorem take_of' {S L : List En} (hL : S.take L.length = L) {i : Nat} (hi : i ≤ L.length) : S.take i = L.take i := by
  rw [← hL, List.take_take]; congr 1; omega
theorem drop_slots {S L : List En} (hS : S.length = 64) (hL : S.take L.length = L) {i : Nat} (hi : i < L.length) (hl : L.length ≤ 64) (e : En) {S1 : List En} (h1 : S1 = S.take i ++ L.drop (i + 1) ++ S.drop (i + (L.length - (i + 1)))) :
    S1.length = 64 ∧ (S1.set (L.length - 1) e).length = 64 ∧ (S1.set (L.length - 1) e).take (L.length - 1) = L.take i ++ L.drop (i + 1) := by
  have hd : (L.drop (i + 1)).length = L.length - (i + 1) := List.length_drop
  have h64 : S1.length = 64 := by rw [h1]; simp only [List.length_append, List.length_take, List.length_drop]; omega
  refine ⟨h64, by rw [List.length_set]; exact h64, ?_⟩
  have hti : (L.take i).length = i := by rw [List.length_take]; omega
  rw [List.take_set_of_le (by omega), h1, take_of' hL (by omega)]
  exact List.take_left' (by simp only [List.length_append, hd, hti]; omega)

set_option maxHeartbeats 800000 in
theorem drop_nil (k : Ky) (w : World) : Calls Try.prog 14 #[.pointer none, keyV k] w fun e w' => e = .returned (.tuple #[.int .i64 0, .bool false]) ∧ Below w.heap.size w w' := by
  have B0 := below_box w (.cells #[.int .i64 k.1, .int .i64 k.2.1, .int .i64 k.2.2] 24)
  go_enter Try.func14, Try.ntmps14
  go_wp2_with fail
  refine (find_nil k _).mono ?_
  rintro e w1 ⟨rfl, b1⟩
  go_wp2
  go_returns
  exact ⟨rfl, B0.trans (b1.mono B0.size)⟩

set_option maxHeartbeats 4000000 in
set_option maxRecDepth 20000 in
theorem drop_calls {w : World} {b : Nat} {L : List En} {room : Nat} (h : TB w b L room) (k : Ky) :
    Calls Try.prog 14 #[.pointer (some ⟨b, 0, none⟩), keyV k] w fun e w' => e = .returned (.tuple #[.int .i64 (getN L k), .bool (getB L k)]) ∧ TB w' b (del L k) room ∧ But b w.heap.size w w' := by
  have B0 := below_box w (.cells #[.int .i64 k.1, .int .i64 k.2.1, .int .i64 k.2.2] 24)
  have T0 := h.below B0 h.lt
  have hok := h.ok
  have hlen := h.len
  have hlt := h.lt
  clear h
  go_enter Try.func14, Try.ntmps14
  go_wp2_with fail
  refine (find_calls T0 k).mono ?_
  rintro e w2 ⟨rfl, b2⟩
  have B2 := B0.trans (b2.mono B0.size)
  have T2 := T0.below b2 T0.lt
  clear T0 B0 b2
  have hi := fnd_le L k
  have HO : Hid (Ok L room) := hok
  cases hb : (fnd L k).2 with
  | false =>
    have HB : Hid ((fnd L k).2 = false) := hb
    generalize (fnd L k).1 = i at *
    clear hok hb
    go_wp2
    go_returns
    exact ⟨ret_get (HO.out.get_no HB.out), by rw [del_none HO.out.srt HB.out]; exact T2, But.of B2⟩
  | true =>
    obtain ⟨x, hx, hk⟩ := fnd_there hb
    obtain ⟨s0, s1, s2, s3⟩ := T2.slot' hx
    have hi2 := fnd_lt hb
    have HG : Hid (getN L k = x.2 ∧ getB L k = true) := hok.get_yes hb hx
    have HD : Hid (del L k = L.take (fnd L k).1 ++ L.drop ((fnd L k).1 + 1)) := del_at hb
    obtain ⟨m1, m2⟩ := T2.many
    obtain ⟨S, hSz, hSL, hKT⟩ := T2.ex
    obtain ⟨i, hii⟩ : ∃ i, (fnd L k).1 = i := ⟨_, rfl⟩
    rw [hii] at hi hi2 HD s3 ⊢
    clear hx hk hok hb hii hi s0 s1 s2
    have hdl : (S.drop (i + 1)).take (L.length - (i + 1)) = L.drop (i + 1) := by rw [← List.drop_take, hSL]
    obtain ⟨S1, hS1⟩ : ∃ S1, S1 = S.take i ++ L.drop (i + 1) ++ S.drop (i + (L.length - (i + 1))) := ⟨_, rfl⟩
    obtain ⟨l1, l2, l3⟩ := drop_slots hSz hSL hi2 hlen zeroE hS1
    have hcp := fun (W : World) (hW : BK W b (tabV S (L.length : Int) (room : Int)) 62) ty dc sc o o' ho ho' => copy_slots hSz hW ty i (i + 1) (L.length - (i + 1)) (64 - i) dc (L.length - (i + 1)) sc o o' ho ho' (by simp only [Nat.min_def]; split <;> omega) (by omega) (by omega)
    rw [hdl, ← hS1] at hcp
    clear hS1 hdl
    have hw1 : IntKind.i64.wrap ((i : Int) + 1) = (i : Int) + 1 := by rw [IntKind.wrap_i64]; omega
    go_wp2
    refine wp_region_held_drew (S := (fun w' => w'.cell? ⟨b, 256, none⟩ = some (.int .i64 (L.length : Int)))) (by kernel_rfl) m1 (fun hHeld => ?_)
    refine wpAnyH_take (i := 0) (oi := ({ dst := some 24, op := Op.move (Operand.tmp 0), type := 26, pos := _, after := #[], guard := none } : Oper)) (v := ?_) rfl (by kernel_rfl) (by kernel_rfl) (by kernel_rfl) (fun _ _ _ h => h) (Or.inl ⟨by rfl, ?_⟩) hHeld ?_
    rotate_left
    · (intro w hS; go_simp; try with_reducible rfl)
    try simp only [Act.put, List.setIfInBounds_toArray, List.set_cons_zero, List.set_cons_succ]
    refine wpAnyH_take (i := 1) (oi := ({ dst := some 25, op := Op.nilCheck (Operand.tmp 24), type := 0, pos := _, after := #[{ on := 0, ground := Ground.data }], guard := none } : Oper)) (v := ?_) rfl (by kernel_rfl) (by kernel_rfl) (by kernel_rfl) (fun _ _ _ h => h) (Or.inl ⟨by rfl, ?_⟩) hHeld ?_
    rotate_left
    · (intro w hS; go_simp; try with_reducible rfl)
    try simp only [Act.put, List.setIfInBounds_toArray, List.set_cons_zero, List.set_cons_succ]
    refine wpAnyH_take (i := 2) (oi := ({ dst := some 26, op := Op.fieldAddr 62 (Operand.tmp 25) 0, type := 0, pos := _, after := #[{ on := 1, ground := Ground.data }], guard := none } : Oper)) (v := ?_) rfl (by kernel_rfl) (by kernel_rfl) (by kernel_rfl) (fun _ _ _ h => h) (Or.inl ⟨by rfl, ?_⟩) hHeld ?_
    rotate_left
    · (intro w hS; go_simp; try with_reducible rfl)
    try simp only [Act.put, List.setIfInBounds_toArray, List.set_cons_zero, List.set_cons_succ]
    refine wpAnyH_take (i := 3) (oi := ({ dst := some 27, op := Op.move (Operand.tmp 6), type := 3, pos := _, after := #[], guard := none } : Oper)) (v := ?_) rfl (by kernel_rfl) (by kernel_rfl) (by kernel_rfl) (fun _ _ _ h => h) (Or.inl ⟨by rfl, ?_⟩) hHeld ?_
    rotate_left
    · (intro w hS; go_simp; try with_reducible rfl)
    try simp only [Act.put, List.setIfInBounds_toArray, List.set_cons_zero, List.set_cons_succ]
    refine wpAnyH_take (i := 4) (oi := ({ dst := some 28, op := Op.slice 60 (Operand.tmp 26) (some (Operand.tmp 27)) none none, type := 63, pos := _, after := #[{ on := 2, ground := Ground.data }, { on := 3, ground := Ground.data }], guard := none } : Oper)) (v := ?_) rfl (by kernel_rfl) (by kernel_rfl) (by kernel_rfl) (fun _ _ _ h => h) (Or.inl ⟨by rfl, ?_⟩) hHeld ?_
    rotate_left
    · (intro w hS; go_simp; rw [run_slot_l _ b _ i (by omega) (by omega)]; rfl)
    try simp only [Act.put, List.setIfInBounds_toArray, List.set_cons_zero, List.set_cons_succ]
    refine wpAnyH_take (i := 5) (oi := ({ dst := some 29, op := Op.move (Operand.tmp 0), type := 26, pos := _, after := #[], guard := none } : Oper)) (v := ?_) rfl (by kernel_rfl) (by kernel_rfl) (by kernel_rfl) (fun _ _ _ h => h) (Or.inl ⟨by rfl, ?_⟩) hHeld ?_
    rotate_left
    · (intro w hS; go_simp; try with_reducible rfl)
    try simp only [Act.put, List.setIfInBounds_toArray, List.set_cons_zero, List.set_cons_succ]
    refine wpAnyH_take (i := 6) (oi := ({ dst := some 30, op := Op.nilCheck (Operand.tmp 29), type := 0, pos := _, after := #[{ on := 5, ground := Ground.data }], guard := none } : Oper)) (v := ?_) rfl (by kernel_rfl) (by kernel_rfl) (by kernel_rfl) (fun _ _ _ h => h) (Or.inl ⟨by rfl, ?_⟩) hHeld ?_
    rotate_left
    · (intro w hS; go_simp; try with_reducible rfl)
    try simp only [Act.put, List.setIfInBounds_toArray, List.set_cons_zero, List.set_cons_succ]
    refine wpAnyH_take (i := 7) (oi := ({ dst := some 31, op := Op.fieldAddr 62 (Operand.tmp 30) 0, type := 0, pos := _, after := #[{ on := 6, ground := Ground.data }], guard := none } : Oper)) (v := ?_) rfl (by kernel_rfl) (by kernel_rfl) (by kernel_rfl) (fun _ _ _ h => h) (Or.inl ⟨by rfl, ?_⟩) hHeld ?_
    rotate_left
    · (intro w hS; go_simp; try with_reducible rfl)
    try simp only [Act.put, List.setIfInBounds_toArray, List.set_cons_zero, List.set_cons_succ]
    refine wpAnyH_take (i := 8) (oi := ({ dst := some 32, op := Op.move (Operand.tmp 6), type := 3, pos := _, after := #[], guard := none } : Oper)) (v := ?_) rfl (by kernel_rfl) (by kernel_rfl) (by kernel_rfl) (fun _ _ _ h => h) (Or.inl ⟨by rfl, ?_⟩) hHeld ?_
    rotate_left
    · (intro w hS; go_simp; try with_reducible rfl)
    try simp only [Act.put, List.setIfInBounds_toArray, List.set_cons_zero, List.set_cons_succ]
    refine wpAnyH_take (i := 9) (oi := ({ dst := some 33, op := Op.binOp BinOp.add 3 (Operand.tmp 32) (Operand.const (Value.int IntKind.i64 1)) 3, type := 3, pos := _, after := #[{ on := 8, ground := Ground.data }], guard := none } : Oper)) (v := ?_) rfl (by kernel_rfl) (by kernel_rfl) (by kernel_rfl) (fun _ _ _ h => h) (Or.inl ⟨by rfl, ?_⟩) hHeld ?_
    rotate_left
    · (intro w hS; go_simp; try with_reducible rfl)
    try simp only [Act.put, List.setIfInBounds_toArray, List.set_cons_zero, List.set_cons_succ]
    refine wpAnyH_take (i := 10) (oi := ({ dst := some 34, op := Op.move (Operand.tmp 0), type := 26, pos := _, after := #[], guard := none } : Oper)) (v := ?_) rfl (by kernel_rfl) (by kernel_rfl) (by kernel_rfl) (fun _ _ _ h => h) (Or.inl ⟨by rfl, ?_⟩) hHeld ?_
    rotate_left
    · (intro w hS; go_simp; try with_reducible rfl)
    try simp only [Act.put, List.setIfInBounds_toArray, List.set_cons_zero, List.set_cons_succ]
    refine wpAnyH_take (i := 11) (oi := ({ dst := some 35, op := Op.nilCheck (Operand.tmp 34), type := 0, pos := _, after := #[{ on := 10, ground := Ground.data }], guard := none } : Oper)) (v := ?_) rfl (by kernel_rfl) (by kernel_rfl) (by kernel_rfl) (fun _ _ _ h => h) (Or.inl ⟨by rfl, ?_⟩) hHeld ?_
    rotate_left
    · (intro w hS; go_simp; try with_reducible rfl)
    try simp only [Act.put, List.setIfInBounds_toArray, List.set_cons_zero, List.set_cons_succ]
    refine wpAnyH_take (i := 12) (oi := ({ dst := some 36, op := Op.fieldAddr 62 (Operand.tmp 35) 1, type := 0, pos := _, after := #[{ on := 11, ground := Ground.data }], guard := none } : Oper)) (v := ?_) rfl (by kernel_rfl) (by kernel_rfl) (by kernel_rfl) (fun _ _ _ h => h) (Or.inl ⟨by rfl, ?_⟩) hHeld ?_
    rotate_left
    · (intro w hS; go_simp; try with_reducible rfl)
    try simp only [Act.put, List.setIfInBounds_toArray, List.set_cons_zero, List.set_cons_succ]
    refine wpAnyH_take (i := 13) (oi := ({ dst := some 37, op := Op.load 3 (Operand.tmp 36), type := 3, pos := _, after := #[{ on := 12, ground := Ground.data }], guard := none } : Oper)) (v := ?_) rfl (by kernel_rfl) (by kernel_rfl) (by kernel_rfl) (fun _ _ _ h => h) (Or.inl ⟨by rfl, ?_⟩) hHeld ?_
    rotate_left
    · (intro w hS; go_simp; try with_reducible rfl)
    try simp only [Act.put, List.setIfInBounds_toArray, List.set_cons_zero, List.set_cons_succ]
    refine wpAnyH_take (i := 14) (oi := ({ dst := some 38, op := Op.slice 60 (Operand.tmp 31) (some (Operand.tmp 33)) (some (Operand.tmp 37)) none, type := 63, pos := _, after := #[{ on := 7, ground := Ground.data }, { on := 9, ground := Ground.data }, { on := 13, ground := Ground.data }], guard := none } : Oper)) (v := ?_) rfl (by kernel_rfl) (by kernel_rfl) (by kernel_rfl) (fun _ _ _ h => h) (Or.inl ⟨by rfl, ?_⟩) hHeld ?_
    rotate_left
    · (intro w hS; go_simp; rw [run_slot_lh _ b _ _ (i + 1) L.length (by omega) (by omega) (by omega) (by omega)]; rfl)
    try simp only [Act.put, List.setIfInBounds_toArray, List.set_cons_zero, List.set_cons_succ]
    refine wpAnyH_ready (rs := [15]) (by kernel_rfl) (by simp) ?_
    refine AllReadyH.cons (o := ({ dst := some 39, op := Op.call { callee := Callee.builtin Builtin.copy, args := #[Operand.tmp 28, Operand.tmp 38], argTypes := #[63, 63] }, type := 3, pos := _, after := #[{ on := 4, ground := Ground.data }, { on := 14, ground := Ground.data }], guard := none } : Oper)) rfl (fun K hK => ?_) AllReadyH.nil
    refine step_copy_run (hcp _ (by exact hKT) _ _ _ _ _ rfl rfl) _ _ rfl rfl rfl rfl rfl ?_
    refine hK.out _ _ (cell_setRow (cur := tabV S (L.length : Int) (room : Int)) (t := 62) (by exact hKT) (tabV_many l1 _ _).1) (fun hHeld => ?_)
    clear hK K
    try simp only [Act.put, List.setIfInBounds_toArray, List.set_cons_zero, List.set_cons_succ]
    refine wpAnyH_done (by kernel_rfl) ?_ _
    skip
    generalize (if i + 1 = 64 then 0 else (i + 1) * 4) = o1
    generalize (if i = 64 then 0 else i * 4) = o2
    have K3 : BK (w2.drew.setRow b (tabV S1 (L.length : Int) (room : Int))) b (tabV S1 (L.length : Int) (room : Int)) 62 := bk_setRow (cur := tabV S (L.length : Int) (room : Int)) hKT _
    have B3 : But b w.heap.size w (w2.drew.setRow b (tabV S1 (L.length : Int) (room : Int))) := but_setRow (But.of B2.drew) _
    generalize w2.drew.setRow b (tabV S1 (L.length : Int) (room : Int)) = W3 at *
    have n1 := K3.cell 256 _ (tabV_many l1 _ _).1
    have fm := K3.frozen 256
    have K4 := K3.set 256 (.int .i64 ((L.length : Int) - 1))
    rw [tabV_setM l1] at K4
    have B4 := B3.set (p := ⟨b, 256, none⟩) rfl (.int .i64 ((L.length : Int) - 1))
    obtain ⟨m, hm⟩ : ∃ m, L.length = m + 1 := ⟨L.length - 1, by omega⟩
    obtain ⟨W4, hW4⟩ : ∃ W4, W3.setCell ⟨b, 256, none⟩ (.int .i64 ((L.length : Int) - 1)) = W4 := ⟨_, rfl⟩
    rw [hW4] at K4 B4
    have e5 : (L.length : Int) - 1 = (m : Int) := by omega
    have e6 : L.length - 1 = m := by omega
    rw [e5] at K4
    have p1 := K4.cell 256 _ (tabV_many l1 _ _).1
    have hml : m < S1.length := by omega
    obtain ⟨c0, c1, c2, c3⟩ := tabV_slot (m := (m : Int)) (r := (room : Int)) (List.getElem?_eq_getElem hml)
    replace c0 := K4.cell _ _ c0
    replace c1 := K4.cell _ _ c1
    replace c2 := K4.cell _ _ c2
    replace c3 := K4.cell _ _ c3
    rw [show m * 4 + 2 = m * 4 + 1 + 1 from rfl] at c2
    rw [show m * 4 + 3 = m * 4 + 1 + 1 + 1 from rfl] at c3
    have f0 := K4.frozen (m * 4)
    have f1 := K4.frozen (m * 4 + 1)
    have f2 := K4.frozen (m * 4 + 1 + 1)
    have f3 := K4.frozen (m * 4 + 1 + 1 + 1)
    have K5 := ((((K4.set (m * 4) (.int .i64 0)).set (m * 4 + 1) (.int .i64 0)).set (m * 4 + 2) (.int .i64 0)).set (m * 4 + 3) (.int .i64 0)).drew
    have hz : ((((tabV S1 (m : Int) (room : Int)).setIfInBounds (m * 4) (.int .i64 0)).setIfInBounds (m * 4 + 1) (.int .i64 0)).setIfInBounds (m * 4 + 2) (.int .i64 0)).setIfInBounds (m * 4 + 3) (.int .i64 0) = tabV (S1.set m zeroE) (m : Int) (room : Int) := tabV_set (m : Int) (room : Int) hml zeroE
    rw [hz] at K5
    have B5 := ((((B4.set (p := ⟨b, m * 4, none⟩) rfl (.int .i64 0)).set (p := ⟨b, m * 4 + 1, none⟩) rfl (.int .i64 0)).set (p := ⟨b, m * 4 + 2, none⟩) rfl (.int .i64 0)).set (p := ⟨b, m * 4 + 3, none⟩) rfl (.int .i64 0)).drew
    have hm64 : m < 64 := by omega
    rw [e6] at l2 l3
    have L2 : Hid ((S1.set m zeroE).length = 64) := l2
    have L3 : Hid ((S1.set m zeroE).take m = L.take i ++ L.drop (i + 1)) := l3
    have EM : Hid (L.length = m + 1) := hm
    have hw2 : IntKind.i64.wrap ((L.length : Int) - 1) = (m : Int) := by rw [IntKind.wrap_i64]; omega
    rw [e5] at hW4
    clear hcp hKT m1 m2 T2 hSz hSL K3 B2 B3 B4 K4 l2 l3 e5 e6
    have HI2 : Hid (i < L.length) := hi2
    clear hm hlen hi2 s3
    go_wp2
    go_region
    generalize ((((W4.setCell ⟨b, m * 4, none⟩ (.int .i64 0)).setCell ⟨b, m * 4 + 1, none⟩ (.int .i64 0)).setCell ⟨b, m * 4 + 2, none⟩ (.int .i64 0)).setCell ⟨b, m * 4 + 3, none⟩ (.int .i64 0)).drew = W5 at *
    go_wp2
    go_returns
    have hdel : (del L k).length = m := by
      have := EM.out
      have := HI2.out
      rw [HD.out]; simp only [List.length_append, List.length_take, List.length_drop]; omega
    refine ⟨ret_get HG.out, ⟨⟨S1.set m zeroE, L2.out, by rw [hdel, HD.out]; exact L3.out, ?_⟩, HO.out.del k⟩, B5⟩
    rw [hdel]
    exact K5
end Go.Proofs.Ytgimmaancnlbcaa
