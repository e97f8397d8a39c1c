/- Proved here: the walk of LedgerPlays. Conditions: as each theorem states them. -/
import Derived.Test.YtpljpndegadckaaAw
import Derived.Test.YtpljpndegadckaaAl
import Derived.Test.YtpljpndegadckaaRb
namespace Go.Proofs.Ytpljpndegadckaa
set_option linter.unusedSimpArgs false
set_option linter.unusedVariables false
open Go.RowKit Go.Shelf

theorem RV.next {w w' : World} {q m b mb n : Nat} {L L' : List En} {room r' : Int} (h : RV w q L room) (hb : But2 b mb m w w') (hm : w.heap.size ≤ m) (hx : XV w b mb L' r' n) (hq : b < q ∧ mb < q) : RV w' q L room := h.x hb hm hx (by omega)
theorem XV.q {w w' : World} {b mb n m q : Nat} {L : List En} {room : Int} (h : XV w b mb L room n) (hb : But q m w w') (hm : w.heap.size ≤ m) (hq : b < q ∧ mb < q) : XV w' b mb L room n :=
  h.same (hb.block b (by have := h.lt; omega) (by omega)) (hb.block mb (by have := h.mlt; omega) (by omega))

set_option maxHeartbeats 8000000 in
set_option maxRecDepth 20000 in
theorem plays_walk (r0 : Int) (s : Option Addr) (len cap : Nat) (M : List Op3) (id : Int) (hid : okI id) (w : World) (hL : IsO w.heap.size w s len M) (hwf : ∀ x ∈ M, okI x.1 ∧ okI x.2.1 ∧ okI x.2.2) :
    Calls Try.prog 3 #[.int .i64 r0, .slice s len cap, .int .i64 id] w fun e w' => e = .returned (.bool true) ∧ Below w.heap.size w w' := by
  by_cases hl1 : 100 < len
  · have q1 : decide (100 < (len : Int)) = true := by simp; omega
    clear hL
    go_enter Try.func3, Try.ntmps3
    go_wp2_with fail
    refine (awake_calls _).mono ?_
    rintro e w1 ⟨rfl, b1⟩
    go_wp2_with fail
    refine (awake_calls _).mono ?_
    rintro e w2 ⟨rfl, b2⟩
    go_wp2
    go_ret
    exact ⟨rfl, b1.trans (b2.mono b1.size)⟩
  · have q1 : decide (100 < (len : Int)) = false := by simp; omega
    have hl100 : len ≤ 100 := by omega
    go_enter Try.func3, Try.ntmps3
    go_wp2_with fail
    refine (awake_calls _).mono ?_
    rintro x w1 ⟨rfl, b1⟩
    go_wp2_with fail
    refine (new_calls r0 _).mono ?_
    rintro x w2 ⟨rfl, X2, b2⟩
    have B2 : Below w.heap.size w w2 := b1.trans (b2.mono b1.size)
    have hb : w.heap.size ≤ w1.heap.size + 1 := by have := b1.size; omega
    have hmb : w.heap.size ≤ w1.heap.size := b1.size
    clear b1 b2 hl1
    generalize w1.heap.size + 1 = b at *
    generalize w1.heap.size = mb at *
    clear w1
    go_wp2_with fail
    refine (rnew_calls r0 _).mono ?_
    rintro x w3 ⟨rfl, R3, b3⟩
    have X3 := X2.below b3 (Nat.le_refl _)
    have B3 := B2.trans (b3.mono B2.size)
    have hq : b < w2.heap.size ∧ mb < w2.heap.size := ⟨X2.lt, X2.mlt⟩
    have hqw : w.heap.size ≤ w2.heap.size := B2.size
    clear X2 B2 b3
    generalize w2.heap.size = q at *
    generalize roomN r0 = room at *
    clear w2
    go_wp2
    go_loopw [35] (fun iv wr => ∃ (i : Nat) (L : List En), i ≤ len ∧ iv = .int .i64 i ∧ XV wr b mb L room i ∧ RV wr q L room ∧ Below w.heap.size w wr) (fun iv _ => len - (intOf iv).toNat)
    case atStart => exact ⟨0, [], Nat.zero_le _, rfl, X3, R3, B3⟩
    case round =>
      obtain ⟨i, L, hi, rfl, X4, R4, B4⟩ := hrel
      clear X3 R3 B3
      by_cases hlt : i < len
      · obtain ⟨g, off, x, rfl, hg, hx, hc⟩ := hL.at hlt
        have hxw := hwf x (List.mem_of_getElem? hx)
        obtain ⟨c0, c1, c2⟩ := hc _ B4
        obtain ⟨d, k, z⟩ := x
        simp only at c0 c1 c2
        have K5 := bk_new wr #[.int .i64 d, .int .i64 k, .int .i64 z] 29
        have b5 := below_box wr (.cells #[.int .i64 d, .int .i64 k, .int .i64 z] 29)
        have X5 := X4.below b5 (Nat.le_refl _)
        have R5 := R4.below b5 (Nat.le_refl _)
        have B5 := B4.trans (b5.mono B4.size)
        have o0 := K5.cell 0 _ rfl
        have o1 := K5.cell 1 _ rfl
        have o2 := K5.cell 2 _ rfl
        have hbo : b < wr.heap.size ∧ mb < wr.heap.size := ⟨X4.lt, X4.mlt⟩
        have hwo : w.heap.size ≤ wr.heap.size := B4.size
        have ln4 : L.length ≤ i := X4.len
        have ho4 := X4.ok
        have hdo := do_calls X5 (by omega) (d, k, z) hxw
        clear hx hc X4 R4 B4 b5
        go_wp2_with fail
        generalize wr.alloc (.cells #[.int .i64 d, .int .i64 k, .int .i64 z] 29) = w5 at *
        generalize wr.heap.size = bo at *
        clear c0 c1 c2
        refine hdo.mono ?_
        rintro e w6 ⟨rfl, X6, q6⟩
        have R6 := R5.next q6 (Nat.le_refl _) X5 hq
        have B6 := B5.trans (q6.below B5.size hb hmb)
        have K6 := K5.but2 q6 K5.lt (by omega) (by omega)
        have ln6 : (doL L room (d, k, z)).length ≤ i + 1 := X6.len
        clear hdo X5 R5 B5 K5 q6 o0 o1 o2
        have o0 := K6.cell 0 _ rfl
        have o1 := K6.cell 1 _ rfl
        have o2 := K6.cell 2 _ rfl
        by_cases h1 : d = 1
        · have e1 : doE L room (d, k, z) = bookE L room k z ∧ doN L (d, k, z) = 0 ∧ doL L room (d, k, z) = bookL L room k z := by subst h1; exact ⟨by rfl, by rfl, by rfl⟩
          have d1 : (d == 1) = true := by simpa using h1
          have hr := rbook_calls R6 ho4 (by omega) k z
          rw [e1.1, e1.2.1]
          rw [e1.2.2] at X6 ln6
          clear h1 e1 hxw
          generalize bookE L room k z = E at *
          generalize bookL L room k z = LL at *
          go_wp2_with fail
          refine hr.mono ?_
          rintro e w7 ⟨rfl, R7, q7⟩
          have X7 := X6.q q7 (Nat.le_refl _) hq
          have B7 := B6.trans (q7.below B6.size hqw)
          clear hr X6 R6 B6 K6 q7 o0 o1 o2
          go_wp2_with fail
          refine (get_calls X7 hid).mono ?_
          rintro e w8 ⟨rfl, e8⟩
          rw [e8]
          clear e8
          go_wp2_with fail
          refine (rget_calls R7 (by omega) id).mono ?_
          rintro e w9 ⟨rfl, e9⟩
          rw [e9]
          clear e9
          have X8 := X7.drew
          have R8 := R7.drew
          obtain ⟨a8, c8, K8, E8⟩ := R8.ex
          have q0 := K8.cell 0 _ rfl
          have q1 := K8.cell 1 _ rfl
          have ho8 := X8.ok
          have hnn := ho8.nn
          have hsum := ho8.sum
          have hrm := ho8.room
          have hws : IntKind.i64.wrap (room - sumL LL) = room - sumL LL := by rw [IntKind.wrap_i64]; omega
          have hn1 : (E != E) = false := by simp
          have hn2 : ((0 : Int) != (0 : Int)) = false := by simp
          have hn3 : (getN LL id != getN LL id) = false := by simp
          have hn4 : (getB LL id != getB LL id) = false := by simp
          have hn5 : (sumL LL != sumL LL) = false := by simp
          have hn6 : (room - sumL LL != room - sumL LL) = false := by simp
          clear hnn hsum hrm
          go_wp2_with fail
          refine wp_region_held_drew (S := (fun w' => w'.cell? ⟨q, 0, none⟩ = some (.int .i64 room) ∧ w'.cell? ⟨q, 1, none⟩ = some (.slice a8 LL.length c8))) (by kernel_rfl) ⟨q0, q1⟩ (fun hHeld => ?_)
          refine wpAnyH_take (i := 0) (oi := ({ dst := some 87, op := Op.move (Operand.tmp 11), type := 30, pos := _, after := #[], guard := none } : Oper)) (v := ?_) rfl (by kernel_rfl) (by kernel_rfl) (by kernel_rfl) (fun _ _ _ h => h) (Or.inl ⟨by rfl, ?_⟩) hHeld ?_
          rotate_left
          · (intro w hS; go_simp; try with_reducible rfl)
          try simp only [Act.put, List.setIfInBounds_toArray, List.set_cons_zero, List.set_cons_succ]
          refine wpAnyH_take (i := 1) (oi := ({ dst := some 88, op := Op.move (Operand.tmp 13), type := 3, pos := _, after := #[], guard := none } : Oper)) (v := ?_) rfl (by kernel_rfl) (by kernel_rfl) (by kernel_rfl) (fun _ _ _ h => h) (Or.inl ⟨by rfl, ?_⟩) hHeld ?_
          rotate_left
          · (intro w hS; go_simp; try with_reducible rfl)
          try simp only [Act.put, List.setIfInBounds_toArray, List.set_cons_zero, List.set_cons_succ]
          refine wpAnyH_take (i := 2) (oi := ({ dst := some 89, op := Op.binOp BinOp.neq 3 (Operand.tmp 87) (Operand.tmp 88) 3, type := 4, pos := _, after := #[{ on := 0, ground := Ground.data }, { on := 1, ground := Ground.data }], guard := none } : Oper)) (v := ?_) rfl (by kernel_rfl) (by kernel_rfl) (by kernel_rfl) (fun _ _ _ h => h) (Or.inl ⟨by rfl, ?_⟩) hHeld ?_
          rotate_left
          · (intro w hS; go_simp; try with_reducible rfl)
          try simp only [Act.put, List.setIfInBounds_toArray, List.set_cons_zero, List.set_cons_succ]
          try rw [hn1]
          refine wpAnyH_take (i := 3) (oi := ({ dst := some 90, op := Op.move (Operand.tmp 89), type := 4, pos := _, after := #[{ on := 2, ground := Ground.data }], guard := none } : Oper)) (v := ?_) rfl (by kernel_rfl) (by kernel_rfl) (by kernel_rfl) (fun _ _ _ h => h) (Or.inl ⟨by rfl, ?_⟩) hHeld ?_
          rotate_left
          · (intro w hS; go_simp; try with_reducible rfl)
          try simp only [Act.put, List.setIfInBounds_toArray, List.set_cons_zero, List.set_cons_succ]
          refine wpAnyH_take (i := 4) (oi := ({ dst := some 91, op := Op.move (Operand.tmp 12), type := 3, pos := _, after := #[{ on := 3, ground := Ground.guard }], guard := some (3, false) } : Oper)) (v := ?_) rfl (by kernel_rfl) (by kernel_rfl) (by kernel_rfl) (fun _ _ _ h => h) (Or.inl ⟨by rfl, ?_⟩) hHeld ?_
          rotate_left
          · (intro w hS; go_simp; try with_reducible rfl)
          try simp only [Act.put, List.setIfInBounds_toArray, List.set_cons_zero, List.set_cons_succ]
          refine wpAnyH_take (i := 5) (oi := ({ dst := some 92, op := Op.move (Operand.tmp 14), type := 3, pos := _, after := #[{ on := 3, ground := Ground.guard }], guard := some (3, false) } : Oper)) (v := ?_) rfl (by kernel_rfl) (by kernel_rfl) (by kernel_rfl) (fun _ _ _ h => h) (Or.inl ⟨by rfl, ?_⟩) hHeld ?_
          rotate_left
          · (intro w hS; go_simp; try with_reducible rfl)
          try simp only [Act.put, List.setIfInBounds_toArray, List.set_cons_zero, List.set_cons_succ]
          refine wpAnyH_take (i := 6) (oi := ({ dst := some 93, op := Op.binOp BinOp.neq 3 (Operand.tmp 91) (Operand.tmp 92) 3, type := 4, pos := _, after := #[{ on := 4, ground := Ground.data }, { on := 5, ground := Ground.data }, { on := 3, ground := Ground.guard }], guard := some (3, false) } : Oper)) (v := ?_) rfl (by kernel_rfl) (by kernel_rfl) (by kernel_rfl) (fun _ _ _ h => h) (Or.inl ⟨by rfl, ?_⟩) hHeld ?_
          rotate_left
          · (intro w hS; go_simp; try with_reducible rfl)
          try simp only [Act.put, List.setIfInBounds_toArray, List.set_cons_zero, List.set_cons_succ]
          try rw [hn2]
          refine wpAnyH_take (i := 7) (oi := ({ dst := some 94, op := Op.pick (Operand.tmp 90) (Operand.const (Value.bool true)) (Operand.tmp 93), type := 4, pos := _, after := #[{ on := 3, ground := Ground.data }, { on := 6, ground := Ground.data }], guard := none } : Oper)) (v := ?_) rfl (by kernel_rfl) (by kernel_rfl) (by kernel_rfl) (fun _ _ _ h => h) (Or.inl ⟨by rfl, ?_⟩) hHeld ?_
          rotate_left
          · (intro w hS; go_simp; try with_reducible rfl)
          try simp only [Act.put, List.setIfInBounds_toArray, List.set_cons_zero, List.set_cons_succ]
          refine wpAnyH_take (i := 8) (oi := ({ dst := some 95, op := Op.move (Operand.tmp 94), type := 4, pos := _, after := #[{ on := 7, ground := Ground.data }, { on := 3, ground := Ground.chain }], guard := none } : Oper)) (v := ?_) rfl (by kernel_rfl) (by kernel_rfl) (by kernel_rfl) (fun _ _ _ h => h) (Or.inl ⟨by rfl, ?_⟩) hHeld ?_
          rotate_left
          · (intro w hS; go_simp; try with_reducible rfl)
          try simp only [Act.put, List.setIfInBounds_toArray, List.set_cons_zero, List.set_cons_succ]
          refine wpAnyH_take (i := 9) (oi := ({ dst := some 96, op := Op.move (Operand.tmp 15), type := 3, pos := _, after := #[{ on := 8, ground := Ground.guard }], guard := some (8, false) } : Oper)) (v := ?_) rfl (by kernel_rfl) (by kernel_rfl) (by kernel_rfl) (fun _ _ _ h => h) (Or.inl ⟨by rfl, ?_⟩) hHeld ?_
          rotate_left
          · (intro w hS; go_simp; try with_reducible rfl)
          try simp only [Act.put, List.setIfInBounds_toArray, List.set_cons_zero, List.set_cons_succ]
          refine wpAnyH_take (i := 10) (oi := ({ dst := some 97, op := Op.move (Operand.tmp 17), type := 3, pos := _, after := #[{ on := 8, ground := Ground.guard }], guard := some (8, false) } : Oper)) (v := ?_) rfl (by kernel_rfl) (by kernel_rfl) (by kernel_rfl) (fun _ _ _ h => h) (Or.inl ⟨by rfl, ?_⟩) hHeld ?_
          rotate_left
          · (intro w hS; go_simp; try with_reducible rfl)
          try simp only [Act.put, List.setIfInBounds_toArray, List.set_cons_zero, List.set_cons_succ]
          refine wpAnyH_take (i := 11) (oi := ({ dst := some 98, op := Op.binOp BinOp.neq 3 (Operand.tmp 96) (Operand.tmp 97) 3, type := 4, pos := _, after := #[{ on := 9, ground := Ground.data }, { on := 10, ground := Ground.data }, { on := 8, ground := Ground.guard }], guard := some (8, false) } : Oper)) (v := ?_) rfl (by kernel_rfl) (by kernel_rfl) (by kernel_rfl) (fun _ _ _ h => h) (Or.inl ⟨by rfl, ?_⟩) hHeld ?_
          rotate_left
          · (intro w hS; go_simp; try with_reducible rfl)
          try simp only [Act.put, List.setIfInBounds_toArray, List.set_cons_zero, List.set_cons_succ]
          try rw [hn3]
          refine wpAnyH_take (i := 12) (oi := ({ dst := some 99, op := Op.pick (Operand.tmp 95) (Operand.const (Value.bool true)) (Operand.tmp 98), type := 4, pos := _, after := #[{ on := 8, ground := Ground.data }, { on := 11, ground := Ground.data }], guard := none } : Oper)) (v := ?_) rfl (by kernel_rfl) (by kernel_rfl) (by kernel_rfl) (fun _ _ _ h => h) (Or.inl ⟨by rfl, ?_⟩) hHeld ?_
          rotate_left
          · (intro w hS; go_simp; try with_reducible rfl)
          try simp only [Act.put, List.setIfInBounds_toArray, List.set_cons_zero, List.set_cons_succ]
          refine wpAnyH_take (i := 13) (oi := ({ dst := some 100, op := Op.move (Operand.tmp 99), type := 4, pos := _, after := #[{ on := 12, ground := Ground.data }, { on := 8, ground := Ground.chain }], guard := none } : Oper)) (v := ?_) rfl (by kernel_rfl) (by kernel_rfl) (by kernel_rfl) (fun _ _ _ h => h) (Or.inl ⟨by rfl, ?_⟩) hHeld ?_
          rotate_left
          · (intro w hS; go_simp; try with_reducible rfl)
          try simp only [Act.put, List.setIfInBounds_toArray, List.set_cons_zero, List.set_cons_succ]
          refine wpAnyH_take (i := 14) (oi := ({ dst := some 101, op := Op.move (Operand.tmp 16), type := 4, pos := _, after := #[{ on := 13, ground := Ground.guard }], guard := some (13, false) } : Oper)) (v := ?_) rfl (by kernel_rfl) (by kernel_rfl) (by kernel_rfl) (fun _ _ _ h => h) (Or.inl ⟨by rfl, ?_⟩) hHeld ?_
          rotate_left
          · (intro w hS; go_simp; try with_reducible rfl)
          try simp only [Act.put, List.setIfInBounds_toArray, List.set_cons_zero, List.set_cons_succ]
          refine wpAnyH_take (i := 15) (oi := ({ dst := some 102, op := Op.move (Operand.tmp 18), type := 4, pos := _, after := #[{ on := 13, ground := Ground.guard }], guard := some (13, false) } : Oper)) (v := ?_) rfl (by kernel_rfl) (by kernel_rfl) (by kernel_rfl) (fun _ _ _ h => h) (Or.inl ⟨by rfl, ?_⟩) hHeld ?_
          rotate_left
          · (intro w hS; go_simp; try with_reducible rfl)
          try simp only [Act.put, List.setIfInBounds_toArray, List.set_cons_zero, List.set_cons_succ]
          refine wpAnyH_take (i := 16) (oi := ({ dst := some 103, op := Op.binOp BinOp.neq 4 (Operand.tmp 101) (Operand.tmp 102) 4, type := 4, pos := _, after := #[{ on := 14, ground := Ground.data }, { on := 15, ground := Ground.data }, { on := 13, ground := Ground.guard }], guard := some (13, false) } : Oper)) (v := ?_) rfl (by kernel_rfl) (by kernel_rfl) (by kernel_rfl) (fun _ _ _ h => h) (Or.inl ⟨by rfl, ?_⟩) hHeld ?_
          rotate_left
          · (intro w hS; go_simp; try with_reducible rfl)
          try simp only [Act.put, List.setIfInBounds_toArray, List.set_cons_zero, List.set_cons_succ]
          try rw [hn4]
          refine wpAnyH_take (i := 17) (oi := ({ dst := some 104, op := Op.pick (Operand.tmp 100) (Operand.const (Value.bool true)) (Operand.tmp 103), type := 4, pos := _, after := #[{ on := 13, ground := Ground.data }, { on := 16, ground := Ground.data }], guard := none } : Oper)) (v := ?_) rfl (by kernel_rfl) (by kernel_rfl) (by kernel_rfl) (fun _ _ _ h => h) (Or.inl ⟨by rfl, ?_⟩) hHeld ?_
          rotate_left
          · (intro w hS; go_simp; try with_reducible rfl)
          try simp only [Act.put, List.setIfInBounds_toArray, List.set_cons_zero, List.set_cons_succ]
          refine wpAnyH_take (i := 18) (oi := ({ dst := some 105, op := Op.move (Operand.tmp 104), type := 4, pos := _, after := #[{ on := 17, ground := Ground.data }, { on := 13, ground := Ground.chain }], guard := none } : Oper)) (v := ?_) rfl (by kernel_rfl) (by kernel_rfl) (by kernel_rfl) (fun _ _ _ h => h) (Or.inl ⟨by rfl, ?_⟩) hHeld ?_
          rotate_left
          · (intro w hS; go_simp; try with_reducible rfl)
          try simp only [Act.put, List.setIfInBounds_toArray, List.set_cons_zero, List.set_cons_succ]
          refine wpAnyH_take (i := 19) (oi := ({ dst := some 106, op := Op.move (Operand.tmp 7), type := 24, pos := _, after := #[{ on := 18, ground := Ground.guard }], guard := some (18, false) } : Oper)) (v := ?_) rfl (by kernel_rfl) (by kernel_rfl) (by kernel_rfl) (fun _ _ _ h => h) (Or.inl ⟨by rfl, ?_⟩) hHeld ?_
          rotate_left
          · (intro w hS; go_simp; try with_reducible rfl)
          try simp only [Act.put, List.setIfInBounds_toArray, List.set_cons_zero, List.set_cons_succ]
          refine wpAnyH_take (i := 21) (oi := ({ dst := some 108, op := Op.move (Operand.tmp 8), type := 26, pos := _, after := #[{ on := 18, ground := Ground.guard }], guard := some (18, false) } : Oper)) (v := ?_) rfl (by kernel_rfl) (by kernel_rfl) (by kernel_rfl) (fun _ _ _ h => h) (Or.inl ⟨by rfl, ?_⟩) hHeld ?_
          rotate_left
          · (intro w hS; go_simp; try with_reducible rfl)
          try simp only [Act.put, List.setIfInBounds_toArray, List.set_cons_zero, List.set_cons_succ]
          refine wpAnyH_ready (rs := [20]) (by kernel_rfl) (by simp) ?_
          refine AllReadyH.cons (o := ({ dst := some 107, op := Op.call { callee := Callee.value (Operand.func 18), args := #[Operand.tmp 106], argTypes := #[24] }, type := 3, pos := _, after := #[{ on := 19, ground := Ground.data }, { on := 18, ground := Ground.chain }, { on := 18, ground := Ground.guard }], guard := some (18, false) } : Oper)) rfl (fun K hK => ?_) AllReadyH.nil
          refine step_call (used_calls X8) (enters_of Try.func18 (by kernel_rfl) rfl) _ _ rfl rfl rfl ?_
          rintro e w20 ⟨rfl, e20⟩
          rw [e20]
          clear e20
          refine ⟨_, rfl, hK.out _ _ ⟨q0, q1⟩ (fun hHeld => ?_)⟩
          clear hK K
          try simp only [Act.put, List.setIfInBounds_toArray, List.set_cons_zero, List.set_cons_succ]
          refine wpAnyH_ready (rs := [22]) (by kernel_rfl) (by simp) ?_
          refine AllReadyH.cons (o := ({ dst := some 109, op := Op.call { callee := Callee.value (Operand.func 19), args := #[Operand.tmp 108], argTypes := #[26] }, type := 3, pos := _, after := #[{ on := 21, ground := Ground.data }, { on := 20, ground := Ground.chain }, { on := 18, ground := Ground.guard }], guard := some (18, false) } : Oper)) rfl (fun K hK => ?_) AllReadyH.nil
          refine step_call (rused_calls R8 ho8 (by omega)) (enters_of Try.func19 (by kernel_rfl) rfl) _ _ rfl rfl rfl ?_
          rintro e w22 ⟨rfl, e22⟩
          rw [e22]
          clear e22
          refine ⟨_, rfl, hK.out _ _ ⟨q0, q1⟩ (fun hHeld => ?_)⟩
          clear hK K
          try simp only [Act.put, List.setIfInBounds_toArray, List.set_cons_zero, List.set_cons_succ]
          refine wpAnyH_take (i := 23) (oi := ({ dst := some 110, op := Op.binOp BinOp.neq 3 (Operand.tmp 107) (Operand.tmp 109) 3, type := 4, pos := _, after := #[{ on := 20, ground := Ground.data }, { on := 22, ground := Ground.data }, { on := 18, ground := Ground.guard }], guard := some (18, false) } : Oper)) (v := ?_) rfl (by kernel_rfl) (by kernel_rfl) (by kernel_rfl) (fun _ _ _ h => h) (Or.inl ⟨by rfl, ?_⟩) hHeld ?_
          rotate_left
          · (intro w hS; go_simp; try with_reducible rfl)
          try simp only [Act.put, List.setIfInBounds_toArray, List.set_cons_zero, List.set_cons_succ]
          try rw [hn5]
          refine wpAnyH_take (i := 24) (oi := ({ dst := some 111, op := Op.pick (Operand.tmp 105) (Operand.const (Value.bool true)) (Operand.tmp 110), type := 4, pos := _, after := #[{ on := 18, ground := Ground.data }, { on := 23, ground := Ground.data }], guard := none } : Oper)) (v := ?_) rfl (by kernel_rfl) (by kernel_rfl) (by kernel_rfl) (fun _ _ _ h => h) (Or.inl ⟨by rfl, ?_⟩) hHeld ?_
          rotate_left
          · (intro w hS; go_simp; try with_reducible rfl)
          try simp only [Act.put, List.setIfInBounds_toArray, List.set_cons_zero, List.set_cons_succ]
          refine wpAnyH_take (i := 25) (oi := ({ dst := some 112, op := Op.move (Operand.tmp 111), type := 4, pos := _, after := #[{ on := 24, ground := Ground.data }, { on := 22, ground := Ground.chain }], guard := none } : Oper)) (v := ?_) rfl (by kernel_rfl) (by kernel_rfl) (by kernel_rfl) (fun _ _ _ h => h) (Or.inl ⟨by rfl, ?_⟩) hHeld ?_
          rotate_left
          · (intro w hS; go_simp; try with_reducible rfl)
          try simp only [Act.put, List.setIfInBounds_toArray, List.set_cons_zero, List.set_cons_succ]
          refine wpAnyH_take (i := 26) (oi := ({ dst := some 113, op := Op.move (Operand.tmp 7), type := 24, pos := _, after := #[{ on := 25, ground := Ground.guard }], guard := some (25, false) } : Oper)) (v := ?_) rfl (by kernel_rfl) (by kernel_rfl) (by kernel_rfl) (fun _ _ _ h => h) (Or.inl ⟨by rfl, ?_⟩) hHeld ?_
          rotate_left
          · (intro w hS; go_simp; try with_reducible rfl)
          try simp only [Act.put, List.setIfInBounds_toArray, List.set_cons_zero, List.set_cons_succ]
          refine wpAnyH_take (i := 28) (oi := ({ dst := some 115, op := Op.move (Operand.tmp 8), type := 26, pos := _, after := #[{ on := 25, ground := Ground.guard }], guard := some (25, false) } : Oper)) (v := ?_) rfl (by kernel_rfl) (by kernel_rfl) (by kernel_rfl) (fun _ _ _ h => h) (Or.inl ⟨by rfl, ?_⟩) hHeld ?_
          rotate_left
          · (intro w hS; go_simp; try with_reducible rfl)
          try simp only [Act.put, List.setIfInBounds_toArray, List.set_cons_zero, List.set_cons_succ]
          refine wpAnyH_take (i := 29) (oi := ({ dst := some 116, op := Op.nilCheck (Operand.tmp 115), type := 0, pos := _, after := #[{ on := 28, ground := Ground.data }, { on := 25, ground := Ground.guard }], guard := some (25, false) } : Oper)) (v := ?_) rfl (by kernel_rfl) (by kernel_rfl) (by kernel_rfl) (fun _ _ _ h => h) (Or.inl ⟨by rfl, ?_⟩) hHeld ?_
          rotate_left
          · (intro w hS; go_simp; try with_reducible rfl)
          try simp only [Act.put, List.setIfInBounds_toArray, List.set_cons_zero, List.set_cons_succ]
          refine wpAnyH_take (i := 30) (oi := ({ dst := some 117, op := Op.fieldAddr 39 (Operand.tmp 116) 0, type := 0, pos := _, after := #[{ on := 29, ground := Ground.data }, { on := 25, ground := Ground.guard }], guard := some (25, false) } : Oper)) (v := ?_) rfl (by kernel_rfl) (by kernel_rfl) (by kernel_rfl) (fun _ _ _ h => h) (Or.inl ⟨by rfl, ?_⟩) hHeld ?_
          rotate_left
          · (intro w hS; go_simp; try with_reducible rfl)
          try simp only [Act.put, List.setIfInBounds_toArray, List.set_cons_zero, List.set_cons_succ]
          refine wpAnyH_take (i := 31) (oi := ({ dst := some 118, op := Op.load 3 (Operand.tmp 117), type := 3, pos := _, after := #[{ on := 30, ground := Ground.data }, { on := 25, ground := Ground.guard }], guard := some (25, false) } : Oper)) (v := ?_) rfl (by kernel_rfl) (by kernel_rfl) (by kernel_rfl) (fun _ _ _ h => h) (Or.inl ⟨by rfl, ?_⟩) hHeld ?_
          rotate_left
          · (intro w hS; go_simp; try with_reducible rfl)
          try simp only [Act.put, List.setIfInBounds_toArray, List.set_cons_zero, List.set_cons_succ]
          refine wpAnyH_take (i := 32) (oi := ({ dst := some 119, op := Op.move (Operand.tmp 8), type := 26, pos := _, after := #[{ on := 25, ground := Ground.guard }], guard := some (25, false) } : Oper)) (v := ?_) rfl (by kernel_rfl) (by kernel_rfl) (by kernel_rfl) (fun _ _ _ h => h) (Or.inl ⟨by rfl, ?_⟩) hHeld ?_
          rotate_left
          · (intro w hS; go_simp; try with_reducible rfl)
          try simp only [Act.put, List.setIfInBounds_toArray, List.set_cons_zero, List.set_cons_succ]
          refine wpAnyH_ready (rs := [27]) (by kernel_rfl) (by simp) ?_
          refine AllReadyH.cons (o := ({ dst := some 114, op := Op.call { callee := Callee.value (Operand.func 20), args := #[Operand.tmp 113], argTypes := #[24] }, type := 3, pos := _, after := #[{ on := 26, ground := Ground.data }, { on := 25, ground := Ground.chain }, { on := 25, ground := Ground.guard }], guard := some (25, false) } : Oper)) rfl (fun K hK => ?_) AllReadyH.nil
          refine step_call (left_calls X8) (enters_of Try.func20 (by kernel_rfl) rfl) _ _ rfl rfl rfl ?_
          rintro e w27 ⟨rfl, b27⟩
          have X27 := X8.below b27 (Nat.le_refl _)
          have R27 := R8.below b27 (Nat.le_refl _)
          have K27 := K8.below b27 K8.lt
          have E27 := E8.below b27 (Nat.le_refl _)
          refine ⟨_, rfl, hK.out _ _ ⟨K27.cell 0 _ rfl, K27.cell 1 _ rfl⟩ (fun hHeld => ?_)⟩
          clear hK K
          try simp only [Act.put, List.setIfInBounds_toArray, List.set_cons_zero, List.set_cons_succ]
          refine wpAnyH_ready (rs := [33]) (by kernel_rfl) (by simp) ?_
          refine AllReadyH.cons (o := ({ dst := some 120, op := Op.call { callee := Callee.value (Operand.func 19), args := #[Operand.tmp 119], argTypes := #[26] }, type := 3, pos := _, after := #[{ on := 32, ground := Ground.data }, { on := 27, ground := Ground.chain }, { on := 25, ground := Ground.guard }], guard := some (25, false) } : Oper)) rfl (fun K hK => ?_) AllReadyH.nil
          refine step_call (rused_calls R27 ho8 (by omega)) (enters_of Try.func19 (by kernel_rfl) rfl) _ _ rfl rfl rfl ?_
          rintro e w33 ⟨rfl, e33⟩
          rw [e33]
          clear e33
          refine ⟨_, rfl, hK.out _ _ ⟨K27.cell 0 _ rfl, K27.cell 1 _ rfl⟩ (fun hHeld => ?_)⟩
          clear hK K
          try simp only [Act.put, List.setIfInBounds_toArray, List.set_cons_zero, List.set_cons_succ]
          refine wpAnyH_take (i := 34) (oi := ({ dst := some 121, op := Op.binOp BinOp.sub 3 (Operand.tmp 118) (Operand.tmp 120) 3, type := 3, pos := _, after := #[{ on := 31, ground := Ground.data }, { on := 33, ground := Ground.data }, { on := 25, ground := Ground.guard }], guard := some (25, false) } : Oper)) (v := ?_) rfl (by kernel_rfl) (by kernel_rfl) (by kernel_rfl) (fun _ _ _ h => h) (Or.inl ⟨by rfl, ?_⟩) hHeld ?_
          rotate_left
          · (intro w hS; go_simp; try with_reducible rfl)
          try simp only [Act.put, List.setIfInBounds_toArray, List.set_cons_zero, List.set_cons_succ]
          try rw [hws]
          refine wpAnyH_take (i := 35) (oi := ({ dst := some 122, op := Op.binOp BinOp.neq 3 (Operand.tmp 114) (Operand.tmp 121) 3, type := 4, pos := _, after := #[{ on := 27, ground := Ground.data }, { on := 34, ground := Ground.data }, { on := 25, ground := Ground.guard }], guard := some (25, false) } : Oper)) (v := ?_) rfl (by kernel_rfl) (by kernel_rfl) (by kernel_rfl) (fun _ _ _ h => h) (Or.inl ⟨by rfl, ?_⟩) hHeld ?_
          rotate_left
          · (intro w hS; go_simp; try with_reducible rfl)
          try simp only [Act.put, List.setIfInBounds_toArray, List.set_cons_zero, List.set_cons_succ]
          try rw [hn6]
          refine wpAnyH_take (i := 36) (oi := ({ dst := some 123, op := Op.pick (Operand.tmp 112) (Operand.const (Value.bool true)) (Operand.tmp 122), type := 4, pos := _, after := #[{ on := 25, ground := Ground.data }, { on := 35, ground := Ground.data }], guard := none } : Oper)) (v := ?_) rfl (by kernel_rfl) (by kernel_rfl) (by kernel_rfl) (fun _ _ _ h => h) (Or.inl ⟨by rfl, ?_⟩) hHeld ?_
          rotate_left
          · (intro w hS; go_simp; try with_reducible rfl)
          try simp only [Act.put, List.setIfInBounds_toArray, List.set_cons_zero, List.set_cons_succ]
          refine wpAnyH_take (i := 37) (oi := ({ dst := some 124, op := Op.move (Operand.tmp 123), type := 4, pos := _, after := #[{ on := 36, ground := Ground.data }, { on := 33, ground := Ground.chain }], guard := none } : Oper)) (v := ?_) rfl (by kernel_rfl) (by kernel_rfl) (by kernel_rfl) (fun _ _ _ h => h) (Or.inl ⟨by rfl, ?_⟩) hHeld ?_
          rotate_left
          · (intro w hS; go_simp; try with_reducible rfl)
          try simp only [Act.put, List.setIfInBounds_toArray, List.set_cons_zero, List.set_cons_succ]
          refine wpAnyH_take (i := 38) (oi := ({ dst := some 125, op := Op.move (Operand.tmp 7), type := 24, pos := _, after := #[{ on := 37, ground := Ground.guard }], guard := some (37, false) } : Oper)) (v := ?_) rfl (by kernel_rfl) (by kernel_rfl) (by kernel_rfl) (fun _ _ _ h => h) (Or.inl ⟨by rfl, ?_⟩) hHeld ?_
          rotate_left
          · (intro w hS; go_simp; try with_reducible rfl)
          try simp only [Act.put, List.setIfInBounds_toArray, List.set_cons_zero, List.set_cons_succ]
          refine wpAnyH_take (i := 40) (oi := ({ dst := some 127, op := Op.move (Operand.tmp 8), type := 26, pos := _, after := #[{ on := 37, ground := Ground.guard }], guard := some (37, false) } : Oper)) (v := ?_) rfl (by kernel_rfl) (by kernel_rfl) (by kernel_rfl) (fun _ _ _ h => h) (Or.inl ⟨by rfl, ?_⟩) hHeld ?_
          rotate_left
          · (intro w hS; go_simp; try with_reducible rfl)
          try simp only [Act.put, List.setIfInBounds_toArray, List.set_cons_zero, List.set_cons_succ]
          refine wpAnyH_take (i := 41) (oi := ({ dst := some 128, op := Op.nilCheck (Operand.tmp 127), type := 0, pos := _, after := #[{ on := 40, ground := Ground.data }, { on := 37, ground := Ground.guard }], guard := some (37, false) } : Oper)) (v := ?_) rfl (by kernel_rfl) (by kernel_rfl) (by kernel_rfl) (fun _ _ _ h => h) (Or.inl ⟨by rfl, ?_⟩) hHeld ?_
          rotate_left
          · (intro w hS; go_simp; try with_reducible rfl)
          try simp only [Act.put, List.setIfInBounds_toArray, List.set_cons_zero, List.set_cons_succ]
          refine wpAnyH_take (i := 42) (oi := ({ dst := some 129, op := Op.fieldAddr 39 (Operand.tmp 128) 1, type := 0, pos := _, after := #[{ on := 41, ground := Ground.data }, { on := 37, ground := Ground.guard }], guard := some (37, false) } : Oper)) (v := ?_) rfl (by kernel_rfl) (by kernel_rfl) (by kernel_rfl) (fun _ _ _ h => h) (Or.inl ⟨by rfl, ?_⟩) hHeld ?_
          rotate_left
          · (intro w hS; go_simp; try with_reducible rfl)
          try simp only [Act.put, List.setIfInBounds_toArray, List.set_cons_zero, List.set_cons_succ]
          refine wpAnyH_take (i := 43) (oi := ({ dst := some 130, op := Op.load 37 (Operand.tmp 129), type := 37, pos := _, after := #[{ on := 42, ground := Ground.data }, { on := 37, ground := Ground.guard }], guard := some (37, false) } : Oper)) (v := ?_) rfl (by kernel_rfl) (by kernel_rfl) (by kernel_rfl) (fun _ _ _ h => h) (Or.inl ⟨by rfl, ?_⟩) hHeld ?_
          rotate_left
          · (intro w hS; go_simp; try with_reducible rfl)
          try simp only [Act.put, List.setIfInBounds_toArray, List.set_cons_zero, List.set_cons_succ]
          refine wpAnyH_ready (rs := [39]) (by kernel_rfl) (by simp) ?_
          refine AllReadyH.cons (o := ({ dst := some 126, op := Op.call { callee := Callee.value (Operand.func 22), args := #[Operand.tmp 125], argTypes := #[24] }, type := 37, pos := _, after := #[{ on := 38, ground := Ground.data }, { on := 37, ground := Ground.chain }, { on := 37, ground := Ground.guard }], guard := some (37, false) } : Oper)) rfl (fun K hK => ?_) AllReadyH.nil
          refine step_call (lall_calls X27 (by omega) (by omega)) (enters_of Try.func22 (by kernel_rfl) rfl) _ _ rfl rfl rfl ?_
          rintro e w39 ⟨a39, c39, rfl, E39, b39⟩
          have X39 := X27.below b39 (Nat.le_refl _)
          have R39 := R27.below b39 (Nat.le_refl _)
          have K39 := K27.below b39 K27.lt
          have F39 := E27.below b39 (Nat.le_refl _)
          refine ⟨_, rfl, hK.out _ _ ⟨K39.cell 0 _ rfl, K39.cell 1 _ rfl⟩ (fun hHeld => ?_)⟩
          clear hK K
          try simp only [Act.put, List.setIfInBounds_toArray, List.set_cons_zero, List.set_cons_succ]
          refine wpAnyH_ready (rs := [44]) (by kernel_rfl) (by simp) ?_
          refine AllReadyH.cons (o := ({ dst := some 131, op := Op.call { callee := Callee.value (Operand.func 21), args := #[Operand.tmp 126, Operand.tmp 130], argTypes := #[37, 37] }, type := 4, pos := _, after := #[{ on := 39, ground := Ground.data }, { on := 43, ground := Ground.data }, { on := 39, ground := Ground.chain }, { on := 37, ground := Ground.guard }], guard := some (37, false) } : Oper)) rfl (fun K hK => ?_) AllReadyH.nil
          refine step_call (same_calls a39 a8 _ _ c39 c8 LL (by omega) _ E39.isE F39.isE) (enters_of Try.func21 (by kernel_rfl) rfl) _ _ rfl rfl rfl ?_
          rintro e w44 ⟨rfl, b44⟩
          have X44 := X39.below b44 (Nat.le_refl _)
          have R44 := R39.below b44 (Nat.le_refl _)
          have K44 := K39.below b44 K39.lt
          refine ⟨_, rfl, hK.out _ _ ⟨K44.cell 0 _ rfl, K44.cell 1 _ rfl⟩ (fun hHeld => ?_)⟩
          clear hK K
          try simp only [Act.put, List.setIfInBounds_toArray, List.set_cons_zero, List.set_cons_succ]
          refine wpAnyH_take (i := 45) (oi := ({ dst := some 132, op := Op.unOp UnOp.not 4 (Operand.tmp 131), type := 4, pos := _, after := #[{ on := 44, ground := Ground.data }, { on := 37, ground := Ground.guard }], guard := some (37, false) } : Oper)) (v := ?_) rfl (by kernel_rfl) (by kernel_rfl) (by kernel_rfl) (fun _ _ _ h => h) (Or.inl ⟨by rfl, ?_⟩) hHeld ?_
          rotate_left
          · (intro w hS; go_simp; try with_reducible rfl)
          try simp only [Act.put, List.setIfInBounds_toArray, List.set_cons_zero, List.set_cons_succ]
          refine wpAnyH_take (i := 46) (oi := ({ dst := some 133, op := Op.pick (Operand.tmp 124) (Operand.const (Value.bool true)) (Operand.tmp 132), type := 4, pos := _, after := #[{ on := 37, ground := Ground.data }, { on := 45, ground := Ground.data }], guard := none } : Oper)) (v := ?_) rfl (by kernel_rfl) (by kernel_rfl) (by kernel_rfl) (fun _ _ _ h => h) (Or.inl ⟨by rfl, ?_⟩) hHeld ?_
          rotate_left
          · (intro w hS; go_simp; try with_reducible rfl)
          try simp only [Act.put, List.setIfInBounds_toArray, List.set_cons_zero, List.set_cons_succ]
          refine wpAnyH_done (by kernel_rfl) ?_ _
          skip
          have BF : Below w.heap.size w w44 := (show Below w.heap.size w _ from B7.drew).trans (((b27.trans (b39.mono b27.size)).trans (b44.mono (Nat.le_trans b27.size b39.size))).mono B7.size)
          go_wp2
          go_roundw
          case rel => exact ⟨i + 1, LL, by omega, by go_num, X44, R44, BF⟩
          case measure => simp [intOf]; omega
        · have d1 : (d == 1) = false := by simpa using h1
          by_cases h2 : d = 2
          · have e1 : doE L room (d, k, z) = chgE L room k z ∧ doN L (d, k, z) = 0 ∧ doL L room (d, k, z) = chgL L room k z := by subst h2; exact ⟨by rfl, by rfl, by rfl⟩
            have d2 : (d == 2) = true := by simpa using h2
            have hr := rchg_calls R6 ho4 (by omega) k z
            rw [e1.1, e1.2.1]
            rw [e1.2.2] at X6 ln6
            clear h1 h2 e1 hxw
            generalize chgE L room k z = E at *
            generalize chgL L room k z = LL at *
            go_wp2_with fail
            refine hr.mono ?_
            rintro e w7 ⟨rfl, R7, q7⟩
            have X7 := X6.q q7 (Nat.le_refl _) hq
            have B7 := B6.trans (q7.below B6.size hqw)
            clear hr X6 R6 B6 K6 q7 o0 o1 o2
            go_wp2_with fail
            refine (get_calls X7 hid).mono ?_
            rintro e w8 ⟨rfl, e8⟩
            rw [e8]
            clear e8
            go_wp2_with fail
            refine (rget_calls R7 (by omega) id).mono ?_
            rintro e w9 ⟨rfl, e9⟩
            rw [e9]
            clear e9
            have X8 := X7.drew
            have R8 := R7.drew
            obtain ⟨a8, c8, K8, E8⟩ := R8.ex
            have q0 := K8.cell 0 _ rfl
            have q1 := K8.cell 1 _ rfl
            have ho8 := X8.ok
            have hnn := ho8.nn
            have hsum := ho8.sum
            have hrm := ho8.room
            have hws : IntKind.i64.wrap (room - sumL LL) = room - sumL LL := by rw [IntKind.wrap_i64]; omega
            have hn1 : (E != E) = false := by simp
            have hn2 : ((0 : Int) != (0 : Int)) = false := by simp
            have hn3 : (getN LL id != getN LL id) = false := by simp
            have hn4 : (getB LL id != getB LL id) = false := by simp
            have hn5 : (sumL LL != sumL LL) = false := by simp
            have hn6 : (room - sumL LL != room - sumL LL) = false := by simp
            clear hnn hsum hrm
            go_wp2_with fail
            refine wp_region_held_drew (S := (fun w' => w'.cell? ⟨q, 0, none⟩ = some (.int .i64 room) ∧ w'.cell? ⟨q, 1, none⟩ = some (.slice a8 LL.length c8))) (by kernel_rfl) ⟨q0, q1⟩ (fun hHeld => ?_)
            refine wpAnyH_take (i := 0) (oi := ({ dst := some 87, op := Op.move (Operand.tmp 11), type := 30, pos := _, after := #[], guard := none } : Oper)) (v := ?_) rfl (by kernel_rfl) (by kernel_rfl) (by kernel_rfl) (fun _ _ _ h => h) (Or.inl ⟨by rfl, ?_⟩) hHeld ?_
            rotate_left
            · (intro w hS; go_simp; try with_reducible rfl)
            try simp only [Act.put, List.setIfInBounds_toArray, List.set_cons_zero, List.set_cons_succ]
            refine wpAnyH_take (i := 1) (oi := ({ dst := some 88, op := Op.move (Operand.tmp 13), type := 3, pos := _, after := #[], guard := none } : Oper)) (v := ?_) rfl (by kernel_rfl) (by kernel_rfl) (by kernel_rfl) (fun _ _ _ h => h) (Or.inl ⟨by rfl, ?_⟩) hHeld ?_
            rotate_left
            · (intro w hS; go_simp; try with_reducible rfl)
            try simp only [Act.put, List.setIfInBounds_toArray, List.set_cons_zero, List.set_cons_succ]
            refine wpAnyH_take (i := 2) (oi := ({ dst := some 89, op := Op.binOp BinOp.neq 3 (Operand.tmp 87) (Operand.tmp 88) 3, type := 4, pos := _, after := #[{ on := 0, ground := Ground.data }, { on := 1, ground := Ground.data }], guard := none } : Oper)) (v := ?_) rfl (by kernel_rfl) (by kernel_rfl) (by kernel_rfl) (fun _ _ _ h => h) (Or.inl ⟨by rfl, ?_⟩) hHeld ?_
            rotate_left
            · (intro w hS; go_simp; try with_reducible rfl)
            try simp only [Act.put, List.setIfInBounds_toArray, List.set_cons_zero, List.set_cons_succ]
            try rw [hn1]
            refine wpAnyH_take (i := 3) (oi := ({ dst := some 90, op := Op.move (Operand.tmp 89), type := 4, pos := _, after := #[{ on := 2, ground := Ground.data }], guard := none } : Oper)) (v := ?_) rfl (by kernel_rfl) (by kernel_rfl) (by kernel_rfl) (fun _ _ _ h => h) (Or.inl ⟨by rfl, ?_⟩) hHeld ?_
            rotate_left
            · (intro w hS; go_simp; try with_reducible rfl)
            try simp only [Act.put, List.setIfInBounds_toArray, List.set_cons_zero, List.set_cons_succ]
            refine wpAnyH_take (i := 4) (oi := ({ dst := some 91, op := Op.move (Operand.tmp 12), type := 3, pos := _, after := #[{ on := 3, ground := Ground.guard }], guard := some (3, false) } : Oper)) (v := ?_) rfl (by kernel_rfl) (by kernel_rfl) (by kernel_rfl) (fun _ _ _ h => h) (Or.inl ⟨by rfl, ?_⟩) hHeld ?_
            rotate_left
            · (intro w hS; go_simp; try with_reducible rfl)
            try simp only [Act.put, List.setIfInBounds_toArray, List.set_cons_zero, List.set_cons_succ]
            refine wpAnyH_take (i := 5) (oi := ({ dst := some 92, op := Op.move (Operand.tmp 14), type := 3, pos := _, after := #[{ on := 3, ground := Ground.guard }], guard := some (3, false) } : Oper)) (v := ?_) rfl (by kernel_rfl) (by kernel_rfl) (by kernel_rfl) (fun _ _ _ h => h) (Or.inl ⟨by rfl, ?_⟩) hHeld ?_
            rotate_left
            · (intro w hS; go_simp; try with_reducible rfl)
            try simp only [Act.put, List.setIfInBounds_toArray, List.set_cons_zero, List.set_cons_succ]
            refine wpAnyH_take (i := 6) (oi := ({ dst := some 93, op := Op.binOp BinOp.neq 3 (Operand.tmp 91) (Operand.tmp 92) 3, type := 4, pos := _, after := #[{ on := 4, ground := Ground.data }, { on := 5, ground := Ground.data }, { on := 3, ground := Ground.guard }], guard := some (3, false) } : Oper)) (v := ?_) rfl (by kernel_rfl) (by kernel_rfl) (by kernel_rfl) (fun _ _ _ h => h) (Or.inl ⟨by rfl, ?_⟩) hHeld ?_
            rotate_left
            · (intro w hS; go_simp; try with_reducible rfl)
            try simp only [Act.put, List.setIfInBounds_toArray, List.set_cons_zero, List.set_cons_succ]
            try rw [hn2]
            refine wpAnyH_take (i := 7) (oi := ({ dst := some 94, op := Op.pick (Operand.tmp 90) (Operand.const (Value.bool true)) (Operand.tmp 93), type := 4, pos := _, after := #[{ on := 3, ground := Ground.data }, { on := 6, ground := Ground.data }], guard := none } : Oper)) (v := ?_) rfl (by kernel_rfl) (by kernel_rfl) (by kernel_rfl) (fun _ _ _ h => h) (Or.inl ⟨by rfl, ?_⟩) hHeld ?_
            rotate_left
            · (intro w hS; go_simp; try with_reducible rfl)
            try simp only [Act.put, List.setIfInBounds_toArray, List.set_cons_zero, List.set_cons_succ]
            refine wpAnyH_take (i := 8) (oi := ({ dst := some 95, op := Op.move (Operand.tmp 94), type := 4, pos := _, after := #[{ on := 7, ground := Ground.data }, { on := 3, ground := Ground.chain }], guard := none } : Oper)) (v := ?_) rfl (by kernel_rfl) (by kernel_rfl) (by kernel_rfl) (fun _ _ _ h => h) (Or.inl ⟨by rfl, ?_⟩) hHeld ?_
            rotate_left
            · (intro w hS; go_simp; try with_reducible rfl)
            try simp only [Act.put, List.setIfInBounds_toArray, List.set_cons_zero, List.set_cons_succ]
            refine wpAnyH_take (i := 9) (oi := ({ dst := some 96, op := Op.move (Operand.tmp 15), type := 3, pos := _, after := #[{ on := 8, ground := Ground.guard }], guard := some (8, false) } : Oper)) (v := ?_) rfl (by kernel_rfl) (by kernel_rfl) (by kernel_rfl) (fun _ _ _ h => h) (Or.inl ⟨by rfl, ?_⟩) hHeld ?_
            rotate_left
            · (intro w hS; go_simp; try with_reducible rfl)
            try simp only [Act.put, List.setIfInBounds_toArray, List.set_cons_zero, List.set_cons_succ]
            refine wpAnyH_take (i := 10) (oi := ({ dst := some 97, op := Op.move (Operand.tmp 17), type := 3, pos := _, after := #[{ on := 8, ground := Ground.guard }], guard := some (8, false) } : Oper)) (v := ?_) rfl (by kernel_rfl) (by kernel_rfl) (by kernel_rfl) (fun _ _ _ h => h) (Or.inl ⟨by rfl, ?_⟩) hHeld ?_
            rotate_left
            · (intro w hS; go_simp; try with_reducible rfl)
            try simp only [Act.put, List.setIfInBounds_toArray, List.set_cons_zero, List.set_cons_succ]
            refine wpAnyH_take (i := 11) (oi := ({ dst := some 98, op := Op.binOp BinOp.neq 3 (Operand.tmp 96) (Operand.tmp 97) 3, type := 4, pos := _, after := #[{ on := 9, ground := Ground.data }, { on := 10, ground := Ground.data }, { on := 8, ground := Ground.guard }], guard := some (8, false) } : Oper)) (v := ?_) rfl (by kernel_rfl) (by kernel_rfl) (by kernel_rfl) (fun _ _ _ h => h) (Or.inl ⟨by rfl, ?_⟩) hHeld ?_
            rotate_left
            · (intro w hS; go_simp; try with_reducible rfl)
            try simp only [Act.put, List.setIfInBounds_toArray, List.set_cons_zero, List.set_cons_succ]
            try rw [hn3]
            refine wpAnyH_take (i := 12) (oi := ({ dst := some 99, op := Op.pick (Operand.tmp 95) (Operand.const (Value.bool true)) (Operand.tmp 98), type := 4, pos := _, after := #[{ on := 8, ground := Ground.data }, { on := 11, ground := Ground.data }], guard := none } : Oper)) (v := ?_) rfl (by kernel_rfl) (by kernel_rfl) (by kernel_rfl) (fun _ _ _ h => h) (Or.inl ⟨by rfl, ?_⟩) hHeld ?_
            rotate_left
            · (intro w hS; go_simp; try with_reducible rfl)
            try simp only [Act.put, List.setIfInBounds_toArray, List.set_cons_zero, List.set_cons_succ]
            refine wpAnyH_take (i := 13) (oi := ({ dst := some 100, op := Op.move (Operand.tmp 99), type := 4, pos := _, after := #[{ on := 12, ground := Ground.data }, { on := 8, ground := Ground.chain }], guard := none } : Oper)) (v := ?_) rfl (by kernel_rfl) (by kernel_rfl) (by kernel_rfl) (fun _ _ _ h => h) (Or.inl ⟨by rfl, ?_⟩) hHeld ?_
            rotate_left
            · (intro w hS; go_simp; try with_reducible rfl)
            try simp only [Act.put, List.setIfInBounds_toArray, List.set_cons_zero, List.set_cons_succ]
            refine wpAnyH_take (i := 14) (oi := ({ dst := some 101, op := Op.move (Operand.tmp 16), type := 4, pos := _, after := #[{ on := 13, ground := Ground.guard }], guard := some (13, false) } : Oper)) (v := ?_) rfl (by kernel_rfl) (by kernel_rfl) (by kernel_rfl) (fun _ _ _ h => h) (Or.inl ⟨by rfl, ?_⟩) hHeld ?_
            rotate_left
            · (intro w hS; go_simp; try with_reducible rfl)
            try simp only [Act.put, List.setIfInBounds_toArray, List.set_cons_zero, List.set_cons_succ]
            refine wpAnyH_take (i := 15) (oi := ({ dst := some 102, op := Op.move (Operand.tmp 18), type := 4, pos := _, after := #[{ on := 13, ground := Ground.guard }], guard := some (13, false) } : Oper)) (v := ?_) rfl (by kernel_rfl) (by kernel_rfl) (by kernel_rfl) (fun _ _ _ h => h) (Or.inl ⟨by rfl, ?_⟩) hHeld ?_
            rotate_left
            · (intro w hS; go_simp; try with_reducible rfl)
            try simp only [Act.put, List.setIfInBounds_toArray, List.set_cons_zero, List.set_cons_succ]
            refine wpAnyH_take (i := 16) (oi := ({ dst := some 103, op := Op.binOp BinOp.neq 4 (Operand.tmp 101) (Operand.tmp 102) 4, type := 4, pos := _, after := #[{ on := 14, ground := Ground.data }, { on := 15, ground := Ground.data }, { on := 13, ground := Ground.guard }], guard := some (13, false) } : Oper)) (v := ?_) rfl (by kernel_rfl) (by kernel_rfl) (by kernel_rfl) (fun _ _ _ h => h) (Or.inl ⟨by rfl, ?_⟩) hHeld ?_
            rotate_left
            · (intro w hS; go_simp; try with_reducible rfl)
            try simp only [Act.put, List.setIfInBounds_toArray, List.set_cons_zero, List.set_cons_succ]
            try rw [hn4]
            refine wpAnyH_take (i := 17) (oi := ({ dst := some 104, op := Op.pick (Operand.tmp 100) (Operand.const (Value.bool true)) (Operand.tmp 103), type := 4, pos := _, after := #[{ on := 13, ground := Ground.data }, { on := 16, ground := Ground.data }], guard := none } : Oper)) (v := ?_) rfl (by kernel_rfl) (by kernel_rfl) (by kernel_rfl) (fun _ _ _ h => h) (Or.inl ⟨by rfl, ?_⟩) hHeld ?_
            rotate_left
            · (intro w hS; go_simp; try with_reducible rfl)
            try simp only [Act.put, List.setIfInBounds_toArray, List.set_cons_zero, List.set_cons_succ]
            refine wpAnyH_take (i := 18) (oi := ({ dst := some 105, op := Op.move (Operand.tmp 104), type := 4, pos := _, after := #[{ on := 17, ground := Ground.data }, { on := 13, ground := Ground.chain }], guard := none } : Oper)) (v := ?_) rfl (by kernel_rfl) (by kernel_rfl) (by kernel_rfl) (fun _ _ _ h => h) (Or.inl ⟨by rfl, ?_⟩) hHeld ?_
            rotate_left
            · (intro w hS; go_simp; try with_reducible rfl)
            try simp only [Act.put, List.setIfInBounds_toArray, List.set_cons_zero, List.set_cons_succ]
            refine wpAnyH_take (i := 19) (oi := ({ dst := some 106, op := Op.move (Operand.tmp 7), type := 24, pos := _, after := #[{ on := 18, ground := Ground.guard }], guard := some (18, false) } : Oper)) (v := ?_) rfl (by kernel_rfl) (by kernel_rfl) (by kernel_rfl) (fun _ _ _ h => h) (Or.inl ⟨by rfl, ?_⟩) hHeld ?_
            rotate_left
            · (intro w hS; go_simp; try with_reducible rfl)
            try simp only [Act.put, List.setIfInBounds_toArray, List.set_cons_zero, List.set_cons_succ]
            refine wpAnyH_take (i := 21) (oi := ({ dst := some 108, op := Op.move (Operand.tmp 8), type := 26, pos := _, after := #[{ on := 18, ground := Ground.guard }], guard := some (18, false) } : Oper)) (v := ?_) rfl (by kernel_rfl) (by kernel_rfl) (by kernel_rfl) (fun _ _ _ h => h) (Or.inl ⟨by rfl, ?_⟩) hHeld ?_
            rotate_left
            · (intro w hS; go_simp; try with_reducible rfl)
            try simp only [Act.put, List.setIfInBounds_toArray, List.set_cons_zero, List.set_cons_succ]
            refine wpAnyH_ready (rs := [20]) (by kernel_rfl) (by simp) ?_
            refine AllReadyH.cons (o := ({ dst := some 107, op := Op.call { callee := Callee.value (Operand.func 18), args := #[Operand.tmp 106], argTypes := #[24] }, type := 3, pos := _, after := #[{ on := 19, ground := Ground.data }, { on := 18, ground := Ground.chain }, { on := 18, ground := Ground.guard }], guard := some (18, false) } : Oper)) rfl (fun K hK => ?_) AllReadyH.nil
            refine step_call (used_calls X8) (enters_of Try.func18 (by kernel_rfl) rfl) _ _ rfl rfl rfl ?_
            rintro e w20 ⟨rfl, e20⟩
            rw [e20]
            clear e20
            refine ⟨_, rfl, hK.out _ _ ⟨q0, q1⟩ (fun hHeld => ?_)⟩
            clear hK K
            try simp only [Act.put, List.setIfInBounds_toArray, List.set_cons_zero, List.set_cons_succ]
            refine wpAnyH_ready (rs := [22]) (by kernel_rfl) (by simp) ?_
            refine AllReadyH.cons (o := ({ dst := some 109, op := Op.call { callee := Callee.value (Operand.func 19), args := #[Operand.tmp 108], argTypes := #[26] }, type := 3, pos := _, after := #[{ on := 21, ground := Ground.data }, { on := 20, ground := Ground.chain }, { on := 18, ground := Ground.guard }], guard := some (18, false) } : Oper)) rfl (fun K hK => ?_) AllReadyH.nil
            refine step_call (rused_calls R8 ho8 (by omega)) (enters_of Try.func19 (by kernel_rfl) rfl) _ _ rfl rfl rfl ?_
            rintro e w22 ⟨rfl, e22⟩
            rw [e22]
            clear e22
            refine ⟨_, rfl, hK.out _ _ ⟨q0, q1⟩ (fun hHeld => ?_)⟩
            clear hK K
            try simp only [Act.put, List.setIfInBounds_toArray, List.set_cons_zero, List.set_cons_succ]
            refine wpAnyH_take (i := 23) (oi := ({ dst := some 110, op := Op.binOp BinOp.neq 3 (Operand.tmp 107) (Operand.tmp 109) 3, type := 4, pos := _, after := #[{ on := 20, ground := Ground.data }, { on := 22, ground := Ground.data }, { on := 18, ground := Ground.guard }], guard := some (18, false) } : Oper)) (v := ?_) rfl (by kernel_rfl) (by kernel_rfl) (by kernel_rfl) (fun _ _ _ h => h) (Or.inl ⟨by rfl, ?_⟩) hHeld ?_
            rotate_left
            · (intro w hS; go_simp; try with_reducible rfl)
            try simp only [Act.put, List.setIfInBounds_toArray, List.set_cons_zero, List.set_cons_succ]
            try rw [hn5]
            refine wpAnyH_take (i := 24) (oi := ({ dst := some 111, op := Op.pick (Operand.tmp 105) (Operand.const (Value.bool true)) (Operand.tmp 110), type := 4, pos := _, after := #[{ on := 18, ground := Ground.data }, { on := 23, ground := Ground.data }], guard := none } : Oper)) (v := ?_) rfl (by kernel_rfl) (by kernel_rfl) (by kernel_rfl) (fun _ _ _ h => h) (Or.inl ⟨by rfl, ?_⟩) hHeld ?_
            rotate_left
            · (intro w hS; go_simp; try with_reducible rfl)
            try simp only [Act.put, List.setIfInBounds_toArray, List.set_cons_zero, List.set_cons_succ]
            refine wpAnyH_take (i := 25) (oi := ({ dst := some 112, op := Op.move (Operand.tmp 111), type := 4, pos := _, after := #[{ on := 24, ground := Ground.data }, { on := 22, ground := Ground.chain }], guard := none } : Oper)) (v := ?_) rfl (by kernel_rfl) (by kernel_rfl) (by kernel_rfl) (fun _ _ _ h => h) (Or.inl ⟨by rfl, ?_⟩) hHeld ?_
            rotate_left
            · (intro w hS; go_simp; try with_reducible rfl)
            try simp only [Act.put, List.setIfInBounds_toArray, List.set_cons_zero, List.set_cons_succ]
            refine wpAnyH_take (i := 26) (oi := ({ dst := some 113, op := Op.move (Operand.tmp 7), type := 24, pos := _, after := #[{ on := 25, ground := Ground.guard }], guard := some (25, false) } : Oper)) (v := ?_) rfl (by kernel_rfl) (by kernel_rfl) (by kernel_rfl) (fun _ _ _ h => h) (Or.inl ⟨by rfl, ?_⟩) hHeld ?_
            rotate_left
            · (intro w hS; go_simp; try with_reducible rfl)
            try simp only [Act.put, List.setIfInBounds_toArray, List.set_cons_zero, List.set_cons_succ]
            refine wpAnyH_take (i := 28) (oi := ({ dst := some 115, op := Op.move (Operand.tmp 8), type := 26, pos := _, after := #[{ on := 25, ground := Ground.guard }], guard := some (25, false) } : Oper)) (v := ?_) rfl (by kernel_rfl) (by kernel_rfl) (by kernel_rfl) (fun _ _ _ h => h) (Or.inl ⟨by rfl, ?_⟩) hHeld ?_
            rotate_left
            · (intro w hS; go_simp; try with_reducible rfl)
            try simp only [Act.put, List.setIfInBounds_toArray, List.set_cons_zero, List.set_cons_succ]
            refine wpAnyH_take (i := 29) (oi := ({ dst := some 116, op := Op.nilCheck (Operand.tmp 115), type := 0, pos := _, after := #[{ on := 28, ground := Ground.data }, { on := 25, ground := Ground.guard }], guard := some (25, false) } : Oper)) (v := ?_) rfl (by kernel_rfl) (by kernel_rfl) (by kernel_rfl) (fun _ _ _ h => h) (Or.inl ⟨by rfl, ?_⟩) hHeld ?_
            rotate_left
            · (intro w hS; go_simp; try with_reducible rfl)
            try simp only [Act.put, List.setIfInBounds_toArray, List.set_cons_zero, List.set_cons_succ]
            refine wpAnyH_take (i := 30) (oi := ({ dst := some 117, op := Op.fieldAddr 39 (Operand.tmp 116) 0, type := 0, pos := _, after := #[{ on := 29, ground := Ground.data }, { on := 25, ground := Ground.guard }], guard := some (25, false) } : Oper)) (v := ?_) rfl (by kernel_rfl) (by kernel_rfl) (by kernel_rfl) (fun _ _ _ h => h) (Or.inl ⟨by rfl, ?_⟩) hHeld ?_
            rotate_left
            · (intro w hS; go_simp; try with_reducible rfl)
            try simp only [Act.put, List.setIfInBounds_toArray, List.set_cons_zero, List.set_cons_succ]
            refine wpAnyH_take (i := 31) (oi := ({ dst := some 118, op := Op.load 3 (Operand.tmp 117), type := 3, pos := _, after := #[{ on := 30, ground := Ground.data }, { on := 25, ground := Ground.guard }], guard := some (25, false) } : Oper)) (v := ?_) rfl (by kernel_rfl) (by kernel_rfl) (by kernel_rfl) (fun _ _ _ h => h) (Or.inl ⟨by rfl, ?_⟩) hHeld ?_
            rotate_left
            · (intro w hS; go_simp; try with_reducible rfl)
            try simp only [Act.put, List.setIfInBounds_toArray, List.set_cons_zero, List.set_cons_succ]
            refine wpAnyH_take (i := 32) (oi := ({ dst := some 119, op := Op.move (Operand.tmp 8), type := 26, pos := _, after := #[{ on := 25, ground := Ground.guard }], guard := some (25, false) } : Oper)) (v := ?_) rfl (by kernel_rfl) (by kernel_rfl) (by kernel_rfl) (fun _ _ _ h => h) (Or.inl ⟨by rfl, ?_⟩) hHeld ?_
            rotate_left
            · (intro w hS; go_simp; try with_reducible rfl)
            try simp only [Act.put, List.setIfInBounds_toArray, List.set_cons_zero, List.set_cons_succ]
            refine wpAnyH_ready (rs := [27]) (by kernel_rfl) (by simp) ?_
            refine AllReadyH.cons (o := ({ dst := some 114, op := Op.call { callee := Callee.value (Operand.func 20), args := #[Operand.tmp 113], argTypes := #[24] }, type := 3, pos := _, after := #[{ on := 26, ground := Ground.data }, { on := 25, ground := Ground.chain }, { on := 25, ground := Ground.guard }], guard := some (25, false) } : Oper)) rfl (fun K hK => ?_) AllReadyH.nil
            refine step_call (left_calls X8) (enters_of Try.func20 (by kernel_rfl) rfl) _ _ rfl rfl rfl ?_
            rintro e w27 ⟨rfl, b27⟩
            have X27 := X8.below b27 (Nat.le_refl _)
            have R27 := R8.below b27 (Nat.le_refl _)
            have K27 := K8.below b27 K8.lt
            have E27 := E8.below b27 (Nat.le_refl _)
            refine ⟨_, rfl, hK.out _ _ ⟨K27.cell 0 _ rfl, K27.cell 1 _ rfl⟩ (fun hHeld => ?_)⟩
            clear hK K
            try simp only [Act.put, List.setIfInBounds_toArray, List.set_cons_zero, List.set_cons_succ]
            refine wpAnyH_ready (rs := [33]) (by kernel_rfl) (by simp) ?_
            refine AllReadyH.cons (o := ({ dst := some 120, op := Op.call { callee := Callee.value (Operand.func 19), args := #[Operand.tmp 119], argTypes := #[26] }, type := 3, pos := _, after := #[{ on := 32, ground := Ground.data }, { on := 27, ground := Ground.chain }, { on := 25, ground := Ground.guard }], guard := some (25, false) } : Oper)) rfl (fun K hK => ?_) AllReadyH.nil
            refine step_call (rused_calls R27 ho8 (by omega)) (enters_of Try.func19 (by kernel_rfl) rfl) _ _ rfl rfl rfl ?_
            rintro e w33 ⟨rfl, e33⟩
            rw [e33]
            clear e33
            refine ⟨_, rfl, hK.out _ _ ⟨K27.cell 0 _ rfl, K27.cell 1 _ rfl⟩ (fun hHeld => ?_)⟩
            clear hK K
            try simp only [Act.put, List.setIfInBounds_toArray, List.set_cons_zero, List.set_cons_succ]
            refine wpAnyH_take (i := 34) (oi := ({ dst := some 121, op := Op.binOp BinOp.sub 3 (Operand.tmp 118) (Operand.tmp 120) 3, type := 3, pos := _, after := #[{ on := 31, ground := Ground.data }, { on := 33, ground := Ground.data }, { on := 25, ground := Ground.guard }], guard := some (25, false) } : Oper)) (v := ?_) rfl (by kernel_rfl) (by kernel_rfl) (by kernel_rfl) (fun _ _ _ h => h) (Or.inl ⟨by rfl, ?_⟩) hHeld ?_
            rotate_left
            · (intro w hS; go_simp; try with_reducible rfl)
            try simp only [Act.put, List.setIfInBounds_toArray, List.set_cons_zero, List.set_cons_succ]
            try rw [hws]
            refine wpAnyH_take (i := 35) (oi := ({ dst := some 122, op := Op.binOp BinOp.neq 3 (Operand.tmp 114) (Operand.tmp 121) 3, type := 4, pos := _, after := #[{ on := 27, ground := Ground.data }, { on := 34, ground := Ground.data }, { on := 25, ground := Ground.guard }], guard := some (25, false) } : Oper)) (v := ?_) rfl (by kernel_rfl) (by kernel_rfl) (by kernel_rfl) (fun _ _ _ h => h) (Or.inl ⟨by rfl, ?_⟩) hHeld ?_
            rotate_left
            · (intro w hS; go_simp; try with_reducible rfl)
            try simp only [Act.put, List.setIfInBounds_toArray, List.set_cons_zero, List.set_cons_succ]
            try rw [hn6]
            refine wpAnyH_take (i := 36) (oi := ({ dst := some 123, op := Op.pick (Operand.tmp 112) (Operand.const (Value.bool true)) (Operand.tmp 122), type := 4, pos := _, after := #[{ on := 25, ground := Ground.data }, { on := 35, ground := Ground.data }], guard := none } : Oper)) (v := ?_) rfl (by kernel_rfl) (by kernel_rfl) (by kernel_rfl) (fun _ _ _ h => h) (Or.inl ⟨by rfl, ?_⟩) hHeld ?_
            rotate_left
            · (intro w hS; go_simp; try with_reducible rfl)
            try simp only [Act.put, List.setIfInBounds_toArray, List.set_cons_zero, List.set_cons_succ]
            refine wpAnyH_take (i := 37) (oi := ({ dst := some 124, op := Op.move (Operand.tmp 123), type := 4, pos := _, after := #[{ on := 36, ground := Ground.data }, { on := 33, ground := Ground.chain }], guard := none } : Oper)) (v := ?_) rfl (by kernel_rfl) (by kernel_rfl) (by kernel_rfl) (fun _ _ _ h => h) (Or.inl ⟨by rfl, ?_⟩) hHeld ?_
            rotate_left
            · (intro w hS; go_simp; try with_reducible rfl)
            try simp only [Act.put, List.setIfInBounds_toArray, List.set_cons_zero, List.set_cons_succ]
            refine wpAnyH_take (i := 38) (oi := ({ dst := some 125, op := Op.move (Operand.tmp 7), type := 24, pos := _, after := #[{ on := 37, ground := Ground.guard }], guard := some (37, false) } : Oper)) (v := ?_) rfl (by kernel_rfl) (by kernel_rfl) (by kernel_rfl) (fun _ _ _ h => h) (Or.inl ⟨by rfl, ?_⟩) hHeld ?_
            rotate_left
            · (intro w hS; go_simp; try with_reducible rfl)
            try simp only [Act.put, List.setIfInBounds_toArray, List.set_cons_zero, List.set_cons_succ]
            refine wpAnyH_take (i := 40) (oi := ({ dst := some 127, op := Op.move (Operand.tmp 8), type := 26, pos := _, after := #[{ on := 37, ground := Ground.guard }], guard := some (37, false) } : Oper)) (v := ?_) rfl (by kernel_rfl) (by kernel_rfl) (by kernel_rfl) (fun _ _ _ h => h) (Or.inl ⟨by rfl, ?_⟩) hHeld ?_
            rotate_left
            · (intro w hS; go_simp; try with_reducible rfl)
            try simp only [Act.put, List.setIfInBounds_toArray, List.set_cons_zero, List.set_cons_succ]
            refine wpAnyH_take (i := 41) (oi := ({ dst := some 128, op := Op.nilCheck (Operand.tmp 127), type := 0, pos := _, after := #[{ on := 40, ground := Ground.data }, { on := 37, ground := Ground.guard }], guard := some (37, false) } : Oper)) (v := ?_) rfl (by kernel_rfl) (by kernel_rfl) (by kernel_rfl) (fun _ _ _ h => h) (Or.inl ⟨by rfl, ?_⟩) hHeld ?_
            rotate_left
            · (intro w hS; go_simp; try with_reducible rfl)
            try simp only [Act.put, List.setIfInBounds_toArray, List.set_cons_zero, List.set_cons_succ]
            refine wpAnyH_take (i := 42) (oi := ({ dst := some 129, op := Op.fieldAddr 39 (Operand.tmp 128) 1, type := 0, pos := _, after := #[{ on := 41, ground := Ground.data }, { on := 37, ground := Ground.guard }], guard := some (37, false) } : Oper)) (v := ?_) rfl (by kernel_rfl) (by kernel_rfl) (by kernel_rfl) (fun _ _ _ h => h) (Or.inl ⟨by rfl, ?_⟩) hHeld ?_
            rotate_left
            · (intro w hS; go_simp; try with_reducible rfl)
            try simp only [Act.put, List.setIfInBounds_toArray, List.set_cons_zero, List.set_cons_succ]
            refine wpAnyH_take (i := 43) (oi := ({ dst := some 130, op := Op.load 37 (Operand.tmp 129), type := 37, pos := _, after := #[{ on := 42, ground := Ground.data }, { on := 37, ground := Ground.guard }], guard := some (37, false) } : Oper)) (v := ?_) rfl (by kernel_rfl) (by kernel_rfl) (by kernel_rfl) (fun _ _ _ h => h) (Or.inl ⟨by rfl, ?_⟩) hHeld ?_
            rotate_left
            · (intro w hS; go_simp; try with_reducible rfl)
            try simp only [Act.put, List.setIfInBounds_toArray, List.set_cons_zero, List.set_cons_succ]
            refine wpAnyH_ready (rs := [39]) (by kernel_rfl) (by simp) ?_
            refine AllReadyH.cons (o := ({ dst := some 126, op := Op.call { callee := Callee.value (Operand.func 22), args := #[Operand.tmp 125], argTypes := #[24] }, type := 37, pos := _, after := #[{ on := 38, ground := Ground.data }, { on := 37, ground := Ground.chain }, { on := 37, ground := Ground.guard }], guard := some (37, false) } : Oper)) rfl (fun K hK => ?_) AllReadyH.nil
            refine step_call (lall_calls X27 (by omega) (by omega)) (enters_of Try.func22 (by kernel_rfl) rfl) _ _ rfl rfl rfl ?_
            rintro e w39 ⟨a39, c39, rfl, E39, b39⟩
            have X39 := X27.below b39 (Nat.le_refl _)
            have R39 := R27.below b39 (Nat.le_refl _)
            have K39 := K27.below b39 K27.lt
            have F39 := E27.below b39 (Nat.le_refl _)
            refine ⟨_, rfl, hK.out _ _ ⟨K39.cell 0 _ rfl, K39.cell 1 _ rfl⟩ (fun hHeld => ?_)⟩
            clear hK K
            try simp only [Act.put, List.setIfInBounds_toArray, List.set_cons_zero, List.set_cons_succ]
            refine wpAnyH_ready (rs := [44]) (by kernel_rfl) (by simp) ?_
            refine AllReadyH.cons (o := ({ dst := some 131, op := Op.call { callee := Callee.value (Operand.func 21), args := #[Operand.tmp 126, Operand.tmp 130], argTypes := #[37, 37] }, type := 4, pos := _, after := #[{ on := 39, ground := Ground.data }, { on := 43, ground := Ground.data }, { on := 39, ground := Ground.chain }, { on := 37, ground := Ground.guard }], guard := some (37, false) } : Oper)) rfl (fun K hK => ?_) AllReadyH.nil
            refine step_call (same_calls a39 a8 _ _ c39 c8 LL (by omega) _ E39.isE F39.isE) (enters_of Try.func21 (by kernel_rfl) rfl) _ _ rfl rfl rfl ?_
            rintro e w44 ⟨rfl, b44⟩
            have X44 := X39.below b44 (Nat.le_refl _)
            have R44 := R39.below b44 (Nat.le_refl _)
            have K44 := K39.below b44 K39.lt
            refine ⟨_, rfl, hK.out _ _ ⟨K44.cell 0 _ rfl, K44.cell 1 _ rfl⟩ (fun hHeld => ?_)⟩
            clear hK K
            try simp only [Act.put, List.setIfInBounds_toArray, List.set_cons_zero, List.set_cons_succ]
            refine wpAnyH_take (i := 45) (oi := ({ dst := some 132, op := Op.unOp UnOp.not 4 (Operand.tmp 131), type := 4, pos := _, after := #[{ on := 44, ground := Ground.data }, { on := 37, ground := Ground.guard }], guard := some (37, false) } : Oper)) (v := ?_) rfl (by kernel_rfl) (by kernel_rfl) (by kernel_rfl) (fun _ _ _ h => h) (Or.inl ⟨by rfl, ?_⟩) hHeld ?_
            rotate_left
            · (intro w hS; go_simp; try with_reducible rfl)
            try simp only [Act.put, List.setIfInBounds_toArray, List.set_cons_zero, List.set_cons_succ]
            refine wpAnyH_take (i := 46) (oi := ({ dst := some 133, op := Op.pick (Operand.tmp 124) (Operand.const (Value.bool true)) (Operand.tmp 132), type := 4, pos := _, after := #[{ on := 37, ground := Ground.data }, { on := 45, ground := Ground.data }], guard := none } : Oper)) (v := ?_) rfl (by kernel_rfl) (by kernel_rfl) (by kernel_rfl) (fun _ _ _ h => h) (Or.inl ⟨by rfl, ?_⟩) hHeld ?_
            rotate_left
            · (intro w hS; go_simp; try with_reducible rfl)
            try simp only [Act.put, List.setIfInBounds_toArray, List.set_cons_zero, List.set_cons_succ]
            refine wpAnyH_done (by kernel_rfl) ?_ _
            skip
            have BF : Below w.heap.size w w44 := (show Below w.heap.size w _ from B7.drew).trans (((b27.trans (b39.mono b27.size)).trans (b44.mono (Nat.le_trans b27.size b39.size))).mono B7.size)
            go_wp2
            go_roundw
            case rel => exact ⟨i + 1, LL, by omega, by go_num, X44, R44, BF⟩
            case measure => simp [intOf]; omega
          · have d2 : (d == 2) = false := by simpa using h2
            by_cases h3 : d = 3
            · have e1 : doE L room (d, k, z) = 0 ∧ doN L (d, k, z) = getN L k ∧ doL L room (d, k, z) = del L k := by subst h3; exact ⟨by rfl, by rfl, by rfl⟩
              have d3 : (d == 3) = true := by simpa using h3
              have hr := rfree_calls R6 (by omega) k
              rw [e1.1, e1.2.1]
              rw [e1.2.2] at X6 ln6
              clear h1 h2 h3 e1 hxw
              generalize getN L k = Ng at *
              generalize getB L k = Bg at *
              generalize del L k = LL at *
              go_wp2_with fail
              refine hr.mono ?_
              rintro e w7 ⟨rfl, R7, q7⟩
              have X7 := X6.q q7 (Nat.le_refl _) hq
              have B7 := B6.trans (q7.below B6.size hqw)
              clear hr X6 R6 B6 K6 q7 o0 o1 o2
              go_wp2_with fail
              refine (get_calls X7 hid).mono ?_
              rintro e w8 ⟨rfl, e8⟩
              rw [e8]
              clear e8
              go_wp2_with fail
              refine (rget_calls R7 (by omega) id).mono ?_
              rintro e w9 ⟨rfl, e9⟩
              rw [e9]
              clear e9
              have X8 := X7.drew
              have R8 := R7.drew
              obtain ⟨a8, c8, K8, E8⟩ := R8.ex
              have q0 := K8.cell 0 _ rfl
              have q1 := K8.cell 1 _ rfl
              have ho8 := X8.ok
              have hnn := ho8.nn
              have hsum := ho8.sum
              have hrm := ho8.room
              have hws : IntKind.i64.wrap (room - sumL LL) = room - sumL LL := by rw [IntKind.wrap_i64]; omega
              have hn1 : ((0 : Int) != (0 : Int)) = false := by simp
              have hn2 : (Ng != Ng) = false := by simp
              have hn3 : (getN LL id != getN LL id) = false := by simp
              have hn4 : (getB LL id != getB LL id) = false := by simp
              have hn5 : (sumL LL != sumL LL) = false := by simp
              have hn6 : (room - sumL LL != room - sumL LL) = false := by simp
              clear hnn hsum hrm
              go_wp2_with fail
              refine wp_region_held_drew (S := (fun w' => w'.cell? ⟨q, 0, none⟩ = some (.int .i64 room) ∧ w'.cell? ⟨q, 1, none⟩ = some (.slice a8 LL.length c8))) (by kernel_rfl) ⟨q0, q1⟩ (fun hHeld => ?_)
              refine wpAnyH_take (i := 0) (oi := ({ dst := some 87, op := Op.move (Operand.tmp 11), type := 30, pos := _, after := #[], guard := none } : Oper)) (v := ?_) rfl (by kernel_rfl) (by kernel_rfl) (by kernel_rfl) (fun _ _ _ h => h) (Or.inl ⟨by rfl, ?_⟩) hHeld ?_
              rotate_left
              · (intro w hS; go_simp; try with_reducible rfl)
              try simp only [Act.put, List.setIfInBounds_toArray, List.set_cons_zero, List.set_cons_succ]
              refine wpAnyH_take (i := 1) (oi := ({ dst := some 88, op := Op.move (Operand.tmp 13), type := 3, pos := _, after := #[], guard := none } : Oper)) (v := ?_) rfl (by kernel_rfl) (by kernel_rfl) (by kernel_rfl) (fun _ _ _ h => h) (Or.inl ⟨by rfl, ?_⟩) hHeld ?_
              rotate_left
              · (intro w hS; go_simp; try with_reducible rfl)
              try simp only [Act.put, List.setIfInBounds_toArray, List.set_cons_zero, List.set_cons_succ]
              refine wpAnyH_take (i := 2) (oi := ({ dst := some 89, op := Op.binOp BinOp.neq 3 (Operand.tmp 87) (Operand.tmp 88) 3, type := 4, pos := _, after := #[{ on := 0, ground := Ground.data }, { on := 1, ground := Ground.data }], guard := none } : Oper)) (v := ?_) rfl (by kernel_rfl) (by kernel_rfl) (by kernel_rfl) (fun _ _ _ h => h) (Or.inl ⟨by rfl, ?_⟩) hHeld ?_
              rotate_left
              · (intro w hS; go_simp; try with_reducible rfl)
              try simp only [Act.put, List.setIfInBounds_toArray, List.set_cons_zero, List.set_cons_succ]
              try rw [hn1]
              refine wpAnyH_take (i := 3) (oi := ({ dst := some 90, op := Op.move (Operand.tmp 89), type := 4, pos := _, after := #[{ on := 2, ground := Ground.data }], guard := none } : Oper)) (v := ?_) rfl (by kernel_rfl) (by kernel_rfl) (by kernel_rfl) (fun _ _ _ h => h) (Or.inl ⟨by rfl, ?_⟩) hHeld ?_
              rotate_left
              · (intro w hS; go_simp; try with_reducible rfl)
              try simp only [Act.put, List.setIfInBounds_toArray, List.set_cons_zero, List.set_cons_succ]
              refine wpAnyH_take (i := 4) (oi := ({ dst := some 91, op := Op.move (Operand.tmp 12), type := 3, pos := _, after := #[{ on := 3, ground := Ground.guard }], guard := some (3, false) } : Oper)) (v := ?_) rfl (by kernel_rfl) (by kernel_rfl) (by kernel_rfl) (fun _ _ _ h => h) (Or.inl ⟨by rfl, ?_⟩) hHeld ?_
              rotate_left
              · (intro w hS; go_simp; try with_reducible rfl)
              try simp only [Act.put, List.setIfInBounds_toArray, List.set_cons_zero, List.set_cons_succ]
              refine wpAnyH_take (i := 5) (oi := ({ dst := some 92, op := Op.move (Operand.tmp 14), type := 3, pos := _, after := #[{ on := 3, ground := Ground.guard }], guard := some (3, false) } : Oper)) (v := ?_) rfl (by kernel_rfl) (by kernel_rfl) (by kernel_rfl) (fun _ _ _ h => h) (Or.inl ⟨by rfl, ?_⟩) hHeld ?_
              rotate_left
              · (intro w hS; go_simp; try with_reducible rfl)
              try simp only [Act.put, List.setIfInBounds_toArray, List.set_cons_zero, List.set_cons_succ]
              refine wpAnyH_take (i := 6) (oi := ({ dst := some 93, op := Op.binOp BinOp.neq 3 (Operand.tmp 91) (Operand.tmp 92) 3, type := 4, pos := _, after := #[{ on := 4, ground := Ground.data }, { on := 5, ground := Ground.data }, { on := 3, ground := Ground.guard }], guard := some (3, false) } : Oper)) (v := ?_) rfl (by kernel_rfl) (by kernel_rfl) (by kernel_rfl) (fun _ _ _ h => h) (Or.inl ⟨by rfl, ?_⟩) hHeld ?_
              rotate_left
              · (intro w hS; go_simp; try with_reducible rfl)
              try simp only [Act.put, List.setIfInBounds_toArray, List.set_cons_zero, List.set_cons_succ]
              try rw [hn2]
              refine wpAnyH_take (i := 7) (oi := ({ dst := some 94, op := Op.pick (Operand.tmp 90) (Operand.const (Value.bool true)) (Operand.tmp 93), type := 4, pos := _, after := #[{ on := 3, ground := Ground.data }, { on := 6, ground := Ground.data }], guard := none } : Oper)) (v := ?_) rfl (by kernel_rfl) (by kernel_rfl) (by kernel_rfl) (fun _ _ _ h => h) (Or.inl ⟨by rfl, ?_⟩) hHeld ?_
              rotate_left
              · (intro w hS; go_simp; try with_reducible rfl)
              try simp only [Act.put, List.setIfInBounds_toArray, List.set_cons_zero, List.set_cons_succ]
              refine wpAnyH_take (i := 8) (oi := ({ dst := some 95, op := Op.move (Operand.tmp 94), type := 4, pos := _, after := #[{ on := 7, ground := Ground.data }, { on := 3, ground := Ground.chain }], guard := none } : Oper)) (v := ?_) rfl (by kernel_rfl) (by kernel_rfl) (by kernel_rfl) (fun _ _ _ h => h) (Or.inl ⟨by rfl, ?_⟩) hHeld ?_
              rotate_left
              · (intro w hS; go_simp; try with_reducible rfl)
              try simp only [Act.put, List.setIfInBounds_toArray, List.set_cons_zero, List.set_cons_succ]
              refine wpAnyH_take (i := 9) (oi := ({ dst := some 96, op := Op.move (Operand.tmp 15), type := 3, pos := _, after := #[{ on := 8, ground := Ground.guard }], guard := some (8, false) } : Oper)) (v := ?_) rfl (by kernel_rfl) (by kernel_rfl) (by kernel_rfl) (fun _ _ _ h => h) (Or.inl ⟨by rfl, ?_⟩) hHeld ?_
              rotate_left
              · (intro w hS; go_simp; try with_reducible rfl)
              try simp only [Act.put, List.setIfInBounds_toArray, List.set_cons_zero, List.set_cons_succ]
              refine wpAnyH_take (i := 10) (oi := ({ dst := some 97, op := Op.move (Operand.tmp 17), type := 3, pos := _, after := #[{ on := 8, ground := Ground.guard }], guard := some (8, false) } : Oper)) (v := ?_) rfl (by kernel_rfl) (by kernel_rfl) (by kernel_rfl) (fun _ _ _ h => h) (Or.inl ⟨by rfl, ?_⟩) hHeld ?_
              rotate_left
              · (intro w hS; go_simp; try with_reducible rfl)
              try simp only [Act.put, List.setIfInBounds_toArray, List.set_cons_zero, List.set_cons_succ]
              refine wpAnyH_take (i := 11) (oi := ({ dst := some 98, op := Op.binOp BinOp.neq 3 (Operand.tmp 96) (Operand.tmp 97) 3, type := 4, pos := _, after := #[{ on := 9, ground := Ground.data }, { on := 10, ground := Ground.data }, { on := 8, ground := Ground.guard }], guard := some (8, false) } : Oper)) (v := ?_) rfl (by kernel_rfl) (by kernel_rfl) (by kernel_rfl) (fun _ _ _ h => h) (Or.inl ⟨by rfl, ?_⟩) hHeld ?_
              rotate_left
              · (intro w hS; go_simp; try with_reducible rfl)
              try simp only [Act.put, List.setIfInBounds_toArray, List.set_cons_zero, List.set_cons_succ]
              try rw [hn3]
              refine wpAnyH_take (i := 12) (oi := ({ dst := some 99, op := Op.pick (Operand.tmp 95) (Operand.const (Value.bool true)) (Operand.tmp 98), type := 4, pos := _, after := #[{ on := 8, ground := Ground.data }, { on := 11, ground := Ground.data }], guard := none } : Oper)) (v := ?_) rfl (by kernel_rfl) (by kernel_rfl) (by kernel_rfl) (fun _ _ _ h => h) (Or.inl ⟨by rfl, ?_⟩) hHeld ?_
              rotate_left
              · (intro w hS; go_simp; try with_reducible rfl)
              try simp only [Act.put, List.setIfInBounds_toArray, List.set_cons_zero, List.set_cons_succ]
              refine wpAnyH_take (i := 13) (oi := ({ dst := some 100, op := Op.move (Operand.tmp 99), type := 4, pos := _, after := #[{ on := 12, ground := Ground.data }, { on := 8, ground := Ground.chain }], guard := none } : Oper)) (v := ?_) rfl (by kernel_rfl) (by kernel_rfl) (by kernel_rfl) (fun _ _ _ h => h) (Or.inl ⟨by rfl, ?_⟩) hHeld ?_
              rotate_left
              · (intro w hS; go_simp; try with_reducible rfl)
              try simp only [Act.put, List.setIfInBounds_toArray, List.set_cons_zero, List.set_cons_succ]
              refine wpAnyH_take (i := 14) (oi := ({ dst := some 101, op := Op.move (Operand.tmp 16), type := 4, pos := _, after := #[{ on := 13, ground := Ground.guard }], guard := some (13, false) } : Oper)) (v := ?_) rfl (by kernel_rfl) (by kernel_rfl) (by kernel_rfl) (fun _ _ _ h => h) (Or.inl ⟨by rfl, ?_⟩) hHeld ?_
              rotate_left
              · (intro w hS; go_simp; try with_reducible rfl)
              try simp only [Act.put, List.setIfInBounds_toArray, List.set_cons_zero, List.set_cons_succ]
              refine wpAnyH_take (i := 15) (oi := ({ dst := some 102, op := Op.move (Operand.tmp 18), type := 4, pos := _, after := #[{ on := 13, ground := Ground.guard }], guard := some (13, false) } : Oper)) (v := ?_) rfl (by kernel_rfl) (by kernel_rfl) (by kernel_rfl) (fun _ _ _ h => h) (Or.inl ⟨by rfl, ?_⟩) hHeld ?_
              rotate_left
              · (intro w hS; go_simp; try with_reducible rfl)
              try simp only [Act.put, List.setIfInBounds_toArray, List.set_cons_zero, List.set_cons_succ]
              refine wpAnyH_take (i := 16) (oi := ({ dst := some 103, op := Op.binOp BinOp.neq 4 (Operand.tmp 101) (Operand.tmp 102) 4, type := 4, pos := _, after := #[{ on := 14, ground := Ground.data }, { on := 15, ground := Ground.data }, { on := 13, ground := Ground.guard }], guard := some (13, false) } : Oper)) (v := ?_) rfl (by kernel_rfl) (by kernel_rfl) (by kernel_rfl) (fun _ _ _ h => h) (Or.inl ⟨by rfl, ?_⟩) hHeld ?_
              rotate_left
              · (intro w hS; go_simp; try with_reducible rfl)
              try simp only [Act.put, List.setIfInBounds_toArray, List.set_cons_zero, List.set_cons_succ]
              try rw [hn4]
              refine wpAnyH_take (i := 17) (oi := ({ dst := some 104, op := Op.pick (Operand.tmp 100) (Operand.const (Value.bool true)) (Operand.tmp 103), type := 4, pos := _, after := #[{ on := 13, ground := Ground.data }, { on := 16, ground := Ground.data }], guard := none } : Oper)) (v := ?_) rfl (by kernel_rfl) (by kernel_rfl) (by kernel_rfl) (fun _ _ _ h => h) (Or.inl ⟨by rfl, ?_⟩) hHeld ?_
              rotate_left
              · (intro w hS; go_simp; try with_reducible rfl)
              try simp only [Act.put, List.setIfInBounds_toArray, List.set_cons_zero, List.set_cons_succ]
              refine wpAnyH_take (i := 18) (oi := ({ dst := some 105, op := Op.move (Operand.tmp 104), type := 4, pos := _, after := #[{ on := 17, ground := Ground.data }, { on := 13, ground := Ground.chain }], guard := none } : Oper)) (v := ?_) rfl (by kernel_rfl) (by kernel_rfl) (by kernel_rfl) (fun _ _ _ h => h) (Or.inl ⟨by rfl, ?_⟩) hHeld ?_
              rotate_left
              · (intro w hS; go_simp; try with_reducible rfl)
              try simp only [Act.put, List.setIfInBounds_toArray, List.set_cons_zero, List.set_cons_succ]
              refine wpAnyH_take (i := 19) (oi := ({ dst := some 106, op := Op.move (Operand.tmp 7), type := 24, pos := _, after := #[{ on := 18, ground := Ground.guard }], guard := some (18, false) } : Oper)) (v := ?_) rfl (by kernel_rfl) (by kernel_rfl) (by kernel_rfl) (fun _ _ _ h => h) (Or.inl ⟨by rfl, ?_⟩) hHeld ?_
              rotate_left
              · (intro w hS; go_simp; try with_reducible rfl)
              try simp only [Act.put, List.setIfInBounds_toArray, List.set_cons_zero, List.set_cons_succ]
              refine wpAnyH_take (i := 21) (oi := ({ dst := some 108, op := Op.move (Operand.tmp 8), type := 26, pos := _, after := #[{ on := 18, ground := Ground.guard }], guard := some (18, false) } : Oper)) (v := ?_) rfl (by kernel_rfl) (by kernel_rfl) (by kernel_rfl) (fun _ _ _ h => h) (Or.inl ⟨by rfl, ?_⟩) hHeld ?_
              rotate_left
              · (intro w hS; go_simp; try with_reducible rfl)
              try simp only [Act.put, List.setIfInBounds_toArray, List.set_cons_zero, List.set_cons_succ]
              refine wpAnyH_ready (rs := [20]) (by kernel_rfl) (by simp) ?_
              refine AllReadyH.cons (o := ({ dst := some 107, op := Op.call { callee := Callee.value (Operand.func 18), args := #[Operand.tmp 106], argTypes := #[24] }, type := 3, pos := _, after := #[{ on := 19, ground := Ground.data }, { on := 18, ground := Ground.chain }, { on := 18, ground := Ground.guard }], guard := some (18, false) } : Oper)) rfl (fun K hK => ?_) AllReadyH.nil
              refine step_call (used_calls X8) (enters_of Try.func18 (by kernel_rfl) rfl) _ _ rfl rfl rfl ?_
              rintro e w20 ⟨rfl, e20⟩
              rw [e20]
              clear e20
              refine ⟨_, rfl, hK.out _ _ ⟨q0, q1⟩ (fun hHeld => ?_)⟩
              clear hK K
              try simp only [Act.put, List.setIfInBounds_toArray, List.set_cons_zero, List.set_cons_succ]
              refine wpAnyH_ready (rs := [22]) (by kernel_rfl) (by simp) ?_
              refine AllReadyH.cons (o := ({ dst := some 109, op := Op.call { callee := Callee.value (Operand.func 19), args := #[Operand.tmp 108], argTypes := #[26] }, type := 3, pos := _, after := #[{ on := 21, ground := Ground.data }, { on := 20, ground := Ground.chain }, { on := 18, ground := Ground.guard }], guard := some (18, false) } : Oper)) rfl (fun K hK => ?_) AllReadyH.nil
              refine step_call (rused_calls R8 ho8 (by omega)) (enters_of Try.func19 (by kernel_rfl) rfl) _ _ rfl rfl rfl ?_
              rintro e w22 ⟨rfl, e22⟩
              rw [e22]
              clear e22
              refine ⟨_, rfl, hK.out _ _ ⟨q0, q1⟩ (fun hHeld => ?_)⟩
              clear hK K
              try simp only [Act.put, List.setIfInBounds_toArray, List.set_cons_zero, List.set_cons_succ]
              refine wpAnyH_take (i := 23) (oi := ({ dst := some 110, op := Op.binOp BinOp.neq 3 (Operand.tmp 107) (Operand.tmp 109) 3, type := 4, pos := _, after := #[{ on := 20, ground := Ground.data }, { on := 22, ground := Ground.data }, { on := 18, ground := Ground.guard }], guard := some (18, false) } : Oper)) (v := ?_) rfl (by kernel_rfl) (by kernel_rfl) (by kernel_rfl) (fun _ _ _ h => h) (Or.inl ⟨by rfl, ?_⟩) hHeld ?_
              rotate_left
              · (intro w hS; go_simp; try with_reducible rfl)
              try simp only [Act.put, List.setIfInBounds_toArray, List.set_cons_zero, List.set_cons_succ]
              try rw [hn5]
              refine wpAnyH_take (i := 24) (oi := ({ dst := some 111, op := Op.pick (Operand.tmp 105) (Operand.const (Value.bool true)) (Operand.tmp 110), type := 4, pos := _, after := #[{ on := 18, ground := Ground.data }, { on := 23, ground := Ground.data }], guard := none } : Oper)) (v := ?_) rfl (by kernel_rfl) (by kernel_rfl) (by kernel_rfl) (fun _ _ _ h => h) (Or.inl ⟨by rfl, ?_⟩) hHeld ?_
              rotate_left
              · (intro w hS; go_simp; try with_reducible rfl)
              try simp only [Act.put, List.setIfInBounds_toArray, List.set_cons_zero, List.set_cons_succ]
              refine wpAnyH_take (i := 25) (oi := ({ dst := some 112, op := Op.move (Operand.tmp 111), type := 4, pos := _, after := #[{ on := 24, ground := Ground.data }, { on := 22, ground := Ground.chain }], guard := none } : Oper)) (v := ?_) rfl (by kernel_rfl) (by kernel_rfl) (by kernel_rfl) (fun _ _ _ h => h) (Or.inl ⟨by rfl, ?_⟩) hHeld ?_
              rotate_left
              · (intro w hS; go_simp; try with_reducible rfl)
              try simp only [Act.put, List.setIfInBounds_toArray, List.set_cons_zero, List.set_cons_succ]
              refine wpAnyH_take (i := 26) (oi := ({ dst := some 113, op := Op.move (Operand.tmp 7), type := 24, pos := _, after := #[{ on := 25, ground := Ground.guard }], guard := some (25, false) } : Oper)) (v := ?_) rfl (by kernel_rfl) (by kernel_rfl) (by kernel_rfl) (fun _ _ _ h => h) (Or.inl ⟨by rfl, ?_⟩) hHeld ?_
              rotate_left
              · (intro w hS; go_simp; try with_reducible rfl)
              try simp only [Act.put, List.setIfInBounds_toArray, List.set_cons_zero, List.set_cons_succ]
              refine wpAnyH_take (i := 28) (oi := ({ dst := some 115, op := Op.move (Operand.tmp 8), type := 26, pos := _, after := #[{ on := 25, ground := Ground.guard }], guard := some (25, false) } : Oper)) (v := ?_) rfl (by kernel_rfl) (by kernel_rfl) (by kernel_rfl) (fun _ _ _ h => h) (Or.inl ⟨by rfl, ?_⟩) hHeld ?_
              rotate_left
              · (intro w hS; go_simp; try with_reducible rfl)
              try simp only [Act.put, List.setIfInBounds_toArray, List.set_cons_zero, List.set_cons_succ]
              refine wpAnyH_take (i := 29) (oi := ({ dst := some 116, op := Op.nilCheck (Operand.tmp 115), type := 0, pos := _, after := #[{ on := 28, ground := Ground.data }, { on := 25, ground := Ground.guard }], guard := some (25, false) } : Oper)) (v := ?_) rfl (by kernel_rfl) (by kernel_rfl) (by kernel_rfl) (fun _ _ _ h => h) (Or.inl ⟨by rfl, ?_⟩) hHeld ?_
              rotate_left
              · (intro w hS; go_simp; try with_reducible rfl)
              try simp only [Act.put, List.setIfInBounds_toArray, List.set_cons_zero, List.set_cons_succ]
              refine wpAnyH_take (i := 30) (oi := ({ dst := some 117, op := Op.fieldAddr 39 (Operand.tmp 116) 0, type := 0, pos := _, after := #[{ on := 29, ground := Ground.data }, { on := 25, ground := Ground.guard }], guard := some (25, false) } : Oper)) (v := ?_) rfl (by kernel_rfl) (by kernel_rfl) (by kernel_rfl) (fun _ _ _ h => h) (Or.inl ⟨by rfl, ?_⟩) hHeld ?_
              rotate_left
              · (intro w hS; go_simp; try with_reducible rfl)
              try simp only [Act.put, List.setIfInBounds_toArray, List.set_cons_zero, List.set_cons_succ]
              refine wpAnyH_take (i := 31) (oi := ({ dst := some 118, op := Op.load 3 (Operand.tmp 117), type := 3, pos := _, after := #[{ on := 30, ground := Ground.data }, { on := 25, ground := Ground.guard }], guard := some (25, false) } : Oper)) (v := ?_) rfl (by kernel_rfl) (by kernel_rfl) (by kernel_rfl) (fun _ _ _ h => h) (Or.inl ⟨by rfl, ?_⟩) hHeld ?_
              rotate_left
              · (intro w hS; go_simp; try with_reducible rfl)
              try simp only [Act.put, List.setIfInBounds_toArray, List.set_cons_zero, List.set_cons_succ]
              refine wpAnyH_take (i := 32) (oi := ({ dst := some 119, op := Op.move (Operand.tmp 8), type := 26, pos := _, after := #[{ on := 25, ground := Ground.guard }], guard := some (25, false) } : Oper)) (v := ?_) rfl (by kernel_rfl) (by kernel_rfl) (by kernel_rfl) (fun _ _ _ h => h) (Or.inl ⟨by rfl, ?_⟩) hHeld ?_
              rotate_left
              · (intro w hS; go_simp; try with_reducible rfl)
              try simp only [Act.put, List.setIfInBounds_toArray, List.set_cons_zero, List.set_cons_succ]
              refine wpAnyH_ready (rs := [27]) (by kernel_rfl) (by simp) ?_
              refine AllReadyH.cons (o := ({ dst := some 114, op := Op.call { callee := Callee.value (Operand.func 20), args := #[Operand.tmp 113], argTypes := #[24] }, type := 3, pos := _, after := #[{ on := 26, ground := Ground.data }, { on := 25, ground := Ground.chain }, { on := 25, ground := Ground.guard }], guard := some (25, false) } : Oper)) rfl (fun K hK => ?_) AllReadyH.nil
              refine step_call (left_calls X8) (enters_of Try.func20 (by kernel_rfl) rfl) _ _ rfl rfl rfl ?_
              rintro e w27 ⟨rfl, b27⟩
              have X27 := X8.below b27 (Nat.le_refl _)
              have R27 := R8.below b27 (Nat.le_refl _)
              have K27 := K8.below b27 K8.lt
              have E27 := E8.below b27 (Nat.le_refl _)
              refine ⟨_, rfl, hK.out _ _ ⟨K27.cell 0 _ rfl, K27.cell 1 _ rfl⟩ (fun hHeld => ?_)⟩
              clear hK K
              try simp only [Act.put, List.setIfInBounds_toArray, List.set_cons_zero, List.set_cons_succ]
              refine wpAnyH_ready (rs := [33]) (by kernel_rfl) (by simp) ?_
              refine AllReadyH.cons (o := ({ dst := some 120, op := Op.call { callee := Callee.value (Operand.func 19), args := #[Operand.tmp 119], argTypes := #[26] }, type := 3, pos := _, after := #[{ on := 32, ground := Ground.data }, { on := 27, ground := Ground.chain }, { on := 25, ground := Ground.guard }], guard := some (25, false) } : Oper)) rfl (fun K hK => ?_) AllReadyH.nil
              refine step_call (rused_calls R27 ho8 (by omega)) (enters_of Try.func19 (by kernel_rfl) rfl) _ _ rfl rfl rfl ?_
              rintro e w33 ⟨rfl, e33⟩
              rw [e33]
              clear e33
              refine ⟨_, rfl, hK.out _ _ ⟨K27.cell 0 _ rfl, K27.cell 1 _ rfl⟩ (fun hHeld => ?_)⟩
              clear hK K
              try simp only [Act.put, List.setIfInBounds_toArray, List.set_cons_zero, List.set_cons_succ]
              refine wpAnyH_take (i := 34) (oi := ({ dst := some 121, op := Op.binOp BinOp.sub 3 (Operand.tmp 118) (Operand.tmp 120) 3, type := 3, pos := _, after := #[{ on := 31, ground := Ground.data }, { on := 33, ground := Ground.data }, { on := 25, ground := Ground.guard }], guard := some (25, false) } : Oper)) (v := ?_) rfl (by kernel_rfl) (by kernel_rfl) (by kernel_rfl) (fun _ _ _ h => h) (Or.inl ⟨by rfl, ?_⟩) hHeld ?_
              rotate_left
              · (intro w hS; go_simp; try with_reducible rfl)
              try simp only [Act.put, List.setIfInBounds_toArray, List.set_cons_zero, List.set_cons_succ]
              try rw [hws]
              refine wpAnyH_take (i := 35) (oi := ({ dst := some 122, op := Op.binOp BinOp.neq 3 (Operand.tmp 114) (Operand.tmp 121) 3, type := 4, pos := _, after := #[{ on := 27, ground := Ground.data }, { on := 34, ground := Ground.data }, { on := 25, ground := Ground.guard }], guard := some (25, false) } : Oper)) (v := ?_) rfl (by kernel_rfl) (by kernel_rfl) (by kernel_rfl) (fun _ _ _ h => h) (Or.inl ⟨by rfl, ?_⟩) hHeld ?_
              rotate_left
              · (intro w hS; go_simp; try with_reducible rfl)
              try simp only [Act.put, List.setIfInBounds_toArray, List.set_cons_zero, List.set_cons_succ]
              try rw [hn6]
              refine wpAnyH_take (i := 36) (oi := ({ dst := some 123, op := Op.pick (Operand.tmp 112) (Operand.const (Value.bool true)) (Operand.tmp 122), type := 4, pos := _, after := #[{ on := 25, ground := Ground.data }, { on := 35, ground := Ground.data }], guard := none } : Oper)) (v := ?_) rfl (by kernel_rfl) (by kernel_rfl) (by kernel_rfl) (fun _ _ _ h => h) (Or.inl ⟨by rfl, ?_⟩) hHeld ?_
              rotate_left
              · (intro w hS; go_simp; try with_reducible rfl)
              try simp only [Act.put, List.setIfInBounds_toArray, List.set_cons_zero, List.set_cons_succ]
              refine wpAnyH_take (i := 37) (oi := ({ dst := some 124, op := Op.move (Operand.tmp 123), type := 4, pos := _, after := #[{ on := 36, ground := Ground.data }, { on := 33, ground := Ground.chain }], guard := none } : Oper)) (v := ?_) rfl (by kernel_rfl) (by kernel_rfl) (by kernel_rfl) (fun _ _ _ h => h) (Or.inl ⟨by rfl, ?_⟩) hHeld ?_
              rotate_left
              · (intro w hS; go_simp; try with_reducible rfl)
              try simp only [Act.put, List.setIfInBounds_toArray, List.set_cons_zero, List.set_cons_succ]
              refine wpAnyH_take (i := 38) (oi := ({ dst := some 125, op := Op.move (Operand.tmp 7), type := 24, pos := _, after := #[{ on := 37, ground := Ground.guard }], guard := some (37, false) } : Oper)) (v := ?_) rfl (by kernel_rfl) (by kernel_rfl) (by kernel_rfl) (fun _ _ _ h => h) (Or.inl ⟨by rfl, ?_⟩) hHeld ?_
              rotate_left
              · (intro w hS; go_simp; try with_reducible rfl)
              try simp only [Act.put, List.setIfInBounds_toArray, List.set_cons_zero, List.set_cons_succ]
              refine wpAnyH_take (i := 40) (oi := ({ dst := some 127, op := Op.move (Operand.tmp 8), type := 26, pos := _, after := #[{ on := 37, ground := Ground.guard }], guard := some (37, false) } : Oper)) (v := ?_) rfl (by kernel_rfl) (by kernel_rfl) (by kernel_rfl) (fun _ _ _ h => h) (Or.inl ⟨by rfl, ?_⟩) hHeld ?_
              rotate_left
              · (intro w hS; go_simp; try with_reducible rfl)
              try simp only [Act.put, List.setIfInBounds_toArray, List.set_cons_zero, List.set_cons_succ]
              refine wpAnyH_take (i := 41) (oi := ({ dst := some 128, op := Op.nilCheck (Operand.tmp 127), type := 0, pos := _, after := #[{ on := 40, ground := Ground.data }, { on := 37, ground := Ground.guard }], guard := some (37, false) } : Oper)) (v := ?_) rfl (by kernel_rfl) (by kernel_rfl) (by kernel_rfl) (fun _ _ _ h => h) (Or.inl ⟨by rfl, ?_⟩) hHeld ?_
              rotate_left
              · (intro w hS; go_simp; try with_reducible rfl)
              try simp only [Act.put, List.setIfInBounds_toArray, List.set_cons_zero, List.set_cons_succ]
              refine wpAnyH_take (i := 42) (oi := ({ dst := some 129, op := Op.fieldAddr 39 (Operand.tmp 128) 1, type := 0, pos := _, after := #[{ on := 41, ground := Ground.data }, { on := 37, ground := Ground.guard }], guard := some (37, false) } : Oper)) (v := ?_) rfl (by kernel_rfl) (by kernel_rfl) (by kernel_rfl) (fun _ _ _ h => h) (Or.inl ⟨by rfl, ?_⟩) hHeld ?_
              rotate_left
              · (intro w hS; go_simp; try with_reducible rfl)
              try simp only [Act.put, List.setIfInBounds_toArray, List.set_cons_zero, List.set_cons_succ]
              refine wpAnyH_take (i := 43) (oi := ({ dst := some 130, op := Op.load 37 (Operand.tmp 129), type := 37, pos := _, after := #[{ on := 42, ground := Ground.data }, { on := 37, ground := Ground.guard }], guard := some (37, false) } : Oper)) (v := ?_) rfl (by kernel_rfl) (by kernel_rfl) (by kernel_rfl) (fun _ _ _ h => h) (Or.inl ⟨by rfl, ?_⟩) hHeld ?_
              rotate_left
              · (intro w hS; go_simp; try with_reducible rfl)
              try simp only [Act.put, List.setIfInBounds_toArray, List.set_cons_zero, List.set_cons_succ]
              refine wpAnyH_ready (rs := [39]) (by kernel_rfl) (by simp) ?_
              refine AllReadyH.cons (o := ({ dst := some 126, op := Op.call { callee := Callee.value (Operand.func 22), args := #[Operand.tmp 125], argTypes := #[24] }, type := 37, pos := _, after := #[{ on := 38, ground := Ground.data }, { on := 37, ground := Ground.chain }, { on := 37, ground := Ground.guard }], guard := some (37, false) } : Oper)) rfl (fun K hK => ?_) AllReadyH.nil
              refine step_call (lall_calls X27 (by omega) (by omega)) (enters_of Try.func22 (by kernel_rfl) rfl) _ _ rfl rfl rfl ?_
              rintro e w39 ⟨a39, c39, rfl, E39, b39⟩
              have X39 := X27.below b39 (Nat.le_refl _)
              have R39 := R27.below b39 (Nat.le_refl _)
              have K39 := K27.below b39 K27.lt
              have F39 := E27.below b39 (Nat.le_refl _)
              refine ⟨_, rfl, hK.out _ _ ⟨K39.cell 0 _ rfl, K39.cell 1 _ rfl⟩ (fun hHeld => ?_)⟩
              clear hK K
              try simp only [Act.put, List.setIfInBounds_toArray, List.set_cons_zero, List.set_cons_succ]
              refine wpAnyH_ready (rs := [44]) (by kernel_rfl) (by simp) ?_
              refine AllReadyH.cons (o := ({ dst := some 131, op := Op.call { callee := Callee.value (Operand.func 21), args := #[Operand.tmp 126, Operand.tmp 130], argTypes := #[37, 37] }, type := 4, pos := _, after := #[{ on := 39, ground := Ground.data }, { on := 43, ground := Ground.data }, { on := 39, ground := Ground.chain }, { on := 37, ground := Ground.guard }], guard := some (37, false) } : Oper)) rfl (fun K hK => ?_) AllReadyH.nil
              refine step_call (same_calls a39 a8 _ _ c39 c8 LL (by omega) _ E39.isE F39.isE) (enters_of Try.func21 (by kernel_rfl) rfl) _ _ rfl rfl rfl ?_
              rintro e w44 ⟨rfl, b44⟩
              have X44 := X39.below b44 (Nat.le_refl _)
              have R44 := R39.below b44 (Nat.le_refl _)
              have K44 := K39.below b44 K39.lt
              refine ⟨_, rfl, hK.out _ _ ⟨K44.cell 0 _ rfl, K44.cell 1 _ rfl⟩ (fun hHeld => ?_)⟩
              clear hK K
              try simp only [Act.put, List.setIfInBounds_toArray, List.set_cons_zero, List.set_cons_succ]
              refine wpAnyH_take (i := 45) (oi := ({ dst := some 132, op := Op.unOp UnOp.not 4 (Operand.tmp 131), type := 4, pos := _, after := #[{ on := 44, ground := Ground.data }, { on := 37, ground := Ground.guard }], guard := some (37, false) } : Oper)) (v := ?_) rfl (by kernel_rfl) (by kernel_rfl) (by kernel_rfl) (fun _ _ _ h => h) (Or.inl ⟨by rfl, ?_⟩) hHeld ?_
              rotate_left
              · (intro w hS; go_simp; try with_reducible rfl)
              try simp only [Act.put, List.setIfInBounds_toArray, List.set_cons_zero, List.set_cons_succ]
              refine wpAnyH_take (i := 46) (oi := ({ dst := some 133, op := Op.pick (Operand.tmp 124) (Operand.const (Value.bool true)) (Operand.tmp 132), type := 4, pos := _, after := #[{ on := 37, ground := Ground.data }, { on := 45, ground := Ground.data }], guard := none } : Oper)) (v := ?_) rfl (by kernel_rfl) (by kernel_rfl) (by kernel_rfl) (fun _ _ _ h => h) (Or.inl ⟨by rfl, ?_⟩) hHeld ?_
              rotate_left
              · (intro w hS; go_simp; try with_reducible rfl)
              try simp only [Act.put, List.setIfInBounds_toArray, List.set_cons_zero, List.set_cons_succ]
              refine wpAnyH_done (by kernel_rfl) ?_ _
              skip
              have BF : Below w.heap.size w w44 := (show Below w.heap.size w _ from B7.drew).trans (((b27.trans (b39.mono b27.size)).trans (b44.mono (Nat.le_trans b27.size b39.size))).mono B7.size)
              go_wp2
              go_roundw
              case rel => exact ⟨i + 1, LL, by omega, by go_num, X44, R44, BF⟩
              case measure => simp [intOf]; omega
            · have e1 : doE L room (d, k, z) = 0 ∧ doN L (d, k, z) = 0 ∧ doL L room (d, k, z) = L := by
                refine ⟨?_, if_neg h3, ?_⟩
                · unfold doE; rw [if_neg h1, if_neg h2]
                · unfold doL; rw [if_neg h1, if_neg h2, if_neg h3]
              have d3 : (d == 3) = false := by simpa using h3
              rw [e1.1, e1.2.1]
              rw [e1.2.2] at X6 ln6
              have X7 := X6
              have R7 := R6
              have B7 := B6
              clear h1 h2 h3 e1 hxw X6 R6 B6 K6
              go_wp2_with fail
              refine (get_calls X7 hid).mono ?_
              rintro e w8 ⟨rfl, e8⟩
              rw [e8]
              clear e8
              go_wp2_with fail
              refine (rget_calls R7 (by omega) id).mono ?_
              rintro e w9 ⟨rfl, e9⟩
              rw [e9]
              clear e9
              have X8 := X7.drew
              have R8 := R7.drew
              obtain ⟨a8, c8, K8, E8⟩ := R8.ex
              have q0 := K8.cell 0 _ rfl
              have q1 := K8.cell 1 _ rfl
              have ho8 := X8.ok
              have hnn := ho8.nn
              have hsum := ho8.sum
              have hrm := ho8.room
              have hws : IntKind.i64.wrap (room - sumL L) = room - sumL L := by rw [IntKind.wrap_i64]; omega
              have hn1 : ((0 : Int) != (0 : Int)) = false := by simp
              have hn2 : ((0 : Int) != (0 : Int)) = false := by simp
              have hn3 : (getN L id != getN L id) = false := by simp
              have hn4 : (getB L id != getB L id) = false := by simp
              have hn5 : (sumL L != sumL L) = false := by simp
              have hn6 : (room - sumL L != room - sumL L) = false := by simp
              clear hnn hsum hrm
              go_wp2_with fail
              refine wp_region_held_drew (S := (fun w' => w'.cell? ⟨q, 0, none⟩ = some (.int .i64 room) ∧ w'.cell? ⟨q, 1, none⟩ = some (.slice a8 L.length c8))) (by kernel_rfl) ⟨q0, q1⟩ (fun hHeld => ?_)
              refine wpAnyH_take (i := 0) (oi := ({ dst := some 87, op := Op.move (Operand.tmp 11), type := 30, pos := _, after := #[], guard := none } : Oper)) (v := ?_) rfl (by kernel_rfl) (by kernel_rfl) (by kernel_rfl) (fun _ _ _ h => h) (Or.inl ⟨by rfl, ?_⟩) hHeld ?_
              rotate_left
              · (intro w hS; go_simp; try with_reducible rfl)
              try simp only [Act.put, List.setIfInBounds_toArray, List.set_cons_zero, List.set_cons_succ]
              refine wpAnyH_take (i := 1) (oi := ({ dst := some 88, op := Op.move (Operand.tmp 13), type := 3, pos := _, after := #[], guard := none } : Oper)) (v := ?_) rfl (by kernel_rfl) (by kernel_rfl) (by kernel_rfl) (fun _ _ _ h => h) (Or.inl ⟨by rfl, ?_⟩) hHeld ?_
              rotate_left
              · (intro w hS; go_simp; try with_reducible rfl)
              try simp only [Act.put, List.setIfInBounds_toArray, List.set_cons_zero, List.set_cons_succ]
              refine wpAnyH_take (i := 2) (oi := ({ dst := some 89, op := Op.binOp BinOp.neq 3 (Operand.tmp 87) (Operand.tmp 88) 3, type := 4, pos := _, after := #[{ on := 0, ground := Ground.data }, { on := 1, ground := Ground.data }], guard := none } : Oper)) (v := ?_) rfl (by kernel_rfl) (by kernel_rfl) (by kernel_rfl) (fun _ _ _ h => h) (Or.inl ⟨by rfl, ?_⟩) hHeld ?_
              rotate_left
              · (intro w hS; go_simp; try with_reducible rfl)
              try simp only [Act.put, List.setIfInBounds_toArray, List.set_cons_zero, List.set_cons_succ]
              try rw [hn1]
              refine wpAnyH_take (i := 3) (oi := ({ dst := some 90, op := Op.move (Operand.tmp 89), type := 4, pos := _, after := #[{ on := 2, ground := Ground.data }], guard := none } : Oper)) (v := ?_) rfl (by kernel_rfl) (by kernel_rfl) (by kernel_rfl) (fun _ _ _ h => h) (Or.inl ⟨by rfl, ?_⟩) hHeld ?_
              rotate_left
              · (intro w hS; go_simp; try with_reducible rfl)
              try simp only [Act.put, List.setIfInBounds_toArray, List.set_cons_zero, List.set_cons_succ]
              refine wpAnyH_take (i := 4) (oi := ({ dst := some 91, op := Op.move (Operand.tmp 12), type := 3, pos := _, after := #[{ on := 3, ground := Ground.guard }], guard := some (3, false) } : Oper)) (v := ?_) rfl (by kernel_rfl) (by kernel_rfl) (by kernel_rfl) (fun _ _ _ h => h) (Or.inl ⟨by rfl, ?_⟩) hHeld ?_
              rotate_left
              · (intro w hS; go_simp; try with_reducible rfl)
              try simp only [Act.put, List.setIfInBounds_toArray, List.set_cons_zero, List.set_cons_succ]
              refine wpAnyH_take (i := 5) (oi := ({ dst := some 92, op := Op.move (Operand.tmp 14), type := 3, pos := _, after := #[{ on := 3, ground := Ground.guard }], guard := some (3, false) } : Oper)) (v := ?_) rfl (by kernel_rfl) (by kernel_rfl) (by kernel_rfl) (fun _ _ _ h => h) (Or.inl ⟨by rfl, ?_⟩) hHeld ?_
              rotate_left
              · (intro w hS; go_simp; try with_reducible rfl)
              try simp only [Act.put, List.setIfInBounds_toArray, List.set_cons_zero, List.set_cons_succ]
              refine wpAnyH_take (i := 6) (oi := ({ dst := some 93, op := Op.binOp BinOp.neq 3 (Operand.tmp 91) (Operand.tmp 92) 3, type := 4, pos := _, after := #[{ on := 4, ground := Ground.data }, { on := 5, ground := Ground.data }, { on := 3, ground := Ground.guard }], guard := some (3, false) } : Oper)) (v := ?_) rfl (by kernel_rfl) (by kernel_rfl) (by kernel_rfl) (fun _ _ _ h => h) (Or.inl ⟨by rfl, ?_⟩) hHeld ?_
              rotate_left
              · (intro w hS; go_simp; try with_reducible rfl)
              try simp only [Act.put, List.setIfInBounds_toArray, List.set_cons_zero, List.set_cons_succ]
              try rw [hn2]
              refine wpAnyH_take (i := 7) (oi := ({ dst := some 94, op := Op.pick (Operand.tmp 90) (Operand.const (Value.bool true)) (Operand.tmp 93), type := 4, pos := _, after := #[{ on := 3, ground := Ground.data }, { on := 6, ground := Ground.data }], guard := none } : Oper)) (v := ?_) rfl (by kernel_rfl) (by kernel_rfl) (by kernel_rfl) (fun _ _ _ h => h) (Or.inl ⟨by rfl, ?_⟩) hHeld ?_
              rotate_left
              · (intro w hS; go_simp; try with_reducible rfl)
              try simp only [Act.put, List.setIfInBounds_toArray, List.set_cons_zero, List.set_cons_succ]
              refine wpAnyH_take (i := 8) (oi := ({ dst := some 95, op := Op.move (Operand.tmp 94), type := 4, pos := _, after := #[{ on := 7, ground := Ground.data }, { on := 3, ground := Ground.chain }], guard := none } : Oper)) (v := ?_) rfl (by kernel_rfl) (by kernel_rfl) (by kernel_rfl) (fun _ _ _ h => h) (Or.inl ⟨by rfl, ?_⟩) hHeld ?_
              rotate_left
              · (intro w hS; go_simp; try with_reducible rfl)
              try simp only [Act.put, List.setIfInBounds_toArray, List.set_cons_zero, List.set_cons_succ]
              refine wpAnyH_take (i := 9) (oi := ({ dst := some 96, op := Op.move (Operand.tmp 15), type := 3, pos := _, after := #[{ on := 8, ground := Ground.guard }], guard := some (8, false) } : Oper)) (v := ?_) rfl (by kernel_rfl) (by kernel_rfl) (by kernel_rfl) (fun _ _ _ h => h) (Or.inl ⟨by rfl, ?_⟩) hHeld ?_
              rotate_left
              · (intro w hS; go_simp; try with_reducible rfl)
              try simp only [Act.put, List.setIfInBounds_toArray, List.set_cons_zero, List.set_cons_succ]
              refine wpAnyH_take (i := 10) (oi := ({ dst := some 97, op := Op.move (Operand.tmp 17), type := 3, pos := _, after := #[{ on := 8, ground := Ground.guard }], guard := some (8, false) } : Oper)) (v := ?_) rfl (by kernel_rfl) (by kernel_rfl) (by kernel_rfl) (fun _ _ _ h => h) (Or.inl ⟨by rfl, ?_⟩) hHeld ?_
              rotate_left
              · (intro w hS; go_simp; try with_reducible rfl)
              try simp only [Act.put, List.setIfInBounds_toArray, List.set_cons_zero, List.set_cons_succ]
              refine wpAnyH_take (i := 11) (oi := ({ dst := some 98, op := Op.binOp BinOp.neq 3 (Operand.tmp 96) (Operand.tmp 97) 3, type := 4, pos := _, after := #[{ on := 9, ground := Ground.data }, { on := 10, ground := Ground.data }, { on := 8, ground := Ground.guard }], guard := some (8, false) } : Oper)) (v := ?_) rfl (by kernel_rfl) (by kernel_rfl) (by kernel_rfl) (fun _ _ _ h => h) (Or.inl ⟨by rfl, ?_⟩) hHeld ?_
              rotate_left
              · (intro w hS; go_simp; try with_reducible rfl)
              try simp only [Act.put, List.setIfInBounds_toArray, List.set_cons_zero, List.set_cons_succ]
              try rw [hn3]
              refine wpAnyH_take (i := 12) (oi := ({ dst := some 99, op := Op.pick (Operand.tmp 95) (Operand.const (Value.bool true)) (Operand.tmp 98), type := 4, pos := _, after := #[{ on := 8, ground := Ground.data }, { on := 11, ground := Ground.data }], guard := none } : Oper)) (v := ?_) rfl (by kernel_rfl) (by kernel_rfl) (by kernel_rfl) (fun _ _ _ h => h) (Or.inl ⟨by rfl, ?_⟩) hHeld ?_
              rotate_left
              · (intro w hS; go_simp; try with_reducible rfl)
              try simp only [Act.put, List.setIfInBounds_toArray, List.set_cons_zero, List.set_cons_succ]
              refine wpAnyH_take (i := 13) (oi := ({ dst := some 100, op := Op.move (Operand.tmp 99), type := 4, pos := _, after := #[{ on := 12, ground := Ground.data }, { on := 8, ground := Ground.chain }], guard := none } : Oper)) (v := ?_) rfl (by kernel_rfl) (by kernel_rfl) (by kernel_rfl) (fun _ _ _ h => h) (Or.inl ⟨by rfl, ?_⟩) hHeld ?_
              rotate_left
              · (intro w hS; go_simp; try with_reducible rfl)
              try simp only [Act.put, List.setIfInBounds_toArray, List.set_cons_zero, List.set_cons_succ]
              refine wpAnyH_take (i := 14) (oi := ({ dst := some 101, op := Op.move (Operand.tmp 16), type := 4, pos := _, after := #[{ on := 13, ground := Ground.guard }], guard := some (13, false) } : Oper)) (v := ?_) rfl (by kernel_rfl) (by kernel_rfl) (by kernel_rfl) (fun _ _ _ h => h) (Or.inl ⟨by rfl, ?_⟩) hHeld ?_
              rotate_left
              · (intro w hS; go_simp; try with_reducible rfl)
              try simp only [Act.put, List.setIfInBounds_toArray, List.set_cons_zero, List.set_cons_succ]
              refine wpAnyH_take (i := 15) (oi := ({ dst := some 102, op := Op.move (Operand.tmp 18), type := 4, pos := _, after := #[{ on := 13, ground := Ground.guard }], guard := some (13, false) } : Oper)) (v := ?_) rfl (by kernel_rfl) (by kernel_rfl) (by kernel_rfl) (fun _ _ _ h => h) (Or.inl ⟨by rfl, ?_⟩) hHeld ?_
              rotate_left
              · (intro w hS; go_simp; try with_reducible rfl)
              try simp only [Act.put, List.setIfInBounds_toArray, List.set_cons_zero, List.set_cons_succ]
              refine wpAnyH_take (i := 16) (oi := ({ dst := some 103, op := Op.binOp BinOp.neq 4 (Operand.tmp 101) (Operand.tmp 102) 4, type := 4, pos := _, after := #[{ on := 14, ground := Ground.data }, { on := 15, ground := Ground.data }, { on := 13, ground := Ground.guard }], guard := some (13, false) } : Oper)) (v := ?_) rfl (by kernel_rfl) (by kernel_rfl) (by kernel_rfl) (fun _ _ _ h => h) (Or.inl ⟨by rfl, ?_⟩) hHeld ?_
              rotate_left
              · (intro w hS; go_simp; try with_reducible rfl)
              try simp only [Act.put, List.setIfInBounds_toArray, List.set_cons_zero, List.set_cons_succ]
              try rw [hn4]
              refine wpAnyH_take (i := 17) (oi := ({ dst := some 104, op := Op.pick (Operand.tmp 100) (Operand.const (Value.bool true)) (Operand.tmp 103), type := 4, pos := _, after := #[{ on := 13, ground := Ground.data }, { on := 16, ground := Ground.data }], guard := none } : Oper)) (v := ?_) rfl (by kernel_rfl) (by kernel_rfl) (by kernel_rfl) (fun _ _ _ h => h) (Or.inl ⟨by rfl, ?_⟩) hHeld ?_
              rotate_left
              · (intro w hS; go_simp; try with_reducible rfl)
              try simp only [Act.put, List.setIfInBounds_toArray, List.set_cons_zero, List.set_cons_succ]
              refine wpAnyH_take (i := 18) (oi := ({ dst := some 105, op := Op.move (Operand.tmp 104), type := 4, pos := _, after := #[{ on := 17, ground := Ground.data }, { on := 13, ground := Ground.chain }], guard := none } : Oper)) (v := ?_) rfl (by kernel_rfl) (by kernel_rfl) (by kernel_rfl) (fun _ _ _ h => h) (Or.inl ⟨by rfl, ?_⟩) hHeld ?_
              rotate_left
              · (intro w hS; go_simp; try with_reducible rfl)
              try simp only [Act.put, List.setIfInBounds_toArray, List.set_cons_zero, List.set_cons_succ]
              refine wpAnyH_take (i := 19) (oi := ({ dst := some 106, op := Op.move (Operand.tmp 7), type := 24, pos := _, after := #[{ on := 18, ground := Ground.guard }], guard := some (18, false) } : Oper)) (v := ?_) rfl (by kernel_rfl) (by kernel_rfl) (by kernel_rfl) (fun _ _ _ h => h) (Or.inl ⟨by rfl, ?_⟩) hHeld ?_
              rotate_left
              · (intro w hS; go_simp; try with_reducible rfl)
              try simp only [Act.put, List.setIfInBounds_toArray, List.set_cons_zero, List.set_cons_succ]
              refine wpAnyH_take (i := 21) (oi := ({ dst := some 108, op := Op.move (Operand.tmp 8), type := 26, pos := _, after := #[{ on := 18, ground := Ground.guard }], guard := some (18, false) } : Oper)) (v := ?_) rfl (by kernel_rfl) (by kernel_rfl) (by kernel_rfl) (fun _ _ _ h => h) (Or.inl ⟨by rfl, ?_⟩) hHeld ?_
              rotate_left
              · (intro w hS; go_simp; try with_reducible rfl)
              try simp only [Act.put, List.setIfInBounds_toArray, List.set_cons_zero, List.set_cons_succ]
              refine wpAnyH_ready (rs := [20]) (by kernel_rfl) (by simp) ?_
              refine AllReadyH.cons (o := ({ dst := some 107, op := Op.call { callee := Callee.value (Operand.func 18), args := #[Operand.tmp 106], argTypes := #[24] }, type := 3, pos := _, after := #[{ on := 19, ground := Ground.data }, { on := 18, ground := Ground.chain }, { on := 18, ground := Ground.guard }], guard := some (18, false) } : Oper)) rfl (fun K hK => ?_) AllReadyH.nil
              refine step_call (used_calls X8) (enters_of Try.func18 (by kernel_rfl) rfl) _ _ rfl rfl rfl ?_
              rintro e w20 ⟨rfl, e20⟩
              rw [e20]
              clear e20
              refine ⟨_, rfl, hK.out _ _ ⟨q0, q1⟩ (fun hHeld => ?_)⟩
              clear hK K
              try simp only [Act.put, List.setIfInBounds_toArray, List.set_cons_zero, List.set_cons_succ]
              refine wpAnyH_ready (rs := [22]) (by kernel_rfl) (by simp) ?_
              refine AllReadyH.cons (o := ({ dst := some 109, op := Op.call { callee := Callee.value (Operand.func 19), args := #[Operand.tmp 108], argTypes := #[26] }, type := 3, pos := _, after := #[{ on := 21, ground := Ground.data }, { on := 20, ground := Ground.chain }, { on := 18, ground := Ground.guard }], guard := some (18, false) } : Oper)) rfl (fun K hK => ?_) AllReadyH.nil
              refine step_call (rused_calls R8 ho8 (by omega)) (enters_of Try.func19 (by kernel_rfl) rfl) _ _ rfl rfl rfl ?_
              rintro e w22 ⟨rfl, e22⟩
              rw [e22]
              clear e22
              refine ⟨_, rfl, hK.out _ _ ⟨q0, q1⟩ (fun hHeld => ?_)⟩
              clear hK K
              try simp only [Act.put, List.setIfInBounds_toArray, List.set_cons_zero, List.set_cons_succ]
              refine wpAnyH_take (i := 23) (oi := ({ dst := some 110, op := Op.binOp BinOp.neq 3 (Operand.tmp 107) (Operand.tmp 109) 3, type := 4, pos := _, after := #[{ on := 20, ground := Ground.data }, { on := 22, ground := Ground.data }, { on := 18, ground := Ground.guard }], guard := some (18, false) } : Oper)) (v := ?_) rfl (by kernel_rfl) (by kernel_rfl) (by kernel_rfl) (fun _ _ _ h => h) (Or.inl ⟨by rfl, ?_⟩) hHeld ?_
              rotate_left
              · (intro w hS; go_simp; try with_reducible rfl)
              try simp only [Act.put, List.setIfInBounds_toArray, List.set_cons_zero, List.set_cons_succ]
              try rw [hn5]
              refine wpAnyH_take (i := 24) (oi := ({ dst := some 111, op := Op.pick (Operand.tmp 105) (Operand.const (Value.bool true)) (Operand.tmp 110), type := 4, pos := _, after := #[{ on := 18, ground := Ground.data }, { on := 23, ground := Ground.data }], guard := none } : Oper)) (v := ?_) rfl (by kernel_rfl) (by kernel_rfl) (by kernel_rfl) (fun _ _ _ h => h) (Or.inl ⟨by rfl, ?_⟩) hHeld ?_
              rotate_left
              · (intro w hS; go_simp; try with_reducible rfl)
              try simp only [Act.put, List.setIfInBounds_toArray, List.set_cons_zero, List.set_cons_succ]
              refine wpAnyH_take (i := 25) (oi := ({ dst := some 112, op := Op.move (Operand.tmp 111), type := 4, pos := _, after := #[{ on := 24, ground := Ground.data }, { on := 22, ground := Ground.chain }], guard := none } : Oper)) (v := ?_) rfl (by kernel_rfl) (by kernel_rfl) (by kernel_rfl) (fun _ _ _ h => h) (Or.inl ⟨by rfl, ?_⟩) hHeld ?_
              rotate_left
              · (intro w hS; go_simp; try with_reducible rfl)
              try simp only [Act.put, List.setIfInBounds_toArray, List.set_cons_zero, List.set_cons_succ]
              refine wpAnyH_take (i := 26) (oi := ({ dst := some 113, op := Op.move (Operand.tmp 7), type := 24, pos := _, after := #[{ on := 25, ground := Ground.guard }], guard := some (25, false) } : Oper)) (v := ?_) rfl (by kernel_rfl) (by kernel_rfl) (by kernel_rfl) (fun _ _ _ h => h) (Or.inl ⟨by rfl, ?_⟩) hHeld ?_
              rotate_left
              · (intro w hS; go_simp; try with_reducible rfl)
              try simp only [Act.put, List.setIfInBounds_toArray, List.set_cons_zero, List.set_cons_succ]
              refine wpAnyH_take (i := 28) (oi := ({ dst := some 115, op := Op.move (Operand.tmp 8), type := 26, pos := _, after := #[{ on := 25, ground := Ground.guard }], guard := some (25, false) } : Oper)) (v := ?_) rfl (by kernel_rfl) (by kernel_rfl) (by kernel_rfl) (fun _ _ _ h => h) (Or.inl ⟨by rfl, ?_⟩) hHeld ?_
              rotate_left
              · (intro w hS; go_simp; try with_reducible rfl)
              try simp only [Act.put, List.setIfInBounds_toArray, List.set_cons_zero, List.set_cons_succ]
              refine wpAnyH_take (i := 29) (oi := ({ dst := some 116, op := Op.nilCheck (Operand.tmp 115), type := 0, pos := _, after := #[{ on := 28, ground := Ground.data }, { on := 25, ground := Ground.guard }], guard := some (25, false) } : Oper)) (v := ?_) rfl (by kernel_rfl) (by kernel_rfl) (by kernel_rfl) (fun _ _ _ h => h) (Or.inl ⟨by rfl, ?_⟩) hHeld ?_
              rotate_left
              · (intro w hS; go_simp; try with_reducible rfl)
              try simp only [Act.put, List.setIfInBounds_toArray, List.set_cons_zero, List.set_cons_succ]
              refine wpAnyH_take (i := 30) (oi := ({ dst := some 117, op := Op.fieldAddr 39 (Operand.tmp 116) 0, type := 0, pos := _, after := #[{ on := 29, ground := Ground.data }, { on := 25, ground := Ground.guard }], guard := some (25, false) } : Oper)) (v := ?_) rfl (by kernel_rfl) (by kernel_rfl) (by kernel_rfl) (fun _ _ _ h => h) (Or.inl ⟨by rfl, ?_⟩) hHeld ?_
              rotate_left
              · (intro w hS; go_simp; try with_reducible rfl)
              try simp only [Act.put, List.setIfInBounds_toArray, List.set_cons_zero, List.set_cons_succ]
              refine wpAnyH_take (i := 31) (oi := ({ dst := some 118, op := Op.load 3 (Operand.tmp 117), type := 3, pos := _, after := #[{ on := 30, ground := Ground.data }, { on := 25, ground := Ground.guard }], guard := some (25, false) } : Oper)) (v := ?_) rfl (by kernel_rfl) (by kernel_rfl) (by kernel_rfl) (fun _ _ _ h => h) (Or.inl ⟨by rfl, ?_⟩) hHeld ?_
              rotate_left
              · (intro w hS; go_simp; try with_reducible rfl)
              try simp only [Act.put, List.setIfInBounds_toArray, List.set_cons_zero, List.set_cons_succ]
              refine wpAnyH_take (i := 32) (oi := ({ dst := some 119, op := Op.move (Operand.tmp 8), type := 26, pos := _, after := #[{ on := 25, ground := Ground.guard }], guard := some (25, false) } : Oper)) (v := ?_) rfl (by kernel_rfl) (by kernel_rfl) (by kernel_rfl) (fun _ _ _ h => h) (Or.inl ⟨by rfl, ?_⟩) hHeld ?_
              rotate_left
              · (intro w hS; go_simp; try with_reducible rfl)
              try simp only [Act.put, List.setIfInBounds_toArray, List.set_cons_zero, List.set_cons_succ]
              refine wpAnyH_ready (rs := [27]) (by kernel_rfl) (by simp) ?_
              refine AllReadyH.cons (o := ({ dst := some 114, op := Op.call { callee := Callee.value (Operand.func 20), args := #[Operand.tmp 113], argTypes := #[24] }, type := 3, pos := _, after := #[{ on := 26, ground := Ground.data }, { on := 25, ground := Ground.chain }, { on := 25, ground := Ground.guard }], guard := some (25, false) } : Oper)) rfl (fun K hK => ?_) AllReadyH.nil
              refine step_call (left_calls X8) (enters_of Try.func20 (by kernel_rfl) rfl) _ _ rfl rfl rfl ?_
              rintro e w27 ⟨rfl, b27⟩
              have X27 := X8.below b27 (Nat.le_refl _)
              have R27 := R8.below b27 (Nat.le_refl _)
              have K27 := K8.below b27 K8.lt
              have E27 := E8.below b27 (Nat.le_refl _)
              refine ⟨_, rfl, hK.out _ _ ⟨K27.cell 0 _ rfl, K27.cell 1 _ rfl⟩ (fun hHeld => ?_)⟩
              clear hK K
              try simp only [Act.put, List.setIfInBounds_toArray, List.set_cons_zero, List.set_cons_succ]
              refine wpAnyH_ready (rs := [33]) (by kernel_rfl) (by simp) ?_
              refine AllReadyH.cons (o := ({ dst := some 120, op := Op.call { callee := Callee.value (Operand.func 19), args := #[Operand.tmp 119], argTypes := #[26] }, type := 3, pos := _, after := #[{ on := 32, ground := Ground.data }, { on := 27, ground := Ground.chain }, { on := 25, ground := Ground.guard }], guard := some (25, false) } : Oper)) rfl (fun K hK => ?_) AllReadyH.nil
              refine step_call (rused_calls R27 ho8 (by omega)) (enters_of Try.func19 (by kernel_rfl) rfl) _ _ rfl rfl rfl ?_
              rintro e w33 ⟨rfl, e33⟩
              rw [e33]
              clear e33
              refine ⟨_, rfl, hK.out _ _ ⟨K27.cell 0 _ rfl, K27.cell 1 _ rfl⟩ (fun hHeld => ?_)⟩
              clear hK K
              try simp only [Act.put, List.setIfInBounds_toArray, List.set_cons_zero, List.set_cons_succ]
              refine wpAnyH_take (i := 34) (oi := ({ dst := some 121, op := Op.binOp BinOp.sub 3 (Operand.tmp 118) (Operand.tmp 120) 3, type := 3, pos := _, after := #[{ on := 31, ground := Ground.data }, { on := 33, ground := Ground.data }, { on := 25, ground := Ground.guard }], guard := some (25, false) } : Oper)) (v := ?_) rfl (by kernel_rfl) (by kernel_rfl) (by kernel_rfl) (fun _ _ _ h => h) (Or.inl ⟨by rfl, ?_⟩) hHeld ?_
              rotate_left
              · (intro w hS; go_simp; try with_reducible rfl)
              try simp only [Act.put, List.setIfInBounds_toArray, List.set_cons_zero, List.set_cons_succ]
              try rw [hws]
              refine wpAnyH_take (i := 35) (oi := ({ dst := some 122, op := Op.binOp BinOp.neq 3 (Operand.tmp 114) (Operand.tmp 121) 3, type := 4, pos := _, after := #[{ on := 27, ground := Ground.data }, { on := 34, ground := Ground.data }, { on := 25, ground := Ground.guard }], guard := some (25, false) } : Oper)) (v := ?_) rfl (by kernel_rfl) (by kernel_rfl) (by kernel_rfl) (fun _ _ _ h => h) (Or.inl ⟨by rfl, ?_⟩) hHeld ?_
              rotate_left
              · (intro w hS; go_simp; try with_reducible rfl)
              try simp only [Act.put, List.setIfInBounds_toArray, List.set_cons_zero, List.set_cons_succ]
              try rw [hn6]
              refine wpAnyH_take (i := 36) (oi := ({ dst := some 123, op := Op.pick (Operand.tmp 112) (Operand.const (Value.bool true)) (Operand.tmp 122), type := 4, pos := _, after := #[{ on := 25, ground := Ground.data }, { on := 35, ground := Ground.data }], guard := none } : Oper)) (v := ?_) rfl (by kernel_rfl) (by kernel_rfl) (by kernel_rfl) (fun _ _ _ h => h) (Or.inl ⟨by rfl, ?_⟩) hHeld ?_
              rotate_left
              · (intro w hS; go_simp; try with_reducible rfl)
              try simp only [Act.put, List.setIfInBounds_toArray, List.set_cons_zero, List.set_cons_succ]
              refine wpAnyH_take (i := 37) (oi := ({ dst := some 124, op := Op.move (Operand.tmp 123), type := 4, pos := _, after := #[{ on := 36, ground := Ground.data }, { on := 33, ground := Ground.chain }], guard := none } : Oper)) (v := ?_) rfl (by kernel_rfl) (by kernel_rfl) (by kernel_rfl) (fun _ _ _ h => h) (Or.inl ⟨by rfl, ?_⟩) hHeld ?_
              rotate_left
              · (intro w hS; go_simp; try with_reducible rfl)
              try simp only [Act.put, List.setIfInBounds_toArray, List.set_cons_zero, List.set_cons_succ]
              refine wpAnyH_take (i := 38) (oi := ({ dst := some 125, op := Op.move (Operand.tmp 7), type := 24, pos := _, after := #[{ on := 37, ground := Ground.guard }], guard := some (37, false) } : Oper)) (v := ?_) rfl (by kernel_rfl) (by kernel_rfl) (by kernel_rfl) (fun _ _ _ h => h) (Or.inl ⟨by rfl, ?_⟩) hHeld ?_
              rotate_left
              · (intro w hS; go_simp; try with_reducible rfl)
              try simp only [Act.put, List.setIfInBounds_toArray, List.set_cons_zero, List.set_cons_succ]
              refine wpAnyH_take (i := 40) (oi := ({ dst := some 127, op := Op.move (Operand.tmp 8), type := 26, pos := _, after := #[{ on := 37, ground := Ground.guard }], guard := some (37, false) } : Oper)) (v := ?_) rfl (by kernel_rfl) (by kernel_rfl) (by kernel_rfl) (fun _ _ _ h => h) (Or.inl ⟨by rfl, ?_⟩) hHeld ?_
              rotate_left
              · (intro w hS; go_simp; try with_reducible rfl)
              try simp only [Act.put, List.setIfInBounds_toArray, List.set_cons_zero, List.set_cons_succ]
              refine wpAnyH_take (i := 41) (oi := ({ dst := some 128, op := Op.nilCheck (Operand.tmp 127), type := 0, pos := _, after := #[{ on := 40, ground := Ground.data }, { on := 37, ground := Ground.guard }], guard := some (37, false) } : Oper)) (v := ?_) rfl (by kernel_rfl) (by kernel_rfl) (by kernel_rfl) (fun _ _ _ h => h) (Or.inl ⟨by rfl, ?_⟩) hHeld ?_
              rotate_left
              · (intro w hS; go_simp; try with_reducible rfl)
              try simp only [Act.put, List.setIfInBounds_toArray, List.set_cons_zero, List.set_cons_succ]
              refine wpAnyH_take (i := 42) (oi := ({ dst := some 129, op := Op.fieldAddr 39 (Operand.tmp 128) 1, type := 0, pos := _, after := #[{ on := 41, ground := Ground.data }, { on := 37, ground := Ground.guard }], guard := some (37, false) } : Oper)) (v := ?_) rfl (by kernel_rfl) (by kernel_rfl) (by kernel_rfl) (fun _ _ _ h => h) (Or.inl ⟨by rfl, ?_⟩) hHeld ?_
              rotate_left
              · (intro w hS; go_simp; try with_reducible rfl)
              try simp only [Act.put, List.setIfInBounds_toArray, List.set_cons_zero, List.set_cons_succ]
              refine wpAnyH_take (i := 43) (oi := ({ dst := some 130, op := Op.load 37 (Operand.tmp 129), type := 37, pos := _, after := #[{ on := 42, ground := Ground.data }, { on := 37, ground := Ground.guard }], guard := some (37, false) } : Oper)) (v := ?_) rfl (by kernel_rfl) (by kernel_rfl) (by kernel_rfl) (fun _ _ _ h => h) (Or.inl ⟨by rfl, ?_⟩) hHeld ?_
              rotate_left
              · (intro w hS; go_simp; try with_reducible rfl)
              try simp only [Act.put, List.setIfInBounds_toArray, List.set_cons_zero, List.set_cons_succ]
              refine wpAnyH_ready (rs := [39]) (by kernel_rfl) (by simp) ?_
              refine AllReadyH.cons (o := ({ dst := some 126, op := Op.call { callee := Callee.value (Operand.func 22), args := #[Operand.tmp 125], argTypes := #[24] }, type := 37, pos := _, after := #[{ on := 38, ground := Ground.data }, { on := 37, ground := Ground.chain }, { on := 37, ground := Ground.guard }], guard := some (37, false) } : Oper)) rfl (fun K hK => ?_) AllReadyH.nil
              refine step_call (lall_calls X27 (by omega) (by omega)) (enters_of Try.func22 (by kernel_rfl) rfl) _ _ rfl rfl rfl ?_
              rintro e w39 ⟨a39, c39, rfl, E39, b39⟩
              have X39 := X27.below b39 (Nat.le_refl _)
              have R39 := R27.below b39 (Nat.le_refl _)
              have K39 := K27.below b39 K27.lt
              have F39 := E27.below b39 (Nat.le_refl _)
              refine ⟨_, rfl, hK.out _ _ ⟨K39.cell 0 _ rfl, K39.cell 1 _ rfl⟩ (fun hHeld => ?_)⟩
              clear hK K
              try simp only [Act.put, List.setIfInBounds_toArray, List.set_cons_zero, List.set_cons_succ]
              refine wpAnyH_ready (rs := [44]) (by kernel_rfl) (by simp) ?_
              refine AllReadyH.cons (o := ({ dst := some 131, op := Op.call { callee := Callee.value (Operand.func 21), args := #[Operand.tmp 126, Operand.tmp 130], argTypes := #[37, 37] }, type := 4, pos := _, after := #[{ on := 39, ground := Ground.data }, { on := 43, ground := Ground.data }, { on := 39, ground := Ground.chain }, { on := 37, ground := Ground.guard }], guard := some (37, false) } : Oper)) rfl (fun K hK => ?_) AllReadyH.nil
              refine step_call (same_calls a39 a8 _ _ c39 c8 L (by omega) _ E39.isE F39.isE) (enters_of Try.func21 (by kernel_rfl) rfl) _ _ rfl rfl rfl ?_
              rintro e w44 ⟨rfl, b44⟩
              have X44 := X39.below b44 (Nat.le_refl _)
              have R44 := R39.below b44 (Nat.le_refl _)
              have K44 := K39.below b44 K39.lt
              refine ⟨_, rfl, hK.out _ _ ⟨K44.cell 0 _ rfl, K44.cell 1 _ rfl⟩ (fun hHeld => ?_)⟩
              clear hK K
              try simp only [Act.put, List.setIfInBounds_toArray, List.set_cons_zero, List.set_cons_succ]
              refine wpAnyH_take (i := 45) (oi := ({ dst := some 132, op := Op.unOp UnOp.not 4 (Operand.tmp 131), type := 4, pos := _, after := #[{ on := 44, ground := Ground.data }, { on := 37, ground := Ground.guard }], guard := some (37, false) } : Oper)) (v := ?_) rfl (by kernel_rfl) (by kernel_rfl) (by kernel_rfl) (fun _ _ _ h => h) (Or.inl ⟨by rfl, ?_⟩) hHeld ?_
              rotate_left
              · (intro w hS; go_simp; try with_reducible rfl)
              try simp only [Act.put, List.setIfInBounds_toArray, List.set_cons_zero, List.set_cons_succ]
              refine wpAnyH_take (i := 46) (oi := ({ dst := some 133, op := Op.pick (Operand.tmp 124) (Operand.const (Value.bool true)) (Operand.tmp 132), type := 4, pos := _, after := #[{ on := 37, ground := Ground.data }, { on := 45, ground := Ground.data }], guard := none } : Oper)) (v := ?_) rfl (by kernel_rfl) (by kernel_rfl) (by kernel_rfl) (fun _ _ _ h => h) (Or.inl ⟨by rfl, ?_⟩) hHeld ?_
              rotate_left
              · (intro w hS; go_simp; try with_reducible rfl)
              try simp only [Act.put, List.setIfInBounds_toArray, List.set_cons_zero, List.set_cons_succ]
              refine wpAnyH_done (by kernel_rfl) ?_ _
              skip
              have BF : Below w.heap.size w w44 := (show Below w.heap.size w _ from B7.drew).trans (((b27.trans (b39.mono b27.size)).trans (b44.mono (Nat.le_trans b27.size b39.size))).mono B7.size)
              go_wp2
              go_roundw
              case rel => exact ⟨i + 1, L, by omega, by go_num, X44, R44, BF⟩
              case measure => simp [intOf]; omega
      · obtain rfl : i = len := by omega
        clear hL hwf hlt X4 R4
        go_wp2
        go_ret
        exact ⟨rfl, B4⟩
end Go.Proofs.Ytpljpndegadckaa
