/- Proved here: what element.ReadKey answers. Conditions: as each theorem states them. -/
import Derived.Deep.DeepCutAuto
import Derived.Test.YtbjeljmnknibnaaDoorSt
import Derived.Test.YtbjeljmnknibnaaDoorRc
namespace Go.Proofs.YtbjeljmnknibnaaDoor
set_option linter.unusedSimpArgs false
set_option linter.unusedVariables false
set_option maxRecDepth 20000
open Go.RowKit Go.Shelf

/-- The key that one tells; the error. -/
def rkN (x : El) : Ky × Int := if x.id ≠ 90 then ((0, 0, 0), 12) else match x.body with
  | [a, b, c, d, e] => if rightK ((a.toNat : Int), ((numN [b, c] : Nat) : Int), ((numN [d, e] : Nat) : Int)) = true then (((a.toNat : Int), ((numN [b, c] : Nat) : Int), ((numN [d, e] : Nat) : Int)), 0) else ((0, 0, 0), 1)
  | _ => ((0, 0, 0), 5)
theorem rk_kind {x : El} (h : x.id ≠ 90) : rkN x = ((0, 0, 0), 12) := by unfold rkN; rw [if_pos h]
theorem five_of {xs : List UInt8} (h : xs.length = 5) : ∃ a b c d e, xs = [a, b, c, d, e] := by
  match xs, h with
  | [a, b, c, d, e], _ => exact ⟨a, b, c, d, e, rfl⟩
theorem rk_form {x : El} (h : x.id = 90) (hl : x.body.length ≠ 5) : rkN x = ((0, 0, 0), 5) := by
  unfold rkN
  rw [if_neg (by simpa using h)]
  split
  · rename_i a b c d e hb
    rw [hb] at hl
    exact absurd rfl hl
  · rfl
theorem rk_five {x : El} {a b c d e : UInt8} (h : x.id = 90) (hb : x.body = [a, b, c, d, e]) : rkN x = if rightK ((a.toNat : Int), ((numN [b, c] : Nat) : Int), ((numN [d, e] : Nat) : Int)) = true then (((a.toNat : Int), ((numN [b, c] : Nat) : Int), ((numN [d, e] : Nat) : Int)), 0) else ((0, 0, 0), 1) := by
  unfold rkN
  rw [if_neg (by simpa using h), hb]

theorem ky_new (w : World) : BK (w.alloc (.cells #[.int .i64 0, .int .i64 0, .int .i64 0] 43)) w.heap.size (kC (0, 0, 0)) 43 := bk_new w _ _

set_option maxHeartbeats 4000000 in
theorem rk_calls (x : El) (a : Option Addr) (l c : Nat) (w : World) {n : Nat} (hI : IsB n w a l x.body) (hn : n ≤ w.heap.size) (hlc : l ≤ c) : Calls Tryd.prog 40 #[ieV x.id a l c] w fun e w' => e = .returned (.tuple #[.agg (kC (rkN x).1), .int .i64 (rkN x).2]) ∧ Below w.heap.size w w' := by
  have A0 : Below w.heap.size w ((w.alloc (.cells #[.int .u8 (x.id.toNat : Int), .slice a l c] 60)).alloc (.cells #[.int .i64 0, .int .i64 0, .int .i64 0] 43)) := ((Below.refl _ w).alloc (Nat.le_refl _) _).alloc (by simp) _
  have K0 : BK ((w.alloc (.cells #[.int .u8 (x.id.toNat : Int), .slice a l c] 60)).alloc (.cells #[.int .i64 0, .int .i64 0, .int .i64 0] 43)) w.heap.size #[.int .u8 (x.id.toNat : Int), .slice a l c] 60 := (ie_box (w := w) (x := x) (a := a) (l := l) (c := c)).alloc _
  have R0 : BK ((w.alloc (.cells #[.int .u8 (x.id.toNat : Int), .slice a l c] 60)).alloc (.cells #[.int .i64 0, .int .i64 0, .int .i64 0] 43)) (w.heap.size + 1) (kC (0, 0, 0)) 43 := by
    have := ky_new (w.alloc (.cells #[.int .u8 (x.id.toNat : Int), .slice a l c] 60))
    rwa [World.size_alloc] at this
  have HW := wrong_calls x a l c hI.1 90 5 ((w.alloc (.cells #[.int .u8 (x.id.toNat : Int), .slice a l c] 60)).alloc (.cells #[.int .i64 0, .int .i64 0, .int .i64 0] 43))
  by_cases hw0 : wrongN x 90 5 = 0
  · have h1 : x.id = 90 := by
      by_cases h : x.id = 90
      · exact h
      · unfold wrongN at hw0; rw [if_pos h] at hw0; cases hw0
    have h2 : x.body.length = 5 := by
      by_cases h : x.body.length = 5
      · exact h
      · unfold wrongN at hw0; rw [if_neg (by simpa using h1), if_pos h] at hw0; cases hw0
    rw [hw0] at HW
    obtain ⟨i0, i1, i2, i3, i4, hb5⟩ := five_of h2
    have hr := rk_five h1 hb5
    obtain rfl : l = 5 := hI.1.trans h2
    rw [hb5] at hI
    obtain ⟨b, off, rfl, hb, hc⟩ := hI.cell (k := 0) (x := i0) rfl
    have J1 : IsB n w (some ⟨b, off + 1, none⟩) 2 [i1, i2] := by
      have h3 : IsB n w (some ⟨b, off, none⟩) 5 ([i0] ++ ([i1, i2] ++ [i3, i4])) := hI
      exact h3.dropA.takeA
    have J2 : IsB n w (some ⟨b, off + 3, none⟩) 2 [i3, i4] := by
      have h3 : IsB n w (some ⟨b, off, none⟩) 5 ([i0, i1, i2] ++ [i3, i4]) := hI
      exact h3.dropA
    have d0 := hc 0 i0 rfl
    rw [Nat.add_zero] at d0
    have D0 : Hid (∀ w', Below w.heap.size w w' → w'.cell? ⟨b, off, none⟩ = some (.int .u8 (i0.toNat : Int))) := fun w' h => (h.cell (p := ⟨b, off, none⟩) (by show b < _; omega)).trans d0
    have N1 : Hid (∀ w', Below w.heap.size w w' → Calls Tryd.prog 61 #[.slice (some ⟨b, off + 1, none⟩) 2 (c - 1)] w' fun e w'' => e = .returned (.int .i64 (numN [i1, i2] : Nat)) ∧ Below w'.heap.size w' w'') := fun w' h => number_calls _ 2 _ _ w' (J1.below h hn) (Nat.le_trans hn h.size) (by decide)
    have N2 : Hid (∀ w', Below w.heap.size w w' → Calls Tryd.prog 61 #[.slice (some ⟨b, off + 3, none⟩) 2 (c - 3)] w' fun e w'' => e = .returned (.int .i64 (numN [i3, i4] : Nat)) ∧ Below w'.heap.size w' w'') := fun w' h => number_calls _ 2 _ _ w' (J2.below h hn) (Nat.le_trans hn h.size) (by decide)
    have wi : IntKind.i64.wrap (i0.toNat : Int) = (i0.toNat : Int) := by have := i0.toNat_lt; rw [IntKind.wrap_i64]; omega
    have hc1 : ¬ c = 1 := by omega
    have hc3 : ¬ c = 3 := by omega
    have hcI : (3 : Int) ≤ (c : Int) := by omega
    have hcI5 : (5 : Int) ≤ (c : Int) := by omega
    have HR := kright_calls ((i0.toNat : Int), ((numN [i1, i2] : Nat) : Int), ((numN [i3, i4] : Nat) : Int))
    generalize numN [i1, i2] = n1 at *
    generalize numN [i3, i4] = n2 at *
    clear J1 J2 hI hc d0 hb5 h2 hw0 h1
    go_enter Tryd.func40, Tryd.ntmps40
    go_wp2_with (with_reducible show wpList _ _ _ (Oper.mk _ (Op.load 60 _) _ _ _ _ :: _) _ _; refine wpList_ld rfl rfl rfl (run_ldI (by with_reducible assumption)) ?_; (try simp only [Act.put, List.setIfInBounds_toArray, List.set_cons_zero, List.set_cons_succ, World.size_alloc]))
    refine HW.mono ?_
    rintro e w1 ⟨rfl, b1⟩
    have B1 := A0.trans (b1.mono A0.size)
    have K1 := K0.below b1 K0.lt
    have R1 := R0.below b1 R0.lt
    clear HW A0 K0 R0 b1
    go_wp2
    refine wp_region_held_drew (S := (fun w' => BK w' w.heap.size #[.int .u8 (x.id.toNat : Int), .slice (some ⟨b, off, none⟩) 5 c] 60 ∧ BK w' (w.heap.size + 1) (kC (0, 0, 0)) 43 ∧ Below w.heap.size w w')) (by kernel_rfl) ⟨K1.drew, R1.drew, B1.drew⟩ (fun hHeld => ?_)
    refine wpAnyH_take (i := 0) (oi := ({ dst := some 14, op := Op.fieldAddr 60 (Operand.tmp 1) 1, type := 0, pos := _, after := #[], guard := none } : Oper)) (v := ?_) rfl (by kernel_rfl) (by kernel_rfl) (by kernel_rfl) (fun _ _ _ h => h) (Or.inl ⟨by rfl, ?_⟩) hHeld ?_
    rotate_left
    · (intro w hS; go_simp; try with_reducible rfl)
    try simp only [Act.put, List.setIfInBounds_toArray, List.set_cons_zero, List.set_cons_succ]
    refine wpAnyH_take (i := 1) (oi := ({ dst := some 15, op := Op.load 25 (Operand.tmp 14), type := 25, pos := _, after := #[{ on := 0, ground := Ground.data }], guard := none } : Oper)) (v := ?_) rfl (by kernel_rfl) (by kernel_rfl) (by kernel_rfl) (fun _ _ _ h => h) (Or.inl ⟨by rfl, ?_⟩) hHeld ?_
    rotate_left
    · (intro w hS; have e1 := hS.1.cell 1 _ rfl; go_simp; try with_reducible rfl)
    try simp only [Act.put, List.setIfInBounds_toArray, List.set_cons_zero, List.set_cons_succ]
    refine wpAnyH_take (i := 2) (oi := ({ dst := some 16, op := Op.slice 25 (Operand.tmp 15) (some (Operand.const (Value.int IntKind.i64 1))) (some (Operand.const (Value.int IntKind.i64 3))) none, type := 25, pos := _, after := #[{ on := 1, ground := Ground.data }], guard := none } : Oper)) (v := ?_) rfl (by kernel_rfl) (by kernel_rfl) (by kernel_rfl) (fun _ _ _ h => h) (Or.inl ⟨by rfl, ?_⟩) hHeld ?_
    rotate_left
    · (intro w hS; go_simp; try with_reducible rfl)
    try simp only [Act.put, List.setIfInBounds_toArray, List.set_cons_zero, List.set_cons_succ]
    refine wpAnyH_take (i := 3) (oi := ({ dst := some 17, op := Op.fieldAddr 60 (Operand.tmp 1) 1, type := 0, pos := _, after := #[], guard := none } : Oper)) (v := ?_) rfl (by kernel_rfl) (by kernel_rfl) (by kernel_rfl) (fun _ _ _ h => h) (Or.inl ⟨by rfl, ?_⟩) hHeld ?_
    rotate_left
    · (intro w hS; go_simp; try with_reducible rfl)
    try simp only [Act.put, List.setIfInBounds_toArray, List.set_cons_zero, List.set_cons_succ]
    refine wpAnyH_take (i := 4) (oi := ({ dst := some 18, op := Op.load 25 (Operand.tmp 17), type := 25, pos := _, after := #[{ on := 3, ground := Ground.data }], guard := none } : Oper)) (v := ?_) rfl (by kernel_rfl) (by kernel_rfl) (by kernel_rfl) (fun _ _ _ h => h) (Or.inl ⟨by rfl, ?_⟩) hHeld ?_
    rotate_left
    · (intro w hS; have e1 := hS.1.cell 1 _ rfl; go_simp; try with_reducible rfl)
    try simp only [Act.put, List.setIfInBounds_toArray, List.set_cons_zero, List.set_cons_succ]
    refine wpAnyH_take (i := 5) (oi := ({ dst := some 19, op := Op.slice 25 (Operand.tmp 18) (some (Operand.const (Value.int IntKind.i64 3))) none none, type := 25, pos := _, after := #[{ on := 4, ground := Ground.data }], guard := none } : Oper)) (v := ?_) rfl (by kernel_rfl) (by kernel_rfl) (by kernel_rfl) (fun _ _ _ h => h) (Or.inl ⟨by rfl, ?_⟩) hHeld ?_
    rotate_left
    · (intro w hS; go_simp; try with_reducible rfl)
    try simp only [Act.put, List.setIfInBounds_toArray, List.set_cons_zero, List.set_cons_succ]
    refine wpAnyH_take (i := 6) (oi := ({ dst := some 5, op := Op.assign (Operand.tmp 16), type := 25, pos := _, after := #[{ on := 2, ground := Ground.data }, { on := 0, ground := Ground.phase }, { on := 1, ground := Ground.phase }, { on := 2, ground := Ground.phase }, { on := 3, ground := Ground.textOnly Departure.lateStores }, { on := 4, ground := Ground.textOnly Departure.lateStores }, { on := 5, ground := Ground.textOnly Departure.lateStoresUnsure }], guard := none } : Oper)) (v := ?_) rfl (by kernel_rfl) (by kernel_rfl) (by kernel_rfl) (fun _ _ _ h => h) (Or.inl ⟨by rfl, ?_⟩) hHeld ?_
    rotate_left
    · (intro w hS; go_simp; try with_reducible rfl)
    try simp only [Act.put, List.setIfInBounds_toArray, List.set_cons_zero, List.set_cons_succ]
    refine wpAnyH_take (i := 7) (oi := ({ dst := some 6, op := Op.assign (Operand.tmp 19), type := 25, pos := _, after := #[{ on := 5, ground := Ground.data }, { on := 6, ground := Ground.chain }, { on := 0, ground := Ground.phase }, { on := 1, ground := Ground.phase }, { on := 2, ground := Ground.phase }, { on := 3, ground := Ground.phase }, { on := 4, ground := Ground.phase }, { on := 5, ground := Ground.phase }, { on := 6, ground := Ground.phase }], guard := none } : Oper)) (v := ?_) rfl (by kernel_rfl) (by kernel_rfl) (by kernel_rfl) (fun _ _ _ h => h) (Or.inl ⟨by rfl, ?_⟩) hHeld ?_
    rotate_left
    · (intro w hS; go_simp; try with_reducible rfl)
    try simp only [Act.put, List.setIfInBounds_toArray, List.set_cons_zero, List.set_cons_succ]
    refine wpAnyH_done (by kernel_rfl) ?_ _
    skip
    have hH := hHeld
    obtain ⟨K2, R2, B2⟩ := hH
    clear K1 R1 B1 hHeld
    generalize w1.drew = w2 at *
    go_upto_region 5 with fail
    go_cut [7] (fun s wx => ∃ q, s = .pointer (some ⟨q, 0, none⟩) ∧ BK wx q (kC ((i0.toNat : Int), (n1 : Int), (n2 : Int))) 43 ∧ BK wx (w.heap.size + 1) (kC (0, 0, 0)) 43 ∧ Below w.heap.size w wx)
    case first =>
      have lq := R2.lt
      refine wp_region_held_drew (S := (fun w' => BK w' w.heap.size #[.int .u8 (x.id.toNat : Int), .slice (some ⟨b, off, none⟩) 5 c] 60 ∧ BK w' (w.heap.size + 1) (kC (0, 0, 0)) 43 ∧ Below w.heap.size w w')) (by kernel_rfl) ⟨K2.drew, R2.drew, B2.drew⟩ (fun hHeld => ?_)
      refine wpAnyH_take (i := 0) (oi := ({ dst := some 20, op := Op.fieldAddr 60 (Operand.tmp 1) 1, type := 0, pos := _, after := #[], guard := none } : Oper)) (v := ?_) rfl (by kernel_rfl) (by kernel_rfl) (by kernel_rfl) (fun _ _ _ h => h) (Or.inl ⟨by rfl, ?_⟩) hHeld ?_
      rotate_left
      · (intro w hS; go_simp; try with_reducible rfl)
      try simp only [Act.put, List.setIfInBounds_toArray, List.set_cons_zero, List.set_cons_succ]
      refine wpAnyH_take (i := 1) (oi := ({ dst := some 21, op := Op.load 25 (Operand.tmp 20), type := 25, pos := _, after := #[{ on := 0, ground := Ground.data }], guard := none } : Oper)) (v := ?_) rfl (by kernel_rfl) (by kernel_rfl) (by kernel_rfl) (fun _ _ _ h => h) (Or.inl ⟨by rfl, ?_⟩) hHeld ?_
      rotate_left
      · (intro w hS; have e1 := hS.1.cell 1 _ rfl; go_simp; try with_reducible rfl)
      try simp only [Act.put, List.setIfInBounds_toArray, List.set_cons_zero, List.set_cons_succ]
      refine wpAnyH_take (i := 2) (oi := ({ dst := some 22, op := Op.indexAddr 25 (Operand.tmp 21) (Operand.const (Value.int IntKind.i64 0)), type := 0, pos := _, after := #[{ on := 1, ground := Ground.data }], guard := none } : Oper)) (v := ?_) rfl (by kernel_rfl) (by kernel_rfl) (by kernel_rfl) (fun _ _ _ h => h) (Or.inl ⟨by rfl, ?_⟩) hHeld ?_
      rotate_left
      · (intro w hS; go_simp; try with_reducible rfl)
      try simp only [Act.put, List.setIfInBounds_toArray, List.set_cons_zero, List.set_cons_succ]
      refine wpAnyH_take (i := 3) (oi := ({ dst := some 23, op := Op.load 5 (Operand.tmp 22), type := 5, pos := _, after := #[{ on := 2, ground := Ground.data }], guard := none } : Oper)) (v := ?_) rfl (by kernel_rfl) (by kernel_rfl) (by kernel_rfl) (fun _ _ _ h => h) (Or.inl ⟨by rfl, ?_⟩) hHeld ?_
      rotate_left
      · (intro w hS; have e3 := D0.out w hS.2.2; go_simp; try with_reducible rfl)
      try simp only [Act.put, List.setIfInBounds_toArray, List.set_cons_zero, List.set_cons_succ]
      refine wpAnyH_take (i := 4) (oi := ({ dst := some 24, op := Op.convert 5 3 (Operand.tmp 23), type := 3, pos := _, after := #[{ on := 3, ground := Ground.data }], guard := none } : Oper)) (v := ?_) rfl (by kernel_rfl) (by kernel_rfl) (by kernel_rfl) (fun _ _ _ h => h) (Or.inl ⟨by rfl, ?_⟩) hHeld ?_
      rotate_left
      · (intro w hS; go_simp; try with_reducible rfl)
      try simp only [Act.put, List.setIfInBounds_toArray, List.set_cons_zero, List.set_cons_succ]
      refine wpAnyH_take (i := 5) (oi := ({ dst := some 25, op := Op.move (Operand.tmp 5), type := 25, pos := _, after := #[], guard := none } : Oper)) (v := ?_) rfl (by kernel_rfl) (by kernel_rfl) (by kernel_rfl) (fun _ _ _ h => h) (Or.inl ⟨by rfl, ?_⟩) hHeld ?_
      rotate_left
      · (intro w hS; go_simp; try with_reducible rfl)
      try simp only [Act.put, List.setIfInBounds_toArray, List.set_cons_zero, List.set_cons_succ]
      refine wpAnyH_take (i := 7) (oi := ({ dst := some 27, op := Op.move (Operand.tmp 6), type := 25, pos := _, after := #[], guard := none } : Oper)) (v := ?_) rfl (by kernel_rfl) (by kernel_rfl) (by kernel_rfl) (fun _ _ _ h => h) (Or.inl ⟨by rfl, ?_⟩) hHeld ?_
      rotate_left
      · (intro w hS; go_simp; try with_reducible rfl)
      try simp only [Act.put, List.setIfInBounds_toArray, List.set_cons_zero, List.set_cons_succ]
      refine wpAnyH_ready (rs := [6, 10]) (by kernel_rfl) (by simp) ?_
      refine AllReadyH.cons (o := ({ dst := some 26, op := Op.call { callee := Callee.value (Operand.func 61), args := #[Operand.tmp 25], argTypes := #[25] }, type := 3, pos := _, after := #[{ on := 5, ground := Ground.data }], guard := none } : Oper)) rfl (fun K hK => ?_) (AllReadyH.cons (o := ({ dst := some 7, op := Op.alloc 43, type := 0, pos := _, after := #[], guard := none } : Oper)) rfl (fun K hK => ?_) (AllReadyH.nil))
      · refine step_call (N1.out _ hHeld.2.2) (enters_of Tryd.func61 (by kernel_rfl) rfl) _ _ rfl rfl rfl ?_
        rintro e v1 ⟨rfl, d1⟩
        try (have Y3 := Y3.below d1 Y3.lt)
        refine ⟨_, rfl, hK.out _ _ ⟨hHeld.1.below d1 hHeld.1.lt, hHeld.2.1.below d1 hHeld.2.1.lt, hHeld.2.2.trans (d1.mono hHeld.2.2.size)⟩ (fun hHeld => ?_)⟩
        clear hK K
        try simp only [Act.put, List.setIfInBounds_toArray, List.set_cons_zero, List.set_cons_succ]
        refine wpAnyH_ready (rs := [8, 10]) (by kernel_rfl) (by simp) ?_
        refine AllReadyH.cons (o := ({ dst := some 28, op := Op.call { callee := Callee.value (Operand.func 61), args := #[Operand.tmp 27], argTypes := #[25] }, type := 3, pos := _, after := #[{ on := 7, ground := Ground.data }, { on := 6, ground := Ground.chain }], guard := none } : Oper)) rfl (fun K hK => ?_) (AllReadyH.cons (o := ({ dst := some 7, op := Op.alloc 43, type := 0, pos := _, after := #[], guard := none } : Oper)) rfl (fun K hK => ?_) (AllReadyH.nil))
        · refine step_call (N2.out _ hHeld.2.2) (enters_of Tryd.func61 (by kernel_rfl) rfl) _ _ rfl rfl rfl ?_
          rintro e v2 ⟨rfl, d2⟩
          try (have Y3 := Y3.below d2 Y3.lt)
          refine ⟨_, rfl, hK.out _ _ ⟨hHeld.1.below d2 hHeld.1.lt, hHeld.2.1.below d2 hHeld.2.1.lt, hHeld.2.2.trans (d2.mono hHeld.2.2.size)⟩ (fun hHeld => ?_)⟩
          clear hK K
          try simp only [Act.put, List.setIfInBounds_toArray, List.set_cons_zero, List.set_cons_succ]
          refine wpAnyH_take (i := 9) (oi := ({ dst := some 29, op := Op.build 43 #[(0, Operand.tmp 24), (1, Operand.tmp 26), (2, Operand.tmp 28)], type := 43, pos := _, after := #[{ on := 4, ground := Ground.data }, { on := 6, ground := Ground.data }, { on := 8, ground := Ground.data }], guard := none } : Oper)) (v := ?_) rfl (by kernel_rfl) (by kernel_rfl) (by kernel_rfl) (fun _ _ _ h => h) (Or.inl ⟨by rfl, ?_⟩) hHeld ?_
          rotate_left
          · (intro w hS; go_simp; try with_reducible rfl)
          try simp only [Act.put, List.setIfInBounds_toArray, List.set_cons_zero, List.set_cons_succ]
          refine wpAnyH_ready (rs := [10]) (by kernel_rfl) (by simp) ?_
          refine AllReadyH.cons (o := ({ dst := some 7, op := Op.alloc 43, type := 0, pos := _, after := #[], guard := none } : Oper)) rfl (fun K hK => ?_) AllReadyH.nil
          refine step_al (Z := #[.int .i64 0, .int .i64 0, .int .i64 0]) rfl rfl zero_K ?_
          first|(have Y3 := bk_new v2 (kC (0, 0, 0)) 43; have hq3 : w.heap.size + 1 < v2.heap.size := hHeld.2.1.lt)|(have Y3 := bk_new v1 (kC (0, 0, 0)) 43; have hq3 : w.heap.size + 1 < v1.heap.size := hHeld.2.1.lt)|(have Y3 := bk_new w2.drew (kC (0, 0, 0)) 43; (replace Y3 : BK _ w2.heap.size (kC (0, 0, 0)) 43 := Y3); have hq4 : w.heap.size + 1 < w2.heap.size := hHeld.2.1.lt; have hq3 : w.heap.size + 1 < w2.drew.heap.size := hq4)
          refine hK.out _ _ ⟨hHeld.1.alloc _, hHeld.2.1.alloc _, hHeld.2.2.alloc hHeld.2.2.size _⟩ (fun hHeld => ?_)
          clear hK K
          try simp only [Act.put, List.setIfInBounds_toArray, List.set_cons_zero, List.set_cons_succ]
          refine wpAnyH_ready (rs := [11]) (by kernel_rfl) (by simp) ?_
          refine AllReadyH.cons (o := ({ dst := none, op := Op.store 43 (Operand.tmp 7) (Operand.tmp 29), type := 0, pos := _, after := #[{ on := 10, ground := Ground.data }, { on := 9, ground := Ground.data }, { on := 8, ground := Ground.chain }, { on := 0, ground := Ground.phase }, { on := 1, ground := Ground.phase }, { on := 2, ground := Ground.phase }, { on := 3, ground := Ground.phase }, { on := 4, ground := Ground.phase }, { on := 5, ground := Ground.phase }, { on := 6, ground := Ground.phase }, { on := 7, ground := Ground.phase }, { on := 8, ground := Ground.phase }, { on := 9, ground := Ground.phase }, { on := 10, ground := Ground.phase }], guard := none } : Oper)) rfl (fun K hK => ?_) AllReadyH.nil
          refine step_st (ty := 43) (V := kC (0, 0, 0)) (C := kC ((i0.toNat : Int), (n1 : Int), (n2 : Int))) (by rfl) (by rfl) (by rfl) (by rfl) (by exact Y3) size_K (by rfl) (one_K _) ?_
          intro v4 Y4 d4 but4 z4
          refine hK.out _ _ ⟨hHeld.1.but but4 hHeld.1.lt (by omega), hHeld.2.1.but but4 hHeld.2.1.lt (by omega), hHeld.2.2.trans (d4 _ (by omega))⟩ (fun hHeld => ?_)
          clear hK K
          try simp only [Act.put, List.setIfInBounds_toArray, List.set_cons_zero, List.set_cons_succ]
          refine wpAnyH_done (by kernel_rfl) ?_ _
          go_wp2
          go_meet
          exact ⟨_, rfl, Y4, hHeld.2.1, hHeld.2.2⟩
        · refine step_al (Z := #[.int .i64 0, .int .i64 0, .int .i64 0]) rfl rfl zero_K ?_
          first|(have Y3 := bk_new v2 (kC (0, 0, 0)) 43; have hq3 : w.heap.size + 1 < v2.heap.size := hHeld.2.1.lt)|(have Y3 := bk_new v1 (kC (0, 0, 0)) 43; have hq3 : w.heap.size + 1 < v1.heap.size := hHeld.2.1.lt)|(have Y3 := bk_new w2.drew (kC (0, 0, 0)) 43; (replace Y3 : BK _ w2.heap.size (kC (0, 0, 0)) 43 := Y3); have hq4 : w.heap.size + 1 < w2.heap.size := hHeld.2.1.lt; have hq3 : w.heap.size + 1 < w2.drew.heap.size := hq4)
          refine hK.out _ _ ⟨hHeld.1.alloc _, hHeld.2.1.alloc _, hHeld.2.2.alloc hHeld.2.2.size _⟩ (fun hHeld => ?_)
          clear hK K
          try simp only [Act.put, List.setIfInBounds_toArray, List.set_cons_zero, List.set_cons_succ]
          refine wpAnyH_ready (rs := [8]) (by kernel_rfl) (by simp) ?_
          refine AllReadyH.cons (o := ({ dst := some 28, op := Op.call { callee := Callee.value (Operand.func 61), args := #[Operand.tmp 27], argTypes := #[25] }, type := 3, pos := _, after := #[{ on := 7, ground := Ground.data }, { on := 6, ground := Ground.chain }], guard := none } : Oper)) rfl (fun K hK => ?_) AllReadyH.nil
          refine step_call (N2.out _ hHeld.2.2) (enters_of Tryd.func61 (by kernel_rfl) rfl) _ _ rfl rfl rfl ?_
          rintro e v2 ⟨rfl, d2⟩
          try (have Y3 := Y3.below d2 Y3.lt)
          refine ⟨_, rfl, hK.out _ _ ⟨hHeld.1.below d2 hHeld.1.lt, hHeld.2.1.below d2 hHeld.2.1.lt, hHeld.2.2.trans (d2.mono hHeld.2.2.size)⟩ (fun hHeld => ?_)⟩
          clear hK K
          try simp only [Act.put, List.setIfInBounds_toArray, List.set_cons_zero, List.set_cons_succ]
          refine wpAnyH_take (i := 9) (oi := ({ dst := some 29, op := Op.build 43 #[(0, Operand.tmp 24), (1, Operand.tmp 26), (2, Operand.tmp 28)], type := 43, pos := _, after := #[{ on := 4, ground := Ground.data }, { on := 6, ground := Ground.data }, { on := 8, ground := Ground.data }], guard := none } : Oper)) (v := ?_) rfl (by kernel_rfl) (by kernel_rfl) (by kernel_rfl) (fun _ _ _ h => h) (Or.inl ⟨by rfl, ?_⟩) hHeld ?_
          rotate_left
          · (intro w hS; go_simp; try with_reducible rfl)
          try simp only [Act.put, List.setIfInBounds_toArray, List.set_cons_zero, List.set_cons_succ]
          refine wpAnyH_ready (rs := [11]) (by kernel_rfl) (by simp) ?_
          refine AllReadyH.cons (o := ({ dst := none, op := Op.store 43 (Operand.tmp 7) (Operand.tmp 29), type := 0, pos := _, after := #[{ on := 10, ground := Ground.data }, { on := 9, ground := Ground.data }, { on := 8, ground := Ground.chain }, { on := 0, ground := Ground.phase }, { on := 1, ground := Ground.phase }, { on := 2, ground := Ground.phase }, { on := 3, ground := Ground.phase }, { on := 4, ground := Ground.phase }, { on := 5, ground := Ground.phase }, { on := 6, ground := Ground.phase }, { on := 7, ground := Ground.phase }, { on := 8, ground := Ground.phase }, { on := 9, ground := Ground.phase }, { on := 10, ground := Ground.phase }], guard := none } : Oper)) rfl (fun K hK => ?_) AllReadyH.nil
          refine step_st (ty := 43) (V := kC (0, 0, 0)) (C := kC ((i0.toNat : Int), (n1 : Int), (n2 : Int))) (by rfl) (by rfl) (by rfl) (by rfl) (by exact Y3) size_K (by rfl) (one_K _) ?_
          intro v4 Y4 d4 but4 z4
          refine hK.out _ _ ⟨hHeld.1.but but4 hHeld.1.lt (by omega), hHeld.2.1.but but4 hHeld.2.1.lt (by omega), hHeld.2.2.trans (d4 _ (by omega))⟩ (fun hHeld => ?_)
          clear hK K
          try simp only [Act.put, List.setIfInBounds_toArray, List.set_cons_zero, List.set_cons_succ]
          refine wpAnyH_done (by kernel_rfl) ?_ _
          go_wp2
          go_meet
          exact ⟨_, rfl, Y4, hHeld.2.1, hHeld.2.2⟩
      · refine step_al (Z := #[.int .i64 0, .int .i64 0, .int .i64 0]) rfl rfl zero_K ?_
        first|(have Y3 := bk_new v2 (kC (0, 0, 0)) 43; have hq3 : w.heap.size + 1 < v2.heap.size := hHeld.2.1.lt)|(have Y3 := bk_new v1 (kC (0, 0, 0)) 43; have hq3 : w.heap.size + 1 < v1.heap.size := hHeld.2.1.lt)|(have Y3 := bk_new w2.drew (kC (0, 0, 0)) 43; (replace Y3 : BK _ w2.heap.size (kC (0, 0, 0)) 43 := Y3); have hq4 : w.heap.size + 1 < w2.heap.size := hHeld.2.1.lt; have hq3 : w.heap.size + 1 < w2.drew.heap.size := hq4)
        refine hK.out _ _ ⟨hHeld.1.alloc _, hHeld.2.1.alloc _, hHeld.2.2.alloc hHeld.2.2.size _⟩ (fun hHeld => ?_)
        clear hK K
        try simp only [Act.put, List.setIfInBounds_toArray, List.set_cons_zero, List.set_cons_succ]
        refine wpAnyH_ready (rs := [6]) (by kernel_rfl) (by simp) ?_
        refine AllReadyH.cons (o := ({ dst := some 26, op := Op.call { callee := Callee.value (Operand.func 61), args := #[Operand.tmp 25], argTypes := #[25] }, type := 3, pos := _, after := #[{ on := 5, ground := Ground.data }], guard := none } : Oper)) rfl (fun K hK => ?_) AllReadyH.nil
        refine step_call (N1.out _ hHeld.2.2) (enters_of Tryd.func61 (by kernel_rfl) rfl) _ _ rfl rfl rfl ?_
        rintro e v1 ⟨rfl, d1⟩
        try (have Y3 := Y3.below d1 Y3.lt)
        refine ⟨_, rfl, hK.out _ _ ⟨hHeld.1.below d1 hHeld.1.lt, hHeld.2.1.below d1 hHeld.2.1.lt, hHeld.2.2.trans (d1.mono hHeld.2.2.size)⟩ (fun hHeld => ?_)⟩
        clear hK K
        try simp only [Act.put, List.setIfInBounds_toArray, List.set_cons_zero, List.set_cons_succ]
        refine wpAnyH_ready (rs := [8]) (by kernel_rfl) (by simp) ?_
        refine AllReadyH.cons (o := ({ dst := some 28, op := Op.call { callee := Callee.value (Operand.func 61), args := #[Operand.tmp 27], argTypes := #[25] }, type := 3, pos := _, after := #[{ on := 7, ground := Ground.data }, { on := 6, ground := Ground.chain }], guard := none } : Oper)) rfl (fun K hK => ?_) AllReadyH.nil
        refine step_call (N2.out _ hHeld.2.2) (enters_of Tryd.func61 (by kernel_rfl) rfl) _ _ rfl rfl rfl ?_
        rintro e v2 ⟨rfl, d2⟩
        try (have Y3 := Y3.below d2 Y3.lt)
        refine ⟨_, rfl, hK.out _ _ ⟨hHeld.1.below d2 hHeld.1.lt, hHeld.2.1.below d2 hHeld.2.1.lt, hHeld.2.2.trans (d2.mono hHeld.2.2.size)⟩ (fun hHeld => ?_)⟩
        clear hK K
        try simp only [Act.put, List.setIfInBounds_toArray, List.set_cons_zero, List.set_cons_succ]
        refine wpAnyH_take (i := 9) (oi := ({ dst := some 29, op := Op.build 43 #[(0, Operand.tmp 24), (1, Operand.tmp 26), (2, Operand.tmp 28)], type := 43, pos := _, after := #[{ on := 4, ground := Ground.data }, { on := 6, ground := Ground.data }, { on := 8, ground := Ground.data }], guard := none } : Oper)) (v := ?_) rfl (by kernel_rfl) (by kernel_rfl) (by kernel_rfl) (fun _ _ _ h => h) (Or.inl ⟨by rfl, ?_⟩) hHeld ?_
        rotate_left
        · (intro w hS; go_simp; try with_reducible rfl)
        try simp only [Act.put, List.setIfInBounds_toArray, List.set_cons_zero, List.set_cons_succ]
        refine wpAnyH_ready (rs := [11]) (by kernel_rfl) (by simp) ?_
        refine AllReadyH.cons (o := ({ dst := none, op := Op.store 43 (Operand.tmp 7) (Operand.tmp 29), type := 0, pos := _, after := #[{ on := 10, ground := Ground.data }, { on := 9, ground := Ground.data }, { on := 8, ground := Ground.chain }, { on := 0, ground := Ground.phase }, { on := 1, ground := Ground.phase }, { on := 2, ground := Ground.phase }, { on := 3, ground := Ground.phase }, { on := 4, ground := Ground.phase }, { on := 5, ground := Ground.phase }, { on := 6, ground := Ground.phase }, { on := 7, ground := Ground.phase }, { on := 8, ground := Ground.phase }, { on := 9, ground := Ground.phase }, { on := 10, ground := Ground.phase }], guard := none } : Oper)) rfl (fun K hK => ?_) AllReadyH.nil
        refine step_st (ty := 43) (V := kC (0, 0, 0)) (C := kC ((i0.toNat : Int), (n1 : Int), (n2 : Int))) (by rfl) (by rfl) (by rfl) (by rfl) (by exact Y3) size_K (by rfl) (one_K _) ?_
        intro v4 Y4 d4 but4 z4
        refine hK.out _ _ ⟨hHeld.1.but but4 hHeld.1.lt (by omega), hHeld.2.1.but but4 hHeld.2.1.lt (by omega), hHeld.2.2.trans (d4 _ (by omega))⟩ (fun hHeld => ?_)
        clear hK K
        try simp only [Act.put, List.setIfInBounds_toArray, List.set_cons_zero, List.set_cons_succ]
        refine wpAnyH_done (by kernel_rfl) ?_ _
        go_wp2
        go_meet
        exact ⟨_, rfl, Y4, hHeld.2.1, hHeld.2.2⟩
    case rest =>
    obtain ⟨q, rfl, Y5, R5, B5⟩ := hcut
    obtain ⟨wd, hwd⟩ : ∃ z, z = wc := ⟨_, rfl⟩
    subst hwd
    clear K2 R2 B2 D0 N1 N2 wi
    cases hk : rightK ((i0.toNat : Int), (n1 : Int), (n2 : Int))
    · rw [hk, if_neg (by simp)] at hr
      rw [hk] at HR
      have HX : Hid (rkN x = ((0, 0, 0), 1)) := hr
      clear hr hk
      go_wp2_with (with_reducible show wpList _ _ _ (Oper.mk _ (Op.load 43 _) _ _ _ _ :: _) _ _; refine wpList_ld rfl rfl rfl (run_ldK (by with_reducible assumption)) ?_; (try simp only [Act.put, List.setIfInBounds_toArray, List.set_cons_zero, List.set_cons_succ, World.size_alloc]))
      refine (HR _).mono ?_
      rintro e w6 ⟨rfl, b6⟩
      have R6 := R5.below b6 R5.lt
      have B6 := B5.trans (b6.mono B5.size)
      clear HR R5 Y5 B5 b6
      go_wp2_with (with_reducible show wpList _ _ _ (Oper.mk _ (Op.store 43 _ _) _ _ _ _ :: _) _ _; refine stop_here ?_)
      refine ⟨?_⟩
      refine wpList_st rfl rfl rfl rfl R6 size_K rfl (by simp [Value.oneCell']) ?_
      intro w7 K7 b7 but7 z7
      go_wp2
      refine bodyPost_ret (v := .tuple #[.agg (kC (0, 0, 0)), .int .i64 1]) (results_cell_tmp_row Tryd.results40 _ _ _ _ _ _ _ _ rfl rfl K7 Tryd.underlying43 rfl size_K) rfl ⟨by rw [HX.out], B6.trans (b7 _ (Nat.le_succ _))⟩
    · rw [hk, if_pos rfl] at hr
      rw [hk] at HR
      have HX : Hid (rkN x = (((i0.toNat : Int), (n1 : Int), (n2 : Int)), 0)) := hr
      clear hr hk
      go_wp2_with (with_reducible show wpList _ _ _ (Oper.mk _ (Op.load 43 _) _ _ _ _ :: _) _ _; refine wpList_ld rfl rfl rfl (run_ldK (by with_reducible assumption)) ?_; (try simp only [Act.put, List.setIfInBounds_toArray, List.set_cons_zero, List.set_cons_succ, World.size_alloc]))
      refine (HR _).mono ?_
      rintro e w6 ⟨rfl, b6⟩
      have R6 := R5.below b6 R5.lt
      have Y6 := Y5.below b6 Y5.lt
      have B6 := B5.trans (b6.mono B5.size)
      clear HR R5 Y5 B5 b6
      go_wp2_with (first | (with_reducible show wpList _ _ _ (Oper.mk _ (Op.load 43 _) _ _ _ _ :: _) _ _; refine wpList_ld rfl rfl rfl (run_ldK (by with_reducible assumption)) ?_; (try simp only [Act.put, List.setIfInBounds_toArray, List.set_cons_zero, List.set_cons_succ, World.size_alloc])) | (with_reducible show wpList _ _ _ (Oper.mk _ (Op.store 43 _ _) _ _ _ _ :: _) _ _; refine stop_here ?_))
      refine ⟨?_⟩
      refine wpList_st rfl rfl rfl rfl R6 size_K rfl (by simp [Value.oneCell']) ?_
      intro w7 K7 b7 but7 z7
      go_wp2
      refine bodyPost_ret (v := .tuple #[.agg (kC ((i0.toNat : Int), (n1 : Int), (n2 : Int))), .int .i64 0]) (results_cell_tmp_row Tryd.results40 _ _ _ _ _ _ _ _ rfl rfl K7 Tryd.underlying43 rfl size_K) rfl ⟨by rw [HX.out], B6.trans (b7 _ (Nat.le_succ _))⟩
  · have hX : rkN x = ((0, 0, 0), wrongN x 90 5) := by
      by_cases h1 : x.id = 90
      · by_cases h2 : x.body.length = 5
        · exfalso; apply hw0; unfold wrongN; rw [if_neg (by simpa using h1), if_neg (by simpa using h2)]
        · rw [rk_form h1 h2]; unfold wrongN; rw [if_neg (by simpa using h1), if_pos h2]
      · rw [rk_kind h1]; unfold wrongN; rw [if_pos h1]
    have HX : Hid (rkN x = ((0, 0, 0), wrongN x 90 5)) := hX
    generalize wrongN x 90 5 = E at *
    have q1 : (E != 0) = true := by rw [bne_iff_ne]; exact hw0
    clear hX hw0 hI
    go_enter Tryd.func40, Tryd.ntmps40
    go_wp2_with (with_reducible show wpList _ _ _ (Oper.mk _ (Op.load 60 _) _ _ _ _ :: _) _ _; refine wpList_ld rfl rfl rfl (run_ldI (by with_reducible assumption)) ?_; (try simp only [Act.put, List.setIfInBounds_toArray, List.set_cons_zero, List.set_cons_succ, World.size_alloc]))
    refine HW.mono ?_
    rintro e w1 ⟨rfl, b1⟩
    have B1 := A0.trans (b1.mono A0.size)
    have R1 := R0.below b1 R0.lt
    clear HW A0 K0 R0 b1
    go_wp2_with (with_reducible show wpList _ _ _ (Oper.mk _ (Op.store 43 _ _) _ _ _ _ :: _) _ _; refine stop_here ?_)
    refine ⟨?_⟩
    refine wpList_st rfl rfl rfl rfl R1 size_K rfl (by simp [Value.oneCell']) ?_
    intro w7 K7 b7 but7 z7
    go_wp2
    refine bodyPost_ret (v := .tuple #[.agg (kC (0, 0, 0)), .int .i64 E]) (results_cell_tmp_row Tryd.results40 _ _ _ _ _ _ _ _ rfl rfl K7 Tryd.underlying43 rfl size_K) rfl ⟨by rw [HX.out], B1.trans (b7 _ (Nat.le_succ _))⟩
end Go.Proofs.YtbjeljmnknibnaaDoor
