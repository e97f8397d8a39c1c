/- Proved here: what the document's ReadKey answers. Conditions: as the theorem states them. -/
import Derived.Test.YtbjeljmnknibnaaDoorRk
namespace Go.Proofs.YtbjeljmnknibnaaDoor
set_option linter.unusedSimpArgs false
set_option linter.unusedVariables false
set_option maxRecDepth 20000
open Go.RowKit Go.Shelf

set_option maxHeartbeats 4000000 in
theorem refrk_calls (x : El) (a : Option Addr) (l c : Nat) (w : World) {n : Nat} (hI : IsB n w a l x.body) (hn : n ≤ w.heap.size) (hlc : l ≤ c) : Calls Tryd.prog 43 #[ieV x.id a l c] w fun e w' => e = .returned (.tuple #[.agg (kC (rkN x).1), .int .i64 (rkN x).2]) ∧ Below w.heap.size w w' := by
  have A0 : Below w.heap.size w ((w.alloc (.cells #[.int .u8 (x.id.toNat : Int), .slice a l c] 60)).alloc (.cells #[.int .i64 0, .int .i64 0, .int .i64 0] 43)) := ((Below.refl _ w).alloc (Nat.le_refl _) _).alloc (by simp) _
  have K0 : BK ((w.alloc (.cells #[.int .u8 (x.id.toNat : Int), .slice a l c] 60)).alloc (.cells #[.int .i64 0, .int .i64 0, .int .i64 0] 43)) w.heap.size #[.int .u8 (x.id.toNat : Int), .slice a l c] 60 := (ie_box (w := w) (x := x) (a := a) (l := l) (c := c)).alloc _
  have R0 : BK ((w.alloc (.cells #[.int .u8 (x.id.toNat : Int), .slice a l c] 60)).alloc (.cells #[.int .i64 0, .int .i64 0, .int .i64 0] 43)) (w.heap.size + 1) (kC (0, 0, 0)) 43 := by
    have := ky_new (w.alloc (.cells #[.int .u8 (x.id.toNat : Int), .slice a l c] 60))
    rwa [World.size_alloc] at this
  by_cases h1 : x.id = 90
  · by_cases h2 : x.body.length = 5
    · have hn' := hn
      obtain ⟨i0, i1, i2, i3, i4, hb5⟩ := five_of h2
      have hr := rk_five h1 hb5
      obtain rfl : l = 5 := hI.1.trans h2
      rw [hb5] at hI
      obtain ⟨b, off, rfl, hb, hc⟩ := hI.cell (k := 0) (x := i0) rfl
      have J1 : IsB n w (some ⟨b, off + 1, none⟩) 2 [i1, i2] := by
        have h3 : IsB n w (some ⟨b, off, none⟩) 5 ([i0] ++ ([i1, i2] ++ [i3, i4])) := hI
        exact h3.dropA.takeA
      have J2 : IsB n w (some ⟨b, off + 3, none⟩) 2 [i3, i4] := by
        have h3 : IsB n w (some ⟨b, off, none⟩) 5 ([i0, i1, i2] ++ [i3, i4]) := hI
        exact h3.dropA
      have d0 := hc 0 i0 rfl
      rw [Nat.add_zero] at d0
      have D0 : Hid (∀ w', Below w.heap.size w w' → w'.cell? ⟨b, off, none⟩ = some (.int .u8 (i0.toNat : Int))) := fun w' h => (h.cell (p := ⟨b, off, none⟩) (by show b < _; omega)).trans d0
      have N1 : Hid (∀ w', Below w.heap.size w w' → Calls Tryd.prog 64 #[.slice (some ⟨b, off + 1, none⟩) 2 (c - 1)] w' fun e w'' => e = .returned (.int .i64 (numN [i1, i2] : Nat)) ∧ Below w'.heap.size w' w'') := fun w' h => refnumber_calls _ 2 _ _ w' (J1.below h hn) (Nat.le_trans hn h.size) (by decide)
      have N2 : Hid (∀ w', Below w.heap.size w w' → Calls Tryd.prog 64 #[.slice (some ⟨b, off + 3, none⟩) 2 (c - 3)] w' fun e w'' => e = .returned (.int .i64 (numN [i3, i4] : Nat)) ∧ Below w'.heap.size w' w'') := fun w' h => refnumber_calls _ 2 _ _ w' (J2.below h hn) (Nat.le_trans hn h.size) (by decide)
      have wi : IntKind.i64.wrap (i0.toNat : Int) = (i0.toNat : Int) := by have := i0.toNat_lt; rw [IntKind.wrap_i64]; omega
      have hc1 : ¬ c = 1 := by omega
      have hc3 : ¬ c = 3 := by omega
      have hcI : (3 : Int) ≤ (c : Int) := by omega
      have hcI5 : (5 : Int) ≤ (c : Int) := by omega
      have HR := rright_calls ((i0.toNat : Int), ((numN [i1, i2] : Nat) : Int), ((numN [i3, i4] : Nat) : Int))
      generalize numN [i1, i2] = n1 at *
      generalize numN [i3, i4] = n2 at *
      have K2 := K0
      have R2 := R0
      have B2 := A0
      have k0 := K0.cell 0 _ rfl
      have k1 := K0.cell 1 _ rfl
      have q1 : ((x.id.toNat : Int) != 90) = false := id_bne h1
      clear J1 J2 hI hc d0 hb5 h2 h1 A0 K0 R0
      go_enter Tryd.func43, Tryd.ntmps43
      go_wp2
      generalize (w.alloc (.cells #[.int .u8 (x.id.toNat : Int), .slice (some ⟨b, off, none⟩) 5 c] 60)).alloc (.cells #[.int .i64 0, .int .i64 0, .int .i64 0] 43) = w2 at *
      go_upto_region 5 with fail
      go_cut [4] (fun s wx => ∃ q, s = .pointer (some ⟨q, 0, none⟩) ∧ BK wx q (kC ((i0.toNat : Int), (n1 : Int), (n2 : Int))) 43 ∧ BK wx (w.heap.size + 1) (kC (0, 0, 0)) 43 ∧ Below w.heap.size w wx)
      case first =>
        have lq := R2.lt
        refine wp_region_held_drew (S := (fun w' => BK w' w.heap.size #[.int .u8 (x.id.toNat : Int), .slice (some ⟨b, off, none⟩) 5 c] 60 ∧ BK w' (w.heap.size + 1) (kC (0, 0, 0)) 43 ∧ Below w.heap.size w w')) (by kernel_rfl) ⟨K2.drew, R2.drew, B2.drew⟩ (fun hHeld => ?_)
        refine wpAnyH_take (i := 0) (oi := ({ dst := some 14, op := Op.fieldAddr 60 (Operand.tmp 1) 1, type := 0, pos := _, after := #[], guard := none } : Oper)) (v := ?_) rfl (by kernel_rfl) (by kernel_rfl) (by kernel_rfl) (fun _ _ _ h => h) (Or.inl ⟨by rfl, ?_⟩) hHeld ?_
        rotate_left
        · (intro w hS; go_simp; try with_reducible rfl)
        try simp only [Act.put, List.setIfInBounds_toArray, List.set_cons_zero, List.set_cons_succ]
        refine wpAnyH_take (i := 1) (oi := ({ dst := some 15, op := Op.load 25 (Operand.tmp 14), type := 25, pos := _, after := #[{ on := 0, ground := Ground.data }], guard := none } : Oper)) (v := ?_) rfl (by kernel_rfl) (by kernel_rfl) (by kernel_rfl) (fun _ _ _ h => h) (Or.inl ⟨by rfl, ?_⟩) hHeld ?_
        rotate_left
        · (intro w hS; have e1 := hS.1.cell 1 _ rfl; go_simp; try with_reducible rfl)
        try simp only [Act.put, List.setIfInBounds_toArray, List.set_cons_zero, List.set_cons_succ]
        refine wpAnyH_take (i := 2) (oi := ({ dst := some 16, op := Op.indexAddr 25 (Operand.tmp 15) (Operand.const (Value.int IntKind.i64 0)), type := 0, pos := _, after := #[{ on := 1, ground := Ground.data }], guard := none } : Oper)) (v := ?_) rfl (by kernel_rfl) (by kernel_rfl) (by kernel_rfl) (fun _ _ _ h => h) (Or.inl ⟨by rfl, ?_⟩) hHeld ?_
        rotate_left
        · (intro w hS; go_simp; try with_reducible rfl)
        try simp only [Act.put, List.setIfInBounds_toArray, List.set_cons_zero, List.set_cons_succ]
        refine wpAnyH_take (i := 3) (oi := ({ dst := some 17, op := Op.load 5 (Operand.tmp 16), type := 5, pos := _, after := #[{ on := 2, ground := Ground.data }], guard := none } : Oper)) (v := ?_) rfl (by kernel_rfl) (by kernel_rfl) (by kernel_rfl) (fun _ _ _ h => h) (Or.inl ⟨by rfl, ?_⟩) hHeld ?_
        rotate_left
        · (intro w hS; have e3 := D0.out w hS.2.2; go_simp; try with_reducible rfl)
        try simp only [Act.put, List.setIfInBounds_toArray, List.set_cons_zero, List.set_cons_succ]
        refine wpAnyH_take (i := 4) (oi := ({ dst := some 18, op := Op.convert 5 3 (Operand.tmp 17), type := 3, pos := _, after := #[{ on := 3, ground := Ground.data }], guard := none } : Oper)) (v := ?_) rfl (by kernel_rfl) (by kernel_rfl) (by kernel_rfl) (fun _ _ _ h => h) (Or.inl ⟨by rfl, ?_⟩) hHeld ?_
        rotate_left
        · (intro w hS; go_simp; try with_reducible rfl)
        try simp only [Act.put, List.setIfInBounds_toArray, List.set_cons_zero, List.set_cons_succ]
        refine wpAnyH_take (i := 5) (oi := ({ dst := some 19, op := Op.fieldAddr 60 (Operand.tmp 1) 1, type := 0, pos := _, after := #[], guard := none } : Oper)) (v := ?_) rfl (by kernel_rfl) (by kernel_rfl) (by kernel_rfl) (fun _ _ _ h => h) (Or.inl ⟨by rfl, ?_⟩) hHeld ?_
        rotate_left
        · (intro w hS; go_simp; try with_reducible rfl)
        try simp only [Act.put, List.setIfInBounds_toArray, List.set_cons_zero, List.set_cons_succ]
        refine wpAnyH_take (i := 6) (oi := ({ dst := some 20, op := Op.load 25 (Operand.tmp 19), type := 25, pos := _, after := #[{ on := 5, ground := Ground.data }], guard := none } : Oper)) (v := ?_) rfl (by kernel_rfl) (by kernel_rfl) (by kernel_rfl) (fun _ _ _ h => h) (Or.inl ⟨by rfl, ?_⟩) hHeld ?_
        rotate_left
        · (intro w hS; have e1 := hS.1.cell 1 _ rfl; go_simp; try with_reducible rfl)
        try simp only [Act.put, List.setIfInBounds_toArray, List.set_cons_zero, List.set_cons_succ]
        refine wpAnyH_take (i := 7) (oi := ({ dst := some 21, op := Op.slice 25 (Operand.tmp 20) (some (Operand.const (Value.int IntKind.i64 1))) (some (Operand.const (Value.int IntKind.i64 3))) none, type := 25, pos := _, after := #[{ on := 6, ground := Ground.data }], guard := none } : Oper)) (v := ?_) rfl (by kernel_rfl) (by kernel_rfl) (by kernel_rfl) (fun _ _ _ h => h) (Or.inl ⟨by rfl, ?_⟩) hHeld ?_
        rotate_left
        · (intro w hS; go_simp; try with_reducible rfl)
        try simp only [Act.put, List.setIfInBounds_toArray, List.set_cons_zero, List.set_cons_succ]
        refine wpAnyH_take (i := 9) (oi := ({ dst := some 23, op := Op.fieldAddr 60 (Operand.tmp 1) 1, type := 0, pos := _, after := #[], guard := none } : Oper)) (v := ?_) rfl (by kernel_rfl) (by kernel_rfl) (by kernel_rfl) (fun _ _ _ h => h) (Or.inl ⟨by rfl, ?_⟩) hHeld ?_
        rotate_left
        · (intro w hS; go_simp; try with_reducible rfl)
        try simp only [Act.put, List.setIfInBounds_toArray, List.set_cons_zero, List.set_cons_succ]
        refine wpAnyH_take (i := 10) (oi := ({ dst := some 24, op := Op.load 25 (Operand.tmp 23), type := 25, pos := _, after := #[{ on := 9, ground := Ground.data }], guard := none } : Oper)) (v := ?_) rfl (by kernel_rfl) (by kernel_rfl) (by kernel_rfl) (fun _ _ _ h => h) (Or.inl ⟨by rfl, ?_⟩) hHeld ?_
        rotate_left
        · (intro w hS; have e1 := hS.1.cell 1 _ rfl; go_simp; try with_reducible rfl)
        try simp only [Act.put, List.setIfInBounds_toArray, List.set_cons_zero, List.set_cons_succ]
        refine wpAnyH_take (i := 11) (oi := ({ dst := some 25, op := Op.slice 25 (Operand.tmp 24) (some (Operand.const (Value.int IntKind.i64 3))) (some (Operand.const (Value.int IntKind.i64 5))) none, type := 25, pos := _, after := #[{ on := 10, ground := Ground.data }], guard := none } : Oper)) (v := ?_) rfl (by kernel_rfl) (by kernel_rfl) (by kernel_rfl) (fun _ _ _ h => h) (Or.inl ⟨by rfl, ?_⟩) hHeld ?_
        rotate_left
        · (intro w hS; go_simp; try with_reducible rfl)
        try simp only [Act.put, List.setIfInBounds_toArray, List.set_cons_zero, List.set_cons_succ]
        refine wpAnyH_ready (rs := [8, 14]) (by kernel_rfl) (by simp) ?_
        refine AllReadyH.cons (o := ({ dst := some 22, op := Op.call { callee := Callee.value (Operand.func 64), args := #[Operand.tmp 21], argTypes := #[25] }, type := 3, pos := _, after := #[{ on := 7, ground := Ground.data }], guard := none } : Oper)) rfl (fun K hK => ?_) (AllReadyH.cons (o := ({ dst := some 4, op := Op.alloc 43, type := 0, pos := _, after := #[], guard := none } : Oper)) rfl (fun K hK => ?_) (AllReadyH.nil))
        · refine step_call (N1.out _ hHeld.2.2) (enters_of Tryd.func64 (by kernel_rfl) rfl) _ _ rfl rfl rfl ?_
          rintro e v1 ⟨rfl, d1⟩
          try (have Y3 := Y3.below d1 Y3.lt)
          refine ⟨_, rfl, hK.out _ _ ⟨hHeld.1.below d1 hHeld.1.lt, hHeld.2.1.below d1 hHeld.2.1.lt, hHeld.2.2.trans (d1.mono hHeld.2.2.size)⟩ (fun hHeld => ?_)⟩
          clear hK K
          try simp only [Act.put, List.setIfInBounds_toArray, List.set_cons_zero, List.set_cons_succ]
          refine wpAnyH_ready (rs := [12, 14]) (by kernel_rfl) (by simp) ?_
          refine AllReadyH.cons (o := ({ dst := some 26, op := Op.call { callee := Callee.value (Operand.func 64), args := #[Operand.tmp 25], argTypes := #[25] }, type := 3, pos := _, after := #[{ on := 11, ground := Ground.data }, { on := 8, ground := Ground.chain }], guard := none } : Oper)) rfl (fun K hK => ?_) (AllReadyH.cons (o := ({ dst := some 4, op := Op.alloc 43, type := 0, pos := _, after := #[], guard := none } : Oper)) rfl (fun K hK => ?_) (AllReadyH.nil))
          · refine step_call (N2.out _ hHeld.2.2) (enters_of Tryd.func64 (by kernel_rfl) rfl) _ _ rfl rfl rfl ?_
            rintro e v2 ⟨rfl, d2⟩
            try (have Y3 := Y3.below d2 Y3.lt)
            refine ⟨_, rfl, hK.out _ _ ⟨hHeld.1.below d2 hHeld.1.lt, hHeld.2.1.below d2 hHeld.2.1.lt, hHeld.2.2.trans (d2.mono hHeld.2.2.size)⟩ (fun hHeld => ?_)⟩
            clear hK K
            try simp only [Act.put, List.setIfInBounds_toArray, List.set_cons_zero, List.set_cons_succ]
            refine wpAnyH_take (i := 13) (oi := ({ dst := some 27, op := Op.build 43 #[(0, Operand.tmp 18), (1, Operand.tmp 22), (2, Operand.tmp 26)], type := 43, pos := _, after := #[{ on := 4, ground := Ground.data }, { on := 8, ground := Ground.data }, { on := 12, ground := Ground.data }], guard := none } : Oper)) (v := ?_) rfl (by kernel_rfl) (by kernel_rfl) (by kernel_rfl) (fun _ _ _ h => h) (Or.inl ⟨by rfl, ?_⟩) hHeld ?_
            rotate_left
            · (intro w hS; go_simp; try with_reducible rfl)
            try simp only [Act.put, List.setIfInBounds_toArray, List.set_cons_zero, List.set_cons_succ]
            refine wpAnyH_ready (rs := [14]) (by kernel_rfl) (by simp) ?_
            refine AllReadyH.cons (o := ({ dst := some 4, op := Op.alloc 43, type := 0, pos := _, after := #[], guard := none } : Oper)) rfl (fun K hK => ?_) AllReadyH.nil
            refine step_al (Z := #[.int .i64 0, .int .i64 0, .int .i64 0]) rfl rfl zero_K ?_
            first|(have Y3 := bk_new v2 (kC (0, 0, 0)) 43; have hq3 : w.heap.size + 1 < v2.heap.size := hHeld.2.1.lt)|(have Y3 := bk_new v1 (kC (0, 0, 0)) 43; have hq3 : w.heap.size + 1 < v1.heap.size := hHeld.2.1.lt)|(have Y3 := bk_new w2.drew (kC (0, 0, 0)) 43; (replace Y3 : BK _ w2.heap.size (kC (0, 0, 0)) 43 := Y3); have hq4 : w.heap.size + 1 < w2.heap.size := hHeld.2.1.lt; have hq3 : w.heap.size + 1 < w2.drew.heap.size := hq4)
            refine hK.out _ _ ⟨hHeld.1.alloc _, hHeld.2.1.alloc _, hHeld.2.2.alloc hHeld.2.2.size _⟩ (fun hHeld => ?_)
            clear hK K
            try simp only [Act.put, List.setIfInBounds_toArray, List.set_cons_zero, List.set_cons_succ]
            refine wpAnyH_ready (rs := [15]) (by kernel_rfl) (by simp) ?_
            refine AllReadyH.cons (o := ({ dst := none, op := Op.store 43 (Operand.tmp 4) (Operand.tmp 27), type := 0, pos := _, after := #[{ on := 14, ground := Ground.data }, { on := 13, ground := Ground.data }, { on := 12, ground := Ground.chain }, { on := 0, ground := Ground.phase }, { on := 1, ground := Ground.phase }, { on := 2, ground := Ground.phase }, { on := 3, ground := Ground.phase }, { on := 4, ground := Ground.phase }, { on := 5, ground := Ground.phase }, { on := 6, ground := Ground.phase }, { on := 7, ground := Ground.phase }, { on := 8, ground := Ground.phase }, { on := 9, ground := Ground.phase }, { on := 10, ground := Ground.phase }, { on := 11, ground := Ground.phase }, { on := 12, ground := Ground.phase }, { on := 13, ground := Ground.phase }, { on := 14, ground := Ground.phase }], guard := none } : Oper)) rfl (fun K hK => ?_) AllReadyH.nil
            refine step_st (ty := 43) (V := kC (0, 0, 0)) (C := kC ((i0.toNat : Int), (n1 : Int), (n2 : Int))) (by rfl) (by rfl) (by rfl) (by rfl) (by exact Y3) size_K (by rfl) (one_K _) ?_
            intro v4 Y4 d4 but4 z4
            refine hK.out _ _ ⟨hHeld.1.but but4 hHeld.1.lt (by omega), hHeld.2.1.but but4 hHeld.2.1.lt (by omega), hHeld.2.2.trans (d4 _ (by omega))⟩ (fun hHeld => ?_)
            clear hK K
            try simp only [Act.put, List.setIfInBounds_toArray, List.set_cons_zero, List.set_cons_succ]
            refine wpAnyH_done (by kernel_rfl) ?_ _
            go_wp2
            go_meet
            exact ⟨_, rfl, Y4, hHeld.2.1, hHeld.2.2⟩
          · refine step_al (Z := #[.int .i64 0, .int .i64 0, .int .i64 0]) rfl rfl zero_K ?_
            first|(have Y3 := bk_new v2 (kC (0, 0, 0)) 43; have hq3 : w.heap.size + 1 < v2.heap.size := hHeld.2.1.lt)|(have Y3 := bk_new v1 (kC (0, 0, 0)) 43; have hq3 : w.heap.size + 1 < v1.heap.size := hHeld.2.1.lt)|(have Y3 := bk_new w2.drew (kC (0, 0, 0)) 43; (replace Y3 : BK _ w2.heap.size (kC (0, 0, 0)) 43 := Y3); have hq4 : w.heap.size + 1 < w2.heap.size := hHeld.2.1.lt; have hq3 : w.heap.size + 1 < w2.drew.heap.size := hq4)
            refine hK.out _ _ ⟨hHeld.1.alloc _, hHeld.2.1.alloc _, hHeld.2.2.alloc hHeld.2.2.size _⟩ (fun hHeld => ?_)
            clear hK K
            try simp only [Act.put, List.setIfInBounds_toArray, List.set_cons_zero, List.set_cons_succ]
            refine wpAnyH_ready (rs := [12]) (by kernel_rfl) (by simp) ?_
            refine AllReadyH.cons (o := ({ dst := some 26, op := Op.call { callee := Callee.value (Operand.func 64), args := #[Operand.tmp 25], argTypes := #[25] }, type := 3, pos := _, after := #[{ on := 11, ground := Ground.data }, { on := 8, ground := Ground.chain }], guard := none } : Oper)) rfl (fun K hK => ?_) AllReadyH.nil
            refine step_call (N2.out _ hHeld.2.2) (enters_of Tryd.func64 (by kernel_rfl) rfl) _ _ rfl rfl rfl ?_
            rintro e v2 ⟨rfl, d2⟩
            try (have Y3 := Y3.below d2 Y3.lt)
            refine ⟨_, rfl, hK.out _ _ ⟨hHeld.1.below d2 hHeld.1.lt, hHeld.2.1.below d2 hHeld.2.1.lt, hHeld.2.2.trans (d2.mono hHeld.2.2.size)⟩ (fun hHeld => ?_)⟩
            clear hK K
            try simp only [Act.put, List.setIfInBounds_toArray, List.set_cons_zero, List.set_cons_succ]
            refine wpAnyH_take (i := 13) (oi := ({ dst := some 27, op := Op.build 43 #[(0, Operand.tmp 18), (1, Operand.tmp 22), (2, Operand.tmp 26)], type := 43, pos := _, after := #[{ on := 4, ground := Ground.data }, { on := 8, ground := Ground.data }, { on := 12, ground := Ground.data }], guard := none } : Oper)) (v := ?_) rfl (by kernel_rfl) (by kernel_rfl) (by kernel_rfl) (fun _ _ _ h => h) (Or.inl ⟨by rfl, ?_⟩) hHeld ?_
            rotate_left
            · (intro w hS; go_simp; try with_reducible rfl)
            try simp only [Act.put, List.setIfInBounds_toArray, List.set_cons_zero, List.set_cons_succ]
            refine wpAnyH_ready (rs := [15]) (by kernel_rfl) (by simp) ?_
            refine AllReadyH.cons (o := ({ dst := none, op := Op.store 43 (Operand.tmp 4) (Operand.tmp 27), type := 0, pos := _, after := #[{ on := 14, ground := Ground.data }, { on := 13, ground := Ground.data }, { on := 12, ground := Ground.chain }, { on := 0, ground := Ground.phase }, { on := 1, ground := Ground.phase }, { on := 2, ground := Ground.phase }, { on := 3, ground := Ground.phase }, { on := 4, ground := Ground.phase }, { on := 5, ground := Ground.phase }, { on := 6, ground := Ground.phase }, { on := 7, ground := Ground.phase }, { on := 8, ground := Ground.phase }, { on := 9, ground := Ground.phase }, { on := 10, ground := Ground.phase }, { on := 11, ground := Ground.phase }, { on := 12, ground := Ground.phase }, { on := 13, ground := Ground.phase }, { on := 14, ground := Ground.phase }], guard := none } : Oper)) rfl (fun K hK => ?_) AllReadyH.nil
            refine step_st (ty := 43) (V := kC (0, 0, 0)) (C := kC ((i0.toNat : Int), (n1 : Int), (n2 : Int))) (by rfl) (by rfl) (by rfl) (by rfl) (by exact Y3) size_K (by rfl) (one_K _) ?_
            intro v4 Y4 d4 but4 z4
            refine hK.out _ _ ⟨hHeld.1.but but4 hHeld.1.lt (by omega), hHeld.2.1.but but4 hHeld.2.1.lt (by omega), hHeld.2.2.trans (d4 _ (by omega))⟩ (fun hHeld => ?_)
            clear hK K
            try simp only [Act.put, List.setIfInBounds_toArray, List.set_cons_zero, List.set_cons_succ]
            refine wpAnyH_done (by kernel_rfl) ?_ _
            go_wp2
            go_meet
            exact ⟨_, rfl, Y4, hHeld.2.1, hHeld.2.2⟩
        · refine step_al (Z := #[.int .i64 0, .int .i64 0, .int .i64 0]) rfl rfl zero_K ?_
          first|(have Y3 := bk_new v2 (kC (0, 0, 0)) 43; have hq3 : w.heap.size + 1 < v2.heap.size := hHeld.2.1.lt)|(have Y3 := bk_new v1 (kC (0, 0, 0)) 43; have hq3 : w.heap.size + 1 < v1.heap.size := hHeld.2.1.lt)|(have Y3 := bk_new w2.drew (kC (0, 0, 0)) 43; (replace Y3 : BK _ w2.heap.size (kC (0, 0, 0)) 43 := Y3); have hq4 : w.heap.size + 1 < w2.heap.size := hHeld.2.1.lt; have hq3 : w.heap.size + 1 < w2.drew.heap.size := hq4)
          refine hK.out _ _ ⟨hHeld.1.alloc _, hHeld.2.1.alloc _, hHeld.2.2.alloc hHeld.2.2.size _⟩ (fun hHeld => ?_)
          clear hK K
          try simp only [Act.put, List.setIfInBounds_toArray, List.set_cons_zero, List.set_cons_succ]
          refine wpAnyH_ready (rs := [8]) (by kernel_rfl) (by simp) ?_
          refine AllReadyH.cons (o := ({ dst := some 22, op := Op.call { callee := Callee.value (Operand.func 64), args := #[Operand.tmp 21], argTypes := #[25] }, type := 3, pos := _, after := #[{ on := 7, ground := Ground.data }], guard := none } : Oper)) rfl (fun K hK => ?_) AllReadyH.nil
          refine step_call (N1.out _ hHeld.2.2) (enters_of Tryd.func64 (by kernel_rfl) rfl) _ _ rfl rfl rfl ?_
          rintro e v1 ⟨rfl, d1⟩
          try (have Y3 := Y3.below d1 Y3.lt)
          refine ⟨_, rfl, hK.out _ _ ⟨hHeld.1.below d1 hHeld.1.lt, hHeld.2.1.below d1 hHeld.2.1.lt, hHeld.2.2.trans (d1.mono hHeld.2.2.size)⟩ (fun hHeld => ?_)⟩
          clear hK K
          try simp only [Act.put, List.setIfInBounds_toArray, List.set_cons_zero, List.set_cons_succ]
          refine wpAnyH_ready (rs := [12]) (by kernel_rfl) (by simp) ?_
          refine AllReadyH.cons (o := ({ dst := some 26, op := Op.call { callee := Callee.value (Operand.func 64), args := #[Operand.tmp 25], argTypes := #[25] }, type := 3, pos := _, after := #[{ on := 11, ground := Ground.data }, { on := 8, ground := Ground.chain }], guard := none } : Oper)) rfl (fun K hK => ?_) AllReadyH.nil
          refine step_call (N2.out _ hHeld.2.2) (enters_of Tryd.func64 (by kernel_rfl) rfl) _ _ rfl rfl rfl ?_
          rintro e v2 ⟨rfl, d2⟩
          try (have Y3 := Y3.below d2 Y3.lt)
          refine ⟨_, rfl, hK.out _ _ ⟨hHeld.1.below d2 hHeld.1.lt, hHeld.2.1.below d2 hHeld.2.1.lt, hHeld.2.2.trans (d2.mono hHeld.2.2.size)⟩ (fun hHeld => ?_)⟩
          clear hK K
          try simp only [Act.put, List.setIfInBounds_toArray, List.set_cons_zero, List.set_cons_succ]
          refine wpAnyH_take (i := 13) (oi := ({ dst := some 27, op := Op.build 43 #[(0, Operand.tmp 18), (1, Operand.tmp 22), (2, Operand.tmp 26)], type := 43, pos := _, after := #[{ on := 4, ground := Ground.data }, { on := 8, ground := Ground.data }, { on := 12, ground := Ground.data }], guard := none } : Oper)) (v := ?_) rfl (by kernel_rfl) (by kernel_rfl) (by kernel_rfl) (fun _ _ _ h => h) (Or.inl ⟨by rfl, ?_⟩) hHeld ?_
          rotate_left
          · (intro w hS; go_simp; try with_reducible rfl)
          try simp only [Act.put, List.setIfInBounds_toArray, List.set_cons_zero, List.set_cons_succ]
          refine wpAnyH_ready (rs := [15]) (by kernel_rfl) (by simp) ?_
          refine AllReadyH.cons (o := ({ dst := none, op := Op.store 43 (Operand.tmp 4) (Operand.tmp 27), type := 0, pos := _, after := #[{ on := 14, ground := Ground.data }, { on := 13, ground := Ground.data }, { on := 12, ground := Ground.chain }, { on := 0, ground := Ground.phase }, { on := 1, ground := Ground.phase }, { on := 2, ground := Ground.phase }, { on := 3, ground := Ground.phase }, { on := 4, ground := Ground.phase }, { on := 5, ground := Ground.phase }, { on := 6, ground := Ground.phase }, { on := 7, ground := Ground.phase }, { on := 8, ground := Ground.phase }, { on := 9, ground := Ground.phase }, { on := 10, ground := Ground.phase }, { on := 11, ground := Ground.phase }, { on := 12, ground := Ground.phase }, { on := 13, ground := Ground.phase }, { on := 14, ground := Ground.phase }], guard := none } : Oper)) rfl (fun K hK => ?_) AllReadyH.nil
          refine step_st (ty := 43) (V := kC (0, 0, 0)) (C := kC ((i0.toNat : Int), (n1 : Int), (n2 : Int))) (by rfl) (by rfl) (by rfl) (by rfl) (by exact Y3) size_K (by rfl) (one_K _) ?_
          intro v4 Y4 d4 but4 z4
          refine hK.out _ _ ⟨hHeld.1.but but4 hHeld.1.lt (by omega), hHeld.2.1.but but4 hHeld.2.1.lt (by omega), hHeld.2.2.trans (d4 _ (by omega))⟩ (fun hHeld => ?_)
          clear hK K
          try simp only [Act.put, List.setIfInBounds_toArray, List.set_cons_zero, List.set_cons_succ]
          refine wpAnyH_done (by kernel_rfl) ?_ _
          go_wp2
          go_meet
          exact ⟨_, rfl, Y4, hHeld.2.1, hHeld.2.2⟩
      case rest =>
      obtain ⟨q, rfl, Y5, R5, B5⟩ := hcut
      obtain ⟨wd, hwd⟩ : ∃ z, z = wc := ⟨_, rfl⟩
      subst hwd
      clear K2 R2 B2 D0 N1 N2 wi k0 k1
      cases hk : rightK ((i0.toNat : Int), (n1 : Int), (n2 : Int))
      · rw [hk, if_neg (by simp)] at hr
        rw [hk] at HR
        have HX : Hid (rkN x = ((0, 0, 0), 1)) := hr
        clear hr hk
        go_wp2_with (with_reducible show wpList _ _ _ (Oper.mk _ (Op.load 43 _) _ _ _ _ :: _) _ _; refine wpList_ld rfl rfl rfl (run_ldK (by with_reducible assumption)) ?_; (try simp only [Act.put, List.setIfInBounds_toArray, List.set_cons_zero, List.set_cons_succ, World.size_alloc]))
        refine (HR _).mono ?_
        rintro e w6 ⟨rfl, b6⟩
        have R6 := R5.below b6 R5.lt
        have B6 := B5.trans (b6.mono B5.size)
        clear HR R5 Y5 B5 b6
        go_wp2_with (with_reducible show wpList _ _ _ (Oper.mk _ (Op.store 43 _ _) _ _ _ _ :: _) _ _; refine stop_here ?_)
        refine ⟨?_⟩
        refine wpList_st rfl rfl rfl rfl R6 size_K rfl (by simp [Value.oneCell']) ?_
        intro w7 K7 b7 but7 z7
        go_wp2
        refine bodyPost_ret (v := .tuple #[.agg (kC (0, 0, 0)), .int .i64 1]) (results_cell_tmp_row Tryd.results43 _ _ _ _ _ _ _ _ rfl rfl K7 Tryd.underlying43 rfl size_K) rfl ⟨by rw [HX.out], B6.trans (b7 _ (Nat.le_succ _))⟩
      · rw [hk, if_pos rfl] at hr
        rw [hk] at HR
        have HX : Hid (rkN x = (((i0.toNat : Int), (n1 : Int), (n2 : Int)), 0)) := hr
        clear hr hk
        go_wp2_with (with_reducible show wpList _ _ _ (Oper.mk _ (Op.load 43 _) _ _ _ _ :: _) _ _; refine wpList_ld rfl rfl rfl (run_ldK (by with_reducible assumption)) ?_; (try simp only [Act.put, List.setIfInBounds_toArray, List.set_cons_zero, List.set_cons_succ, World.size_alloc]))
        refine (HR _).mono ?_
        rintro e w6 ⟨rfl, b6⟩
        have R6 := R5.below b6 R5.lt
        have Y6 := Y5.below b6 Y5.lt
        have B6 := B5.trans (b6.mono B5.size)
        clear HR R5 Y5 B5 b6
        go_wp2_with (first | (with_reducible show wpList _ _ _ (Oper.mk _ (Op.load 43 _) _ _ _ _ :: _) _ _; refine wpList_ld rfl rfl rfl (run_ldK (by with_reducible assumption)) ?_; (try simp only [Act.put, List.setIfInBounds_toArray, List.set_cons_zero, List.set_cons_succ, World.size_alloc])) | (with_reducible show wpList _ _ _ (Oper.mk _ (Op.store 43 _ _) _ _ _ _ :: _) _ _; refine stop_here ?_))
        refine ⟨?_⟩
        refine wpList_st rfl rfl rfl rfl R6 size_K rfl (by simp [Value.oneCell']) ?_
        intro w7 K7 b7 but7 z7
        go_wp2
        refine bodyPost_ret (v := .tuple #[.agg (kC ((i0.toNat : Int), (n1 : Int), (n2 : Int))), .int .i64 0]) (results_cell_tmp_row Tryd.results43 _ _ _ _ _ _ _ _ rfl rfl K7 Tryd.underlying43 rfl size_K) rfl ⟨by rw [HX.out], B6.trans (b7 _ (Nat.le_succ _))⟩
    · have HX : Hid (rkN x = ((0, 0, 0), 5)) := rk_form h1 h2
      have q1 : ((x.id.toNat : Int) != 90) = false := id_bne h1
      have q2 : ((l : Int) != 5) = true := by rw [bne_iff_ne]; have := hI.1; omega
      clear h1 h2
      have k0 := K0.cell 0 _ rfl
      have k1 := K0.cell 1 _ rfl
      have R1 := R0
      clear hI K0 R0
      go_enter Tryd.func43, Tryd.ntmps43
      go_wp2
      refine bodyPost_ret (v := .tuple #[.agg (kC (0, 0, 0)), .int .i64 5]) (results_cell_tmp_row Tryd.results43 _ _ _ _ _ _ _ _ rfl rfl R1 Tryd.underlying43 rfl size_K) rfl ⟨by rw [HX.out], A0⟩
  · have HX : Hid (rkN x = ((0, 0, 0), 12)) := rk_kind h1
    have q1 : ((x.id.toNat : Int) != 90) = true := id_bne' (j := 90) h1
    clear h1
    have k0 := K0.cell 0 _ rfl
    have k1 := K0.cell 1 _ rfl
    have R1 := R0
    clear hI K0 R0
    go_enter Tryd.func43, Tryd.ntmps43
    go_wp2
    refine bodyPost_ret (v := .tuple #[.agg (kC (0, 0, 0)), .int .i64 12]) (results_cell_tmp_row Tryd.results43 _ _ _ _ _ _ _ _ rfl rfl R1 Tryd.underlying43 rfl size_K) rfl ⟨by rw [HX.out], A0⟩
end Go.Proofs.YtbjeljmnknibnaaDoor
