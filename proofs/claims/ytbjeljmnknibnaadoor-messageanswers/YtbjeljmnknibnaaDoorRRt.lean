/- Proved here: what the document's ReadTraffic answers. Conditions: as the theorem states them. -/
import Derived.Test.YtbjeljmnknibnaaDoorRt
import Derived.Test.YtbjeljmnknibnaaDoorRefC
namespace Go.Proofs.YtbjeljmnknibnaaDoor
set_option linter.unusedSimpArgs false
set_option linter.unusedVariables false
set_option maxRecDepth 20000
open Go.RowKit Go.Shelf

theorem sp_at {n : Nat} {w : World} {b off : Nat} {zs : List UInt8} (hI : IsB n w (some ⟨b, off, none⟩) 31 zs) (j : Nat) (hj : j < 5) : IsB n w (some ⟨b, off + (1 + 6 * j), none⟩) 6 ((zs.drop (1 + 6 * j)).take 6) := by
  have hl := hI.1
  have h3 := hI
  rw [← List.take_append_drop (1 + 6 * j) zs] at h3
  have h4 := h3.dropA
  have e1 : (zs.take (1 + 6 * j)).length = 1 + 6 * j := by rw [List.length_take]; omega
  rw [e1] at h4
  exact h4.take 6 (by rw [List.length_drop]; omega)

set_option maxHeartbeats 4000000 in
theorem refrt_calls (x : El) (a : Option Addr) (l c : Nat) (w : World) {n : Nat} (hI : IsB n w a l x.body) (hn : n ≤ w.heap.size) (hlc : l ≤ c) : Calls Tryd.prog 42 #[ieV x.id a l c] w fun e w' => e = .returned (.tuple #[.agg (rtC x), .int .i64 (rtE x)]) ∧ Below w.heap.size w w' := by
  have A0 : Below w.heap.size w ((w.alloc (.cells #[.int .u8 (x.id.toNat : Int), .slice a l c] 60)).alloc (.cells (cC 0 0 0 0 0 0) 41)) := ((Below.refl _ w).alloc (Nat.le_refl _) _).alloc (by simp) _
  have K0 : BK ((w.alloc (.cells #[.int .u8 (x.id.toNat : Int), .slice a l c] 60)).alloc (.cells (cC 0 0 0 0 0 0) 41)) w.heap.size #[.int .u8 (x.id.toNat : Int), .slice a l c] 60 := (ie_box (w := w) (x := x) (a := a) (l := l) (c := c)).alloc _
  have R0 : BK ((w.alloc (.cells #[.int .u8 (x.id.toNat : Int), .slice a l c] 60)).alloc (.cells (cC 0 0 0 0 0 0) 41)) (w.heap.size + 1) (cC 0 0 0 0 0 0) 41 := by
    have := bk_new (w.alloc (.cells #[.int .u8 (x.id.toNat : Int), .slice a l c] 60)) (cC 0 0 0 0 0 0) 41
    rwa [World.size_alloc] at this
  by_cases h1 : x.id = 89
  · by_cases h2 : x.body.length = 31
    · have hn' := hn
      have hE : rtE x = spE x.body := by unfold rtE; rw [if_neg (by simpa using h1), if_neg (by simpa using h2)]
      have hcy : rtE x = 0 → rtC x = spC x.body := rtC_yes
      have hcn : rtE x ≠ 0 → rtC x = cC 0 0 0 0 0 0 := rtC_no rfl
      obtain ⟨zs, hzs⟩ : ∃ zs, x.body = zs := ⟨_, rfl⟩
      rw [hzs] at hI hE hcy h2
      obtain ⟨rE, hrE⟩ : ∃ z, rtE x = z := ⟨_, rfl⟩
      obtain ⟨rC, hrC⟩ : ∃ z, rtC x = z := ⟨_, rfl⟩
      rw [hrE] at hE hcy hcn ⊢
      rw [hrC] at hcy hcn ⊢
      obtain rfl : l = 31 := hI.1.trans h2
      obtain ⟨i0, hi0⟩ : ∃ y, zs[0]? = some y := ⟨zs[0]'(by omega), by rw [List.getElem?_eq_getElem]⟩
      have hk : kd zs = i0.toNat := by
        unfold kd
        cases zs with
        | nil => cases hi0
        | cons y zs => simp at hi0; subst hi0; rfl
      obtain ⟨b, off, rfl, hb, hc⟩ := hI.cell hi0
      have d0 := hc 0 i0 hi0
      rw [Nat.add_zero] at d0
      have D0 : Hid (∀ w', Below w.heap.size w w' → w'.cell? ⟨b, off, none⟩ = some (.int .u8 (i0.toNat : Int))) := fun w' h => (h.cell (p := ⟨b, off, none⟩) (by show b < _; omega)).trans d0
      have HK : Hid (kd zs = i0.toNat) := hk
      have wi : IntKind.i64.wrap (i0.toNat : Int) = (i0.toNat : Int) := by have := i0.toNat_lt; rw [IntKind.wrap_i64]; omega
      have hE' : Hid (rE = spE zs) := hE
      have hcy' : Hid (rE = 0 → rC = spC zs) := hcy
      have hcn' : Hid (rE ≠ 0 → rC = cC 0 0 0 0 0 0) := hcn
      have N0 : Hid (∀ w', Below w.heap.size w w' → Calls Tryd.prog 64 #[.slice (some ⟨b, off + 1, none⟩) 6 (c - 1)] w' fun e w'' => e = .returned (.int .i64 (sp zs 0 : Nat)) ∧ Below w'.heap.size w' w'') := fun w' h => refnumber_calls _ 6 _ _ w' ((sp_at hI 0 (by decide)).below h hn) (Nat.le_trans hn h.size) (by decide)
      have hc0 : ¬ c = 1 := by omega
      have hd0 : (7 : Int) ≤ (c : Int) := by omega
      have N1 : Hid (∀ w', Below w.heap.size w w' → Calls Tryd.prog 64 #[.slice (some ⟨b, off + 7, none⟩) 6 (c - 7)] w' fun e w'' => e = .returned (.int .i64 (sp zs 1 : Nat)) ∧ Below w'.heap.size w' w'') := fun w' h => refnumber_calls _ 6 _ _ w' ((sp_at hI 1 (by decide)).below h hn) (Nat.le_trans hn h.size) (by decide)
      have hc1 : ¬ c = 7 := by omega
      have hd1 : (13 : Int) ≤ (c : Int) := by omega
      have N2 : Hid (∀ w', Below w.heap.size w w' → Calls Tryd.prog 64 #[.slice (some ⟨b, off + 13, none⟩) 6 (c - 13)] w' fun e w'' => e = .returned (.int .i64 (sp zs 2 : Nat)) ∧ Below w'.heap.size w' w'') := fun w' h => refnumber_calls _ 6 _ _ w' ((sp_at hI 2 (by decide)).below h hn) (Nat.le_trans hn h.size) (by decide)
      have hc2 : ¬ c = 13 := by omega
      have hd2 : (19 : Int) ≤ (c : Int) := by omega
      have N3 : Hid (∀ w', Below w.heap.size w w' → Calls Tryd.prog 64 #[.slice (some ⟨b, off + 19, none⟩) 6 (c - 19)] w' fun e w'' => e = .returned (.int .i64 (sp zs 3 : Nat)) ∧ Below w'.heap.size w' w'') := fun w' h => refnumber_calls _ 6 _ _ w' ((sp_at hI 3 (by decide)).below h hn) (Nat.le_trans hn h.size) (by decide)
      have hc3 : ¬ c = 19 := by omega
      have hd3 : (25 : Int) ≤ (c : Int) := by omega
      have N4 : Hid (∀ w', Below w.heap.size w w' → Calls Tryd.prog 64 #[.slice (some ⟨b, off + 25, none⟩) 6 (c - 25)] w' fun e w'' => e = .returned (.int .i64 (sp zs 4 : Nat)) ∧ Below w'.heap.size w' w'') := fun w' h => refnumber_calls _ 6 _ _ w' ((sp_at hI 4 (by decide)).below h hn) (Nat.le_trans hn h.size) (by decide)
      have hc4 : ¬ c = 25 := by omega
      have hd4 : (31 : Int) ≤ (c : Int) := by omega
      have HR : ∀ w', Calls Tryd.prog 65 #[.agg (cC i0.toNat (sp zs 0) (sp zs 1) (sp zs 2) (sp zs 3) (sp zs 4))] w' fun x W' => x = .returned (.int .i64 rE) ∧ Below w'.heap.size w' W' := by
        intro w'
        rw [hE'.out]
        unfold spE
        rw [HK.out]
        exact refright_calls _ _ _ _ _ _ w'
      have K2 := K0
      have R2 := R0
      have B2 := A0
      have k0 := K0.cell 0 _ rfl
      have k1 := K0.cell 1 _ rfl
      have q1 : ((x.id.toNat : Int) != 89) = false := id_bne h1
      clear hI hc d0 h2 h1 hi0 hk hzs hrE hrC hE hcy hcn A0 K0 R0
      generalize hs0 : sp zs 0 = s0 at *
      generalize hs1 : sp zs 1 = s1 at *
      generalize hs2 : sp zs 2 = s2 at *
      generalize hs3 : sp zs 3 = s3 at *
      generalize hs4 : sp zs 4 = s4 at *
      go_enter Tryd.func42, Tryd.ntmps42
      go_upto_region 6 with fail
      generalize (w.alloc (.cells #[.int .u8 (x.id.toNat : Int), .slice (some ⟨b, off, none⟩) 31 c] 60)).alloc (.cells (cC 0 0 0 0 0 0) 41) = w2 at *
      go_cut [5] (fun s wx => ∃ q, s = .pointer (some ⟨q, 0, none⟩) ∧ BK wx q (cC i0.toNat s0 s1 s2 s3 s4) 41 ∧ BK wx (w.heap.size + 1) (cC 0 0 0 0 0 0) 41 ∧ Below w.heap.size w wx)
      case first =>
        have lq := R2.lt
        refine wp_region_held_drew (S := (fun w' => BK w' (w.heap.size + 1) (cC 0 0 0 0 0 0) 41 ∧ Below w.heap.size w w')) (by kernel_rfl) ⟨R2.drew, B2.drew⟩ (fun hHeld => ?_)
        refine wpAnyH_take (i := 0) (oi := ({ dst := some 17, op := Op.move (Operand.tmp 4), type := 25, pos := _, after := #[], guard := none } : Oper)) (v := ?_) rfl (by kernel_rfl) (by kernel_rfl) (by kernel_rfl) (fun _ _ _ h => h) (Or.inl ⟨by rfl, ?_⟩) hHeld ?_
        rotate_left
        · (intro w hS; go_simp; try with_reducible rfl)
        try simp only [Act.put, List.setIfInBounds_toArray, List.set_cons_zero, List.set_cons_succ]
        refine wpAnyH_take (i := 1) (oi := ({ dst := some 18, op := Op.indexAddr 25 (Operand.tmp 17) (Operand.const (Value.int IntKind.i64 0)), type := 0, pos := _, after := #[{ on := 0, ground := Ground.data }], guard := none } : Oper)) (v := ?_) rfl (by kernel_rfl) (by kernel_rfl) (by kernel_rfl) (fun _ _ _ h => h) (Or.inl ⟨by rfl, ?_⟩) hHeld ?_
        rotate_left
        · (intro w hS; go_simp; try with_reducible rfl)
        try simp only [Act.put, List.setIfInBounds_toArray, List.set_cons_zero, List.set_cons_succ]
        refine wpAnyH_take (i := 2) (oi := ({ dst := some 19, op := Op.load 5 (Operand.tmp 18), type := 5, pos := _, after := #[{ on := 1, ground := Ground.data }], guard := none } : Oper)) (v := ?_) rfl (by kernel_rfl) (by kernel_rfl) (by kernel_rfl) (fun _ _ _ h => h) (Or.inl ⟨by rfl, ?_⟩) hHeld ?_
        rotate_left
        · (intro w hS; have e3 := D0.out w hS.2; go_simp; try with_reducible rfl)
        try simp only [Act.put, List.setIfInBounds_toArray, List.set_cons_zero, List.set_cons_succ]
        refine wpAnyH_take (i := 3) (oi := ({ dst := some 20, op := Op.convert 5 3 (Operand.tmp 19), type := 3, pos := _, after := #[{ on := 2, ground := Ground.data }], guard := none } : Oper)) (v := ?_) rfl (by kernel_rfl) (by kernel_rfl) (by kernel_rfl) (fun _ _ _ h => h) (Or.inl ⟨by rfl, ?_⟩) hHeld ?_
        rotate_left
        · (intro w hS; go_simp; try with_reducible rfl)
        try simp only [Act.put, List.setIfInBounds_toArray, List.set_cons_zero, List.set_cons_succ]
        refine wpAnyH_take (i := 4) (oi := ({ dst := some 21, op := Op.move (Operand.tmp 4), type := 25, pos := _, after := #[], guard := none } : Oper)) (v := ?_) rfl (by kernel_rfl) (by kernel_rfl) (by kernel_rfl) (fun _ _ _ h => h) (Or.inl ⟨by rfl, ?_⟩) hHeld ?_
        rotate_left
        · (intro w hS; go_simp; try with_reducible rfl)
        try simp only [Act.put, List.setIfInBounds_toArray, List.set_cons_zero, List.set_cons_succ]
        refine wpAnyH_take (i := 5) (oi := ({ dst := some 22, op := Op.slice 25 (Operand.tmp 21) (some (Operand.const (Value.int IntKind.i64 1))) (some (Operand.const (Value.int IntKind.i64 7))) none, type := 25, pos := _, after := #[{ on := 4, ground := Ground.data }], guard := none } : Oper)) (v := ?_) rfl (by kernel_rfl) (by kernel_rfl) (by kernel_rfl) (fun _ _ _ h => h) (Or.inl ⟨by rfl, ?_⟩) hHeld ?_
        rotate_left
        · (intro w hS; go_simp; try with_reducible rfl)
        try simp only [Act.put, List.setIfInBounds_toArray, List.set_cons_zero, List.set_cons_succ]
        refine wpAnyH_take (i := 7) (oi := ({ dst := some 24, op := Op.move (Operand.tmp 4), type := 25, pos := _, after := #[], guard := none } : Oper)) (v := ?_) rfl (by kernel_rfl) (by kernel_rfl) (by kernel_rfl) (fun _ _ _ h => h) (Or.inl ⟨by rfl, ?_⟩) hHeld ?_
        rotate_left
        · (intro w hS; go_simp; try with_reducible rfl)
        try simp only [Act.put, List.setIfInBounds_toArray, List.set_cons_zero, List.set_cons_succ]
        refine wpAnyH_take (i := 8) (oi := ({ dst := some 25, op := Op.slice 25 (Operand.tmp 24) (some (Operand.const (Value.int IntKind.i64 7))) (some (Operand.const (Value.int IntKind.i64 13))) none, type := 25, pos := _, after := #[{ on := 7, ground := Ground.data }], guard := none } : Oper)) (v := ?_) rfl (by kernel_rfl) (by kernel_rfl) (by kernel_rfl) (fun _ _ _ h => h) (Or.inl ⟨by rfl, ?_⟩) hHeld ?_
        rotate_left
        · (intro w hS; go_simp; try with_reducible rfl)
        try simp only [Act.put, List.setIfInBounds_toArray, List.set_cons_zero, List.set_cons_succ]
        refine wpAnyH_take (i := 10) (oi := ({ dst := some 27, op := Op.move (Operand.tmp 4), type := 25, pos := _, after := #[], guard := none } : Oper)) (v := ?_) rfl (by kernel_rfl) (by kernel_rfl) (by kernel_rfl) (fun _ _ _ h => h) (Or.inl ⟨by rfl, ?_⟩) hHeld ?_
        rotate_left
        · (intro w hS; go_simp; try with_reducible rfl)
        try simp only [Act.put, List.setIfInBounds_toArray, List.set_cons_zero, List.set_cons_succ]
        refine wpAnyH_take (i := 11) (oi := ({ dst := some 28, op := Op.slice 25 (Operand.tmp 27) (some (Operand.const (Value.int IntKind.i64 13))) (some (Operand.const (Value.int IntKind.i64 19))) none, type := 25, pos := _, after := #[{ on := 10, ground := Ground.data }], guard := none } : Oper)) (v := ?_) rfl (by kernel_rfl) (by kernel_rfl) (by kernel_rfl) (fun _ _ _ h => h) (Or.inl ⟨by rfl, ?_⟩) hHeld ?_
        rotate_left
        · (intro w hS; go_simp; try with_reducible rfl)
        try simp only [Act.put, List.setIfInBounds_toArray, List.set_cons_zero, List.set_cons_succ]
        refine wpAnyH_take (i := 13) (oi := ({ dst := some 30, op := Op.move (Operand.tmp 4), type := 25, pos := _, after := #[], guard := none } : Oper)) (v := ?_) rfl (by kernel_rfl) (by kernel_rfl) (by kernel_rfl) (fun _ _ _ h => h) (Or.inl ⟨by rfl, ?_⟩) hHeld ?_
        rotate_left
        · (intro w hS; go_simp; try with_reducible rfl)
        try simp only [Act.put, List.setIfInBounds_toArray, List.set_cons_zero, List.set_cons_succ]
        refine wpAnyH_take (i := 14) (oi := ({ dst := some 31, op := Op.slice 25 (Operand.tmp 30) (some (Operand.const (Value.int IntKind.i64 19))) (some (Operand.const (Value.int IntKind.i64 25))) none, type := 25, pos := _, after := #[{ on := 13, ground := Ground.data }], guard := none } : Oper)) (v := ?_) rfl (by kernel_rfl) (by kernel_rfl) (by kernel_rfl) (fun _ _ _ h => h) (Or.inl ⟨by rfl, ?_⟩) hHeld ?_
        rotate_left
        · (intro w hS; go_simp; try with_reducible rfl)
        try simp only [Act.put, List.setIfInBounds_toArray, List.set_cons_zero, List.set_cons_succ]
        refine wpAnyH_take (i := 16) (oi := ({ dst := some 33, op := Op.move (Operand.tmp 4), type := 25, pos := _, after := #[], guard := none } : Oper)) (v := ?_) rfl (by kernel_rfl) (by kernel_rfl) (by kernel_rfl) (fun _ _ _ h => h) (Or.inl ⟨by rfl, ?_⟩) hHeld ?_
        rotate_left
        · (intro w hS; go_simp; try with_reducible rfl)
        try simp only [Act.put, List.setIfInBounds_toArray, List.set_cons_zero, List.set_cons_succ]
        refine wpAnyH_take (i := 17) (oi := ({ dst := some 34, op := Op.slice 25 (Operand.tmp 33) (some (Operand.const (Value.int IntKind.i64 25))) (some (Operand.const (Value.int IntKind.i64 31))) none, type := 25, pos := _, after := #[{ on := 16, ground := Ground.data }], guard := none } : Oper)) (v := ?_) rfl (by kernel_rfl) (by kernel_rfl) (by kernel_rfl) (fun _ _ _ h => h) (Or.inl ⟨by rfl, ?_⟩) hHeld ?_
        rotate_left
        · (intro w hS; go_simp; try with_reducible rfl)
        try simp only [Act.put, List.setIfInBounds_toArray, List.set_cons_zero, List.set_cons_succ]
        refine wpAnyH_ready (rs := [6, 20]) (by kernel_rfl) (by simp) ?_
        refine AllReadyH.cons (o := ({ dst := some 23, op := Op.call { callee := Callee.value (Operand.func 64), args := #[Operand.tmp 22], argTypes := #[25] }, type := 3, pos := _, after := #[{ on := 5, ground := Ground.data }], guard := none } : Oper)) rfl (fun K hK => ?_) (AllReadyH.cons (o := ({ dst := some 5, op := Op.alloc 41, type := 0, pos := _, after := #[], guard := none } : Oper)) rfl (fun K hK => ?_) (AllReadyH.nil))
        · refine step_call (N0.out _ hHeld.2) (enters_of Tryd.func64 (by kernel_rfl) rfl) _ _ rfl rfl rfl ?_
          rintro e v1 ⟨rfl, d1⟩
          try (have Y3 := Y3.below d1 Y3.lt)
          refine ⟨_, rfl, hK.out _ _ ⟨hHeld.1.below d1 hHeld.1.lt, hHeld.2.trans (d1.mono hHeld.2.size)⟩ (fun hHeld => ?_)⟩
          clear hK K
          try simp only [Act.put, List.setIfInBounds_toArray, List.set_cons_zero, List.set_cons_succ]
          refine wpAnyH_ready (rs := [9, 20]) (by kernel_rfl) (by simp) ?_
          refine AllReadyH.cons (o := ({ dst := some 26, op := Op.call { callee := Callee.value (Operand.func 64), args := #[Operand.tmp 25], argTypes := #[25] }, type := 3, pos := _, after := #[{ on := 8, ground := Ground.data }, { on := 6, ground := Ground.chain }], guard := none } : Oper)) rfl (fun K hK => ?_) (AllReadyH.cons (o := ({ dst := some 5, op := Op.alloc 41, type := 0, pos := _, after := #[], guard := none } : Oper)) rfl (fun K hK => ?_) (AllReadyH.nil))
          · refine step_call (N1.out _ hHeld.2) (enters_of Tryd.func64 (by kernel_rfl) rfl) _ _ rfl rfl rfl ?_
            rintro e v2 ⟨rfl, d2⟩
            try (have Y3 := Y3.below d2 Y3.lt)
            refine ⟨_, rfl, hK.out _ _ ⟨hHeld.1.below d2 hHeld.1.lt, hHeld.2.trans (d2.mono hHeld.2.size)⟩ (fun hHeld => ?_)⟩
            clear hK K
            try simp only [Act.put, List.setIfInBounds_toArray, List.set_cons_zero, List.set_cons_succ]
            refine wpAnyH_ready (rs := [12, 20]) (by kernel_rfl) (by simp) ?_
            refine AllReadyH.cons (o := ({ dst := some 29, op := Op.call { callee := Callee.value (Operand.func 64), args := #[Operand.tmp 28], argTypes := #[25] }, type := 3, pos := _, after := #[{ on := 11, ground := Ground.data }, { on := 9, ground := Ground.chain }], guard := none } : Oper)) rfl (fun K hK => ?_) (AllReadyH.cons (o := ({ dst := some 5, op := Op.alloc 41, type := 0, pos := _, after := #[], guard := none } : Oper)) rfl (fun K hK => ?_) (AllReadyH.nil))
            · refine step_call (N2.out _ hHeld.2) (enters_of Tryd.func64 (by kernel_rfl) rfl) _ _ rfl rfl rfl ?_
              rintro e v3 ⟨rfl, d3⟩
              try (have Y3 := Y3.below d3 Y3.lt)
              refine ⟨_, rfl, hK.out _ _ ⟨hHeld.1.below d3 hHeld.1.lt, hHeld.2.trans (d3.mono hHeld.2.size)⟩ (fun hHeld => ?_)⟩
              clear hK K
              try simp only [Act.put, List.setIfInBounds_toArray, List.set_cons_zero, List.set_cons_succ]
              refine wpAnyH_ready (rs := [15, 20]) (by kernel_rfl) (by simp) ?_
              refine AllReadyH.cons (o := ({ dst := some 32, op := Op.call { callee := Callee.value (Operand.func 64), args := #[Operand.tmp 31], argTypes := #[25] }, type := 3, pos := _, after := #[{ on := 14, ground := Ground.data }, { on := 12, ground := Ground.chain }], guard := none } : Oper)) rfl (fun K hK => ?_) (AllReadyH.cons (o := ({ dst := some 5, op := Op.alloc 41, type := 0, pos := _, after := #[], guard := none } : Oper)) rfl (fun K hK => ?_) (AllReadyH.nil))
              · refine step_call (N3.out _ hHeld.2) (enters_of Tryd.func64 (by kernel_rfl) rfl) _ _ rfl rfl rfl ?_
                rintro e v4 ⟨rfl, d4⟩
                try (have Y3 := Y3.below d4 Y3.lt)
                refine ⟨_, rfl, hK.out _ _ ⟨hHeld.1.below d4 hHeld.1.lt, hHeld.2.trans (d4.mono hHeld.2.size)⟩ (fun hHeld => ?_)⟩
                clear hK K
                try simp only [Act.put, List.setIfInBounds_toArray, List.set_cons_zero, List.set_cons_succ]
                refine wpAnyH_ready (rs := [18, 20]) (by kernel_rfl) (by simp) ?_
                refine AllReadyH.cons (o := ({ dst := some 35, op := Op.call { callee := Callee.value (Operand.func 64), args := #[Operand.tmp 34], argTypes := #[25] }, type := 3, pos := _, after := #[{ on := 17, ground := Ground.data }, { on := 15, ground := Ground.chain }], guard := none } : Oper)) rfl (fun K hK => ?_) (AllReadyH.cons (o := ({ dst := some 5, op := Op.alloc 41, type := 0, pos := _, after := #[], guard := none } : Oper)) rfl (fun K hK => ?_) (AllReadyH.nil))
                · refine step_call (N4.out _ hHeld.2) (enters_of Tryd.func64 (by kernel_rfl) rfl) _ _ rfl rfl rfl ?_
                  rintro e v5 ⟨rfl, d5⟩
                  try (have Y3 := Y3.below d5 Y3.lt)
                  refine ⟨_, rfl, hK.out _ _ ⟨hHeld.1.below d5 hHeld.1.lt, hHeld.2.trans (d5.mono hHeld.2.size)⟩ (fun hHeld => ?_)⟩
                  clear hK K
                  try simp only [Act.put, List.setIfInBounds_toArray, List.set_cons_zero, List.set_cons_succ]
                  refine wpAnyH_take (i := 19) (oi := ({ dst := some 36, op := Op.build 41 #[(0, Operand.tmp 20), (1, Operand.tmp 23), (2, Operand.tmp 26), (3, Operand.tmp 29), (4, Operand.tmp 32), (5, Operand.tmp 35)], type := 41, pos := _, after := #[{ on := 3, ground := Ground.data }, { on := 6, ground := Ground.data }, { on := 9, ground := Ground.data }, { on := 12, ground := Ground.data }, { on := 15, ground := Ground.data }, { on := 18, ground := Ground.data }], guard := none } : Oper)) (v := ?_) rfl (by kernel_rfl) (by kernel_rfl) (by kernel_rfl) (fun _ _ _ h => h) (Or.inl ⟨by rfl, ?_⟩) hHeld ?_
                  rotate_left
                  · (intro w hS; go_simp; try with_reducible rfl)
                  try simp only [Act.put, List.setIfInBounds_toArray, List.set_cons_zero, List.set_cons_succ]
                  refine wpAnyH_ready (rs := [20]) (by kernel_rfl) (by simp) ?_
                  refine AllReadyH.cons (o := ({ dst := some 5, op := Op.alloc 41, type := 0, pos := _, after := #[], guard := none } : Oper)) rfl (fun K hK => ?_) AllReadyH.nil
                  refine step_al (Z := #[.int .i64 0, .int .i64 0, .int .i64 0, .int .i64 0, .int .i64 0, .int .i64 0]) rfl rfl zero_C ?_
                  first|(have Y3 := bk_new v5 (cC 0 0 0 0 0 0) 41; have hq3 : w.heap.size + 1 < v5.heap.size := hHeld.1.lt)|(have Y3 := bk_new v4 (cC 0 0 0 0 0 0) 41; have hq3 : w.heap.size + 1 < v4.heap.size := hHeld.1.lt)|(have Y3 := bk_new v3 (cC 0 0 0 0 0 0) 41; have hq3 : w.heap.size + 1 < v3.heap.size := hHeld.1.lt)|(have Y3 := bk_new v2 (cC 0 0 0 0 0 0) 41; have hq3 : w.heap.size + 1 < v2.heap.size := hHeld.1.lt)|(have Y3 := bk_new v1 (cC 0 0 0 0 0 0) 41; have hq3 : w.heap.size + 1 < v1.heap.size := hHeld.1.lt)|(have Y3 := bk_new w2.drew (cC 0 0 0 0 0 0) 41; (replace Y3 : BK _ w2.heap.size (cC 0 0 0 0 0 0) 41 := Y3); have hq4 : w.heap.size + 1 < w2.heap.size := hHeld.1.lt; have hq3 : w.heap.size + 1 < w2.drew.heap.size := hq4)
                  refine hK.out _ _ ⟨hHeld.1.alloc _, hHeld.2.alloc hHeld.2.size _⟩ (fun hHeld => ?_)
                  clear hK K
                  try simp only [Act.put, List.setIfInBounds_toArray, List.set_cons_zero, List.set_cons_succ]
                  refine wpAnyH_ready (rs := [21]) (by kernel_rfl) (by simp) ?_
                  refine AllReadyH.cons (o := ({ dst := none, op := Op.store 41 (Operand.tmp 5) (Operand.tmp 36), type := 0, pos := _, after := #[{ on := 20, ground := Ground.data }, { on := 19, ground := Ground.data }, { on := 18, ground := Ground.chain }, { on := 0, ground := Ground.phase }, { on := 1, ground := Ground.phase }, { on := 2, ground := Ground.phase }, { on := 3, ground := Ground.phase }, { on := 4, ground := Ground.phase }, { on := 5, ground := Ground.phase }, { on := 6, ground := Ground.phase }, { on := 7, ground := Ground.phase }, { on := 8, ground := Ground.phase }, { on := 9, ground := Ground.phase }, { on := 10, ground := Ground.phase }, { on := 11, ground := Ground.phase }, { on := 12, ground := Ground.phase }, { on := 13, ground := Ground.phase }, { on := 14, ground := Ground.phase }, { on := 15, ground := Ground.phase }, { on := 16, ground := Ground.phase }, { on := 17, ground := Ground.phase }, { on := 18, ground := Ground.phase }, { on := 19, ground := Ground.phase }, { on := 20, ground := Ground.phase }], guard := none } : Oper)) rfl (fun K hK => ?_) AllReadyH.nil
                  refine step_st (ty := 41) (V := cC 0 0 0 0 0 0) (C := cC i0.toNat s0 s1 s2 s3 s4) (by rfl) (by rfl) (by rfl) (by rfl) (by exact Y3) size_C (by rfl) (one_C _ _ _ _ _ _) ?_
                  intro v9 Y4 d9 but9 z9
                  refine hK.out _ _ ⟨hHeld.1.but but9 hHeld.1.lt (by omega), hHeld.2.trans (d9 _ (by omega))⟩ (fun hHeld => ?_)
                  clear hK K
                  try simp only [Act.put, List.setIfInBounds_toArray, List.set_cons_zero, List.set_cons_succ]
                  refine wpAnyH_done (by kernel_rfl) ?_ _
                  go_wp2
                  go_meet
                  exact ⟨_, rfl, Y4, hHeld.1, hHeld.2⟩
                · refine step_al (Z := #[.int .i64 0, .int .i64 0, .int .i64 0, .int .i64 0, .int .i64 0, .int .i64 0]) rfl rfl zero_C ?_
                  first|(have Y3 := bk_new v5 (cC 0 0 0 0 0 0) 41; have hq3 : w.heap.size + 1 < v5.heap.size := hHeld.1.lt)|(have Y3 := bk_new v4 (cC 0 0 0 0 0 0) 41; have hq3 : w.heap.size + 1 < v4.heap.size := hHeld.1.lt)|(have Y3 := bk_new v3 (cC 0 0 0 0 0 0) 41; have hq3 : w.heap.size + 1 < v3.heap.size := hHeld.1.lt)|(have Y3 := bk_new v2 (cC 0 0 0 0 0 0) 41; have hq3 : w.heap.size + 1 < v2.heap.size := hHeld.1.lt)|(have Y3 := bk_new v1 (cC 0 0 0 0 0 0) 41; have hq3 : w.heap.size + 1 < v1.heap.size := hHeld.1.lt)|(have Y3 := bk_new w2.drew (cC 0 0 0 0 0 0) 41; (replace Y3 : BK _ w2.heap.size (cC 0 0 0 0 0 0) 41 := Y3); have hq4 : w.heap.size + 1 < w2.heap.size := hHeld.1.lt; have hq3 : w.heap.size + 1 < w2.drew.heap.size := hq4)
                  refine hK.out _ _ ⟨hHeld.1.alloc _, hHeld.2.alloc hHeld.2.size _⟩ (fun hHeld => ?_)
                  clear hK K
                  try simp only [Act.put, List.setIfInBounds_toArray, List.set_cons_zero, List.set_cons_succ]
                  refine wpAnyH_ready (rs := [18]) (by kernel_rfl) (by simp) ?_
                  refine AllReadyH.cons (o := ({ dst := some 35, op := Op.call { callee := Callee.value (Operand.func 64), args := #[Operand.tmp 34], argTypes := #[25] }, type := 3, pos := _, after := #[{ on := 17, ground := Ground.data }, { on := 15, ground := Ground.chain }], guard := none } : Oper)) rfl (fun K hK => ?_) AllReadyH.nil
                  refine step_call (N4.out _ hHeld.2) (enters_of Tryd.func64 (by kernel_rfl) rfl) _ _ rfl rfl rfl ?_
                  rintro e v5 ⟨rfl, d5⟩
                  try (have Y3 := Y3.below d5 Y3.lt)
                  refine ⟨_, rfl, hK.out _ _ ⟨hHeld.1.below d5 hHeld.1.lt, hHeld.2.trans (d5.mono hHeld.2.size)⟩ (fun hHeld => ?_)⟩
                  clear hK K
                  try simp only [Act.put, List.setIfInBounds_toArray, List.set_cons_zero, List.set_cons_succ]
                  refine wpAnyH_take (i := 19) (oi := ({ dst := some 36, op := Op.build 41 #[(0, Operand.tmp 20), (1, Operand.tmp 23), (2, Operand.tmp 26), (3, Operand.tmp 29), (4, Operand.tmp 32), (5, Operand.tmp 35)], type := 41, pos := _, after := #[{ on := 3, ground := Ground.data }, { on := 6, ground := Ground.data }, { on := 9, ground := Ground.data }, { on := 12, ground := Ground.data }, { on := 15, ground := Ground.data }, { on := 18, ground := Ground.data }], guard := none } : Oper)) (v := ?_) rfl (by kernel_rfl) (by kernel_rfl) (by kernel_rfl) (fun _ _ _ h => h) (Or.inl ⟨by rfl, ?_⟩) hHeld ?_
                  rotate_left
                  · (intro w hS; go_simp; try with_reducible rfl)
                  try simp only [Act.put, List.setIfInBounds_toArray, List.set_cons_zero, List.set_cons_succ]
                  refine wpAnyH_ready (rs := [21]) (by kernel_rfl) (by simp) ?_
                  refine AllReadyH.cons (o := ({ dst := none, op := Op.store 41 (Operand.tmp 5) (Operand.tmp 36), type := 0, pos := _, after := #[{ on := 20, ground := Ground.data }, { on := 19, ground := Ground.data }, { on := 18, ground := Ground.chain }, { on := 0, ground := Ground.phase }, { on := 1, ground := Ground.phase }, { on := 2, ground := Ground.phase }, { on := 3, ground := Ground.phase }, { on := 4, ground := Ground.phase }, { on := 5, ground := Ground.phase }, { on := 6, ground := Ground.phase }, { on := 7, ground := Ground.phase }, { on := 8, ground := Ground.phase }, { on := 9, ground := Ground.phase }, { on := 10, ground := Ground.phase }, { on := 11, ground := Ground.phase }, { on := 12, ground := Ground.phase }, { on := 13, ground := Ground.phase }, { on := 14, ground := Ground.phase }, { on := 15, ground := Ground.phase }, { on := 16, ground := Ground.phase }, { on := 17, ground := Ground.phase }, { on := 18, ground := Ground.phase }, { on := 19, ground := Ground.phase }, { on := 20, ground := Ground.phase }], guard := none } : Oper)) rfl (fun K hK => ?_) AllReadyH.nil
                  refine step_st (ty := 41) (V := cC 0 0 0 0 0 0) (C := cC i0.toNat s0 s1 s2 s3 s4) (by rfl) (by rfl) (by rfl) (by rfl) (by exact Y3) size_C (by rfl) (one_C _ _ _ _ _ _) ?_
                  intro v9 Y4 d9 but9 z9
                  refine hK.out _ _ ⟨hHeld.1.but but9 hHeld.1.lt (by omega), hHeld.2.trans (d9 _ (by omega))⟩ (fun hHeld => ?_)
                  clear hK K
                  try simp only [Act.put, List.setIfInBounds_toArray, List.set_cons_zero, List.set_cons_succ]
                  refine wpAnyH_done (by kernel_rfl) ?_ _
                  go_wp2
                  go_meet
                  exact ⟨_, rfl, Y4, hHeld.1, hHeld.2⟩
              · refine step_al (Z := #[.int .i64 0, .int .i64 0, .int .i64 0, .int .i64 0, .int .i64 0, .int .i64 0]) rfl rfl zero_C ?_
                first|(have Y3 := bk_new v5 (cC 0 0 0 0 0 0) 41; have hq3 : w.heap.size + 1 < v5.heap.size := hHeld.1.lt)|(have Y3 := bk_new v4 (cC 0 0 0 0 0 0) 41; have hq3 : w.heap.size + 1 < v4.heap.size := hHeld.1.lt)|(have Y3 := bk_new v3 (cC 0 0 0 0 0 0) 41; have hq3 : w.heap.size + 1 < v3.heap.size := hHeld.1.lt)|(have Y3 := bk_new v2 (cC 0 0 0 0 0 0) 41; have hq3 : w.heap.size + 1 < v2.heap.size := hHeld.1.lt)|(have Y3 := bk_new v1 (cC 0 0 0 0 0 0) 41; have hq3 : w.heap.size + 1 < v1.heap.size := hHeld.1.lt)|(have Y3 := bk_new w2.drew (cC 0 0 0 0 0 0) 41; (replace Y3 : BK _ w2.heap.size (cC 0 0 0 0 0 0) 41 := Y3); have hq4 : w.heap.size + 1 < w2.heap.size := hHeld.1.lt; have hq3 : w.heap.size + 1 < w2.drew.heap.size := hq4)
                refine hK.out _ _ ⟨hHeld.1.alloc _, hHeld.2.alloc hHeld.2.size _⟩ (fun hHeld => ?_)
                clear hK K
                try simp only [Act.put, List.setIfInBounds_toArray, List.set_cons_zero, List.set_cons_succ]
                refine wpAnyH_ready (rs := [15]) (by kernel_rfl) (by simp) ?_
                refine AllReadyH.cons (o := ({ dst := some 32, op := Op.call { callee := Callee.value (Operand.func 64), args := #[Operand.tmp 31], argTypes := #[25] }, type := 3, pos := _, after := #[{ on := 14, ground := Ground.data }, { on := 12, ground := Ground.chain }], guard := none } : Oper)) rfl (fun K hK => ?_) AllReadyH.nil
                refine step_call (N3.out _ hHeld.2) (enters_of Tryd.func64 (by kernel_rfl) rfl) _ _ rfl rfl rfl ?_
                rintro e v4 ⟨rfl, d4⟩
                try (have Y3 := Y3.below d4 Y3.lt)
                refine ⟨_, rfl, hK.out _ _ ⟨hHeld.1.below d4 hHeld.1.lt, hHeld.2.trans (d4.mono hHeld.2.size)⟩ (fun hHeld => ?_)⟩
                clear hK K
                try simp only [Act.put, List.setIfInBounds_toArray, List.set_cons_zero, List.set_cons_succ]
                refine wpAnyH_ready (rs := [18]) (by kernel_rfl) (by simp) ?_
                refine AllReadyH.cons (o := ({ dst := some 35, op := Op.call { callee := Callee.value (Operand.func 64), args := #[Operand.tmp 34], argTypes := #[25] }, type := 3, pos := _, after := #[{ on := 17, ground := Ground.data }, { on := 15, ground := Ground.chain }], guard := none } : Oper)) rfl (fun K hK => ?_) AllReadyH.nil
                refine step_call (N4.out _ hHeld.2) (enters_of Tryd.func64 (by kernel_rfl) rfl) _ _ rfl rfl rfl ?_
                rintro e v5 ⟨rfl, d5⟩
                try (have Y3 := Y3.below d5 Y3.lt)
                refine ⟨_, rfl, hK.out _ _ ⟨hHeld.1.below d5 hHeld.1.lt, hHeld.2.trans (d5.mono hHeld.2.size)⟩ (fun hHeld => ?_)⟩
                clear hK K
                try simp only [Act.put, List.setIfInBounds_toArray, List.set_cons_zero, List.set_cons_succ]
                refine wpAnyH_take (i := 19) (oi := ({ dst := some 36, op := Op.build 41 #[(0, Operand.tmp 20), (1, Operand.tmp 23), (2, Operand.tmp 26), (3, Operand.tmp 29), (4, Operand.tmp 32), (5, Operand.tmp 35)], type := 41, pos := _, after := #[{ on := 3, ground := Ground.data }, { on := 6, ground := Ground.data }, { on := 9, ground := Ground.data }, { on := 12, ground := Ground.data }, { on := 15, ground := Ground.data }, { on := 18, ground := Ground.data }], guard := none } : Oper)) (v := ?_) rfl (by kernel_rfl) (by kernel_rfl) (by kernel_rfl) (fun _ _ _ h => h) (Or.inl ⟨by rfl, ?_⟩) hHeld ?_
                rotate_left
                · (intro w hS; go_simp; try with_reducible rfl)
                try simp only [Act.put, List.setIfInBounds_toArray, List.set_cons_zero, List.set_cons_succ]
                refine wpAnyH_ready (rs := [21]) (by kernel_rfl) (by simp) ?_
                refine AllReadyH.cons (o := ({ dst := none, op := Op.store 41 (Operand.tmp 5) (Operand.tmp 36), type := 0, pos := _, after := #[{ on := 20, ground := Ground.data }, { on := 19, ground := Ground.data }, { on := 18, ground := Ground.chain }, { on := 0, ground := Ground.phase }, { on := 1, ground := Ground.phase }, { on := 2, ground := Ground.phase }, { on := 3, ground := Ground.phase }, { on := 4, ground := Ground.phase }, { on := 5, ground := Ground.phase }, { on := 6, ground := Ground.phase }, { on := 7, ground := Ground.phase }, { on := 8, ground := Ground.phase }, { on := 9, ground := Ground.phase }, { on := 10, ground := Ground.phase }, { on := 11, ground := Ground.phase }, { on := 12, ground := Ground.phase }, { on := 13, ground := Ground.phase }, { on := 14, ground := Ground.phase }, { on := 15, ground := Ground.phase }, { on := 16, ground := Ground.phase }, { on := 17, ground := Ground.phase }, { on := 18, ground := Ground.phase }, { on := 19, ground := Ground.phase }, { on := 20, ground := Ground.phase }], guard := none } : Oper)) rfl (fun K hK => ?_) AllReadyH.nil
                refine step_st (ty := 41) (V := cC 0 0 0 0 0 0) (C := cC i0.toNat s0 s1 s2 s3 s4) (by rfl) (by rfl) (by rfl) (by rfl) (by exact Y3) size_C (by rfl) (one_C _ _ _ _ _ _) ?_
                intro v9 Y4 d9 but9 z9
                refine hK.out _ _ ⟨hHeld.1.but but9 hHeld.1.lt (by omega), hHeld.2.trans (d9 _ (by omega))⟩ (fun hHeld => ?_)
                clear hK K
                try simp only [Act.put, List.setIfInBounds_toArray, List.set_cons_zero, List.set_cons_succ]
                refine wpAnyH_done (by kernel_rfl) ?_ _
                go_wp2
                go_meet
                exact ⟨_, rfl, Y4, hHeld.1, hHeld.2⟩
            · refine step_al (Z := #[.int .i64 0, .int .i64 0, .int .i64 0, .int .i64 0, .int .i64 0, .int .i64 0]) rfl rfl zero_C ?_
              first|(have Y3 := bk_new v5 (cC 0 0 0 0 0 0) 41; have hq3 : w.heap.size + 1 < v5.heap.size := hHeld.1.lt)|(have Y3 := bk_new v4 (cC 0 0 0 0 0 0) 41; have hq3 : w.heap.size + 1 < v4.heap.size := hHeld.1.lt)|(have Y3 := bk_new v3 (cC 0 0 0 0 0 0) 41; have hq3 : w.heap.size + 1 < v3.heap.size := hHeld.1.lt)|(have Y3 := bk_new v2 (cC 0 0 0 0 0 0) 41; have hq3 : w.heap.size + 1 < v2.heap.size := hHeld.1.lt)|(have Y3 := bk_new v1 (cC 0 0 0 0 0 0) 41; have hq3 : w.heap.size + 1 < v1.heap.size := hHeld.1.lt)|(have Y3 := bk_new w2.drew (cC 0 0 0 0 0 0) 41; (replace Y3 : BK _ w2.heap.size (cC 0 0 0 0 0 0) 41 := Y3); have hq4 : w.heap.size + 1 < w2.heap.size := hHeld.1.lt; have hq3 : w.heap.size + 1 < w2.drew.heap.size := hq4)
              refine hK.out _ _ ⟨hHeld.1.alloc _, hHeld.2.alloc hHeld.2.size _⟩ (fun hHeld => ?_)
              clear hK K
              try simp only [Act.put, List.setIfInBounds_toArray, List.set_cons_zero, List.set_cons_succ]
              refine wpAnyH_ready (rs := [12]) (by kernel_rfl) (by simp) ?_
              refine AllReadyH.cons (o := ({ dst := some 29, op := Op.call { callee := Callee.value (Operand.func 64), args := #[Operand.tmp 28], argTypes := #[25] }, type := 3, pos := _, after := #[{ on := 11, ground := Ground.data }, { on := 9, ground := Ground.chain }], guard := none } : Oper)) rfl (fun K hK => ?_) AllReadyH.nil
              refine step_call (N2.out _ hHeld.2) (enters_of Tryd.func64 (by kernel_rfl) rfl) _ _ rfl rfl rfl ?_
              rintro e v3 ⟨rfl, d3⟩
              try (have Y3 := Y3.below d3 Y3.lt)
              refine ⟨_, rfl, hK.out _ _ ⟨hHeld.1.below d3 hHeld.1.lt, hHeld.2.trans (d3.mono hHeld.2.size)⟩ (fun hHeld => ?_)⟩
              clear hK K
              try simp only [Act.put, List.setIfInBounds_toArray, List.set_cons_zero, List.set_cons_succ]
              refine wpAnyH_ready (rs := [15]) (by kernel_rfl) (by simp) ?_
              refine AllReadyH.cons (o := ({ dst := some 32, op := Op.call { callee := Callee.value (Operand.func 64), args := #[Operand.tmp 31], argTypes := #[25] }, type := 3, pos := _, after := #[{ on := 14, ground := Ground.data }, { on := 12, ground := Ground.chain }], guard := none } : Oper)) rfl (fun K hK => ?_) AllReadyH.nil
              refine step_call (N3.out _ hHeld.2) (enters_of Tryd.func64 (by kernel_rfl) rfl) _ _ rfl rfl rfl ?_
              rintro e v4 ⟨rfl, d4⟩
              try (have Y3 := Y3.below d4 Y3.lt)
              refine ⟨_, rfl, hK.out _ _ ⟨hHeld.1.below d4 hHeld.1.lt, hHeld.2.trans (d4.mono hHeld.2.size)⟩ (fun hHeld => ?_)⟩
              clear hK K
              try simp only [Act.put, List.setIfInBounds_toArray, List.set_cons_zero, List.set_cons_succ]
              refine wpAnyH_ready (rs := [18]) (by kernel_rfl) (by simp) ?_
              refine AllReadyH.cons (o := ({ dst := some 35, op := Op.call { callee := Callee.value (Operand.func 64), args := #[Operand.tmp 34], argTypes := #[25] }, type := 3, pos := _, after := #[{ on := 17, ground := Ground.data }, { on := 15, ground := Ground.chain }], guard := none } : Oper)) rfl (fun K hK => ?_) AllReadyH.nil
              refine step_call (N4.out _ hHeld.2) (enters_of Tryd.func64 (by kernel_rfl) rfl) _ _ rfl rfl rfl ?_
              rintro e v5 ⟨rfl, d5⟩
              try (have Y3 := Y3.below d5 Y3.lt)
              refine ⟨_, rfl, hK.out _ _ ⟨hHeld.1.below d5 hHeld.1.lt, hHeld.2.trans (d5.mono hHeld.2.size)⟩ (fun hHeld => ?_)⟩
              clear hK K
              try simp only [Act.put, List.setIfInBounds_toArray, List.set_cons_zero, List.set_cons_succ]
              refine wpAnyH_take (i := 19) (oi := ({ dst := some 36, op := Op.build 41 #[(0, Operand.tmp 20), (1, Operand.tmp 23), (2, Operand.tmp 26), (3, Operand.tmp 29), (4, Operand.tmp 32), (5, Operand.tmp 35)], type := 41, pos := _, after := #[{ on := 3, ground := Ground.data }, { on := 6, ground := Ground.data }, { on := 9, ground := Ground.data }, { on := 12, ground := Ground.data }, { on := 15, ground := Ground.data }, { on := 18, ground := Ground.data }], guard := none } : Oper)) (v := ?_) rfl (by kernel_rfl) (by kernel_rfl) (by kernel_rfl) (fun _ _ _ h => h) (Or.inl ⟨by rfl, ?_⟩) hHeld ?_
              rotate_left
              · (intro w hS; go_simp; try with_reducible rfl)
              try simp only [Act.put, List.setIfInBounds_toArray, List.set_cons_zero, List.set_cons_succ]
              refine wpAnyH_ready (rs := [21]) (by kernel_rfl) (by simp) ?_
              refine AllReadyH.cons (o := ({ dst := none, op := Op.store 41 (Operand.tmp 5) (Operand.tmp 36), type := 0, pos := _, after := #[{ on := 20, ground := Ground.data }, { on := 19, ground := Ground.data }, { on := 18, ground := Ground.chain }, { on := 0, ground := Ground.phase }, { on := 1, ground := Ground.phase }, { on := 2, ground := Ground.phase }, { on := 3, ground := Ground.phase }, { on := 4, ground := Ground.phase }, { on := 5, ground := Ground.phase }, { on := 6, ground := Ground.phase }, { on := 7, ground := Ground.phase }, { on := 8, ground := Ground.phase }, { on := 9, ground := Ground.phase }, { on := 10, ground := Ground.phase }, { on := 11, ground := Ground.phase }, { on := 12, ground := Ground.phase }, { on := 13, ground := Ground.phase }, { on := 14, ground := Ground.phase }, { on := 15, ground := Ground.phase }, { on := 16, ground := Ground.phase }, { on := 17, ground := Ground.phase }, { on := 18, ground := Ground.phase }, { on := 19, ground := Ground.phase }, { on := 20, ground := Ground.phase }], guard := none } : Oper)) rfl (fun K hK => ?_) AllReadyH.nil
              refine step_st (ty := 41) (V := cC 0 0 0 0 0 0) (C := cC i0.toNat s0 s1 s2 s3 s4) (by rfl) (by rfl) (by rfl) (by rfl) (by exact Y3) size_C (by rfl) (one_C _ _ _ _ _ _) ?_
              intro v9 Y4 d9 but9 z9
              refine hK.out _ _ ⟨hHeld.1.but but9 hHeld.1.lt (by omega), hHeld.2.trans (d9 _ (by omega))⟩ (fun hHeld => ?_)
              clear hK K
              try simp only [Act.put, List.setIfInBounds_toArray, List.set_cons_zero, List.set_cons_succ]
              refine wpAnyH_done (by kernel_rfl) ?_ _
              go_wp2
              go_meet
              exact ⟨_, rfl, Y4, hHeld.1, hHeld.2⟩
          · refine step_al (Z := #[.int .i64 0, .int .i64 0, .int .i64 0, .int .i64 0, .int .i64 0, .int .i64 0]) rfl rfl zero_C ?_
            first|(have Y3 := bk_new v5 (cC 0 0 0 0 0 0) 41; have hq3 : w.heap.size + 1 < v5.heap.size := hHeld.1.lt)|(have Y3 := bk_new v4 (cC 0 0 0 0 0 0) 41; have hq3 : w.heap.size + 1 < v4.heap.size := hHeld.1.lt)|(have Y3 := bk_new v3 (cC 0 0 0 0 0 0) 41; have hq3 : w.heap.size + 1 < v3.heap.size := hHeld.1.lt)|(have Y3 := bk_new v2 (cC 0 0 0 0 0 0) 41; have hq3 : w.heap.size + 1 < v2.heap.size := hHeld.1.lt)|(have Y3 := bk_new v1 (cC 0 0 0 0 0 0) 41; have hq3 : w.heap.size + 1 < v1.heap.size := hHeld.1.lt)|(have Y3 := bk_new w2.drew (cC 0 0 0 0 0 0) 41; (replace Y3 : BK _ w2.heap.size (cC 0 0 0 0 0 0) 41 := Y3); have hq4 : w.heap.size + 1 < w2.heap.size := hHeld.1.lt; have hq3 : w.heap.size + 1 < w2.drew.heap.size := hq4)
            refine hK.out _ _ ⟨hHeld.1.alloc _, hHeld.2.alloc hHeld.2.size _⟩ (fun hHeld => ?_)
            clear hK K
            try simp only [Act.put, List.setIfInBounds_toArray, List.set_cons_zero, List.set_cons_succ]
            refine wpAnyH_ready (rs := [9]) (by kernel_rfl) (by simp) ?_
            refine AllReadyH.cons (o := ({ dst := some 26, op := Op.call { callee := Callee.value (Operand.func 64), args := #[Operand.tmp 25], argTypes := #[25] }, type := 3, pos := _, after := #[{ on := 8, ground := Ground.data }, { on := 6, ground := Ground.chain }], guard := none } : Oper)) rfl (fun K hK => ?_) AllReadyH.nil
            refine step_call (N1.out _ hHeld.2) (enters_of Tryd.func64 (by kernel_rfl) rfl) _ _ rfl rfl rfl ?_
            rintro e v2 ⟨rfl, d2⟩
            try (have Y3 := Y3.below d2 Y3.lt)
            refine ⟨_, rfl, hK.out _ _ ⟨hHeld.1.below d2 hHeld.1.lt, hHeld.2.trans (d2.mono hHeld.2.size)⟩ (fun hHeld => ?_)⟩
            clear hK K
            try simp only [Act.put, List.setIfInBounds_toArray, List.set_cons_zero, List.set_cons_succ]
            refine wpAnyH_ready (rs := [12]) (by kernel_rfl) (by simp) ?_
            refine AllReadyH.cons (o := ({ dst := some 29, op := Op.call { callee := Callee.value (Operand.func 64), args := #[Operand.tmp 28], argTypes := #[25] }, type := 3, pos := _, after := #[{ on := 11, ground := Ground.data }, { on := 9, ground := Ground.chain }], guard := none } : Oper)) rfl (fun K hK => ?_) AllReadyH.nil
            refine step_call (N2.out _ hHeld.2) (enters_of Tryd.func64 (by kernel_rfl) rfl) _ _ rfl rfl rfl ?_
            rintro e v3 ⟨rfl, d3⟩
            try (have Y3 := Y3.below d3 Y3.lt)
            refine ⟨_, rfl, hK.out _ _ ⟨hHeld.1.below d3 hHeld.1.lt, hHeld.2.trans (d3.mono hHeld.2.size)⟩ (fun hHeld => ?_)⟩
            clear hK K
            try simp only [Act.put, List.setIfInBounds_toArray, List.set_cons_zero, List.set_cons_succ]
            refine wpAnyH_ready (rs := [15]) (by kernel_rfl) (by simp) ?_
            refine AllReadyH.cons (o := ({ dst := some 32, op := Op.call { callee := Callee.value (Operand.func 64), args := #[Operand.tmp 31], argTypes := #[25] }, type := 3, pos := _, after := #[{ on := 14, ground := Ground.data }, { on := 12, ground := Ground.chain }], guard := none } : Oper)) rfl (fun K hK => ?_) AllReadyH.nil
            refine step_call (N3.out _ hHeld.2) (enters_of Tryd.func64 (by kernel_rfl) rfl) _ _ rfl rfl rfl ?_
            rintro e v4 ⟨rfl, d4⟩
            try (have Y3 := Y3.below d4 Y3.lt)
            refine ⟨_, rfl, hK.out _ _ ⟨hHeld.1.below d4 hHeld.1.lt, hHeld.2.trans (d4.mono hHeld.2.size)⟩ (fun hHeld => ?_)⟩
            clear hK K
            try simp only [Act.put, List.setIfInBounds_toArray, List.set_cons_zero, List.set_cons_succ]
            refine wpAnyH_ready (rs := [18]) (by kernel_rfl) (by simp) ?_
            refine AllReadyH.cons (o := ({ dst := some 35, op := Op.call { callee := Callee.value (Operand.func 64), args := #[Operand.tmp 34], argTypes := #[25] }, type := 3, pos := _, after := #[{ on := 17, ground := Ground.data }, { on := 15, ground := Ground.chain }], guard := none } : Oper)) rfl (fun K hK => ?_) AllReadyH.nil
            refine step_call (N4.out _ hHeld.2) (enters_of Tryd.func64 (by kernel_rfl) rfl) _ _ rfl rfl rfl ?_
            rintro e v5 ⟨rfl, d5⟩
            try (have Y3 := Y3.below d5 Y3.lt)
            refine ⟨_, rfl, hK.out _ _ ⟨hHeld.1.below d5 hHeld.1.lt, hHeld.2.trans (d5.mono hHeld.2.size)⟩ (fun hHeld => ?_)⟩
            clear hK K
            try simp only [Act.put, List.setIfInBounds_toArray, List.set_cons_zero, List.set_cons_succ]
            refine wpAnyH_take (i := 19) (oi := ({ dst := some 36, op := Op.build 41 #[(0, Operand.tmp 20), (1, Operand.tmp 23), (2, Operand.tmp 26), (3, Operand.tmp 29), (4, Operand.tmp 32), (5, Operand.tmp 35)], type := 41, pos := _, after := #[{ on := 3, ground := Ground.data }, { on := 6, ground := Ground.data }, { on := 9, ground := Ground.data }, { on := 12, ground := Ground.data }, { on := 15, ground := Ground.data }, { on := 18, ground := Ground.data }], guard := none } : Oper)) (v := ?_) rfl (by kernel_rfl) (by kernel_rfl) (by kernel_rfl) (fun _ _ _ h => h) (Or.inl ⟨by rfl, ?_⟩) hHeld ?_
            rotate_left
            · (intro w hS; go_simp; try with_reducible rfl)
            try simp only [Act.put, List.setIfInBounds_toArray, List.set_cons_zero, List.set_cons_succ]
            refine wpAnyH_ready (rs := [21]) (by kernel_rfl) (by simp) ?_
            refine AllReadyH.cons (o := ({ dst := none, op := Op.store 41 (Operand.tmp 5) (Operand.tmp 36), type := 0, pos := _, after := #[{ on := 20, ground := Ground.data }, { on := 19, ground := Ground.data }, { on := 18, ground := Ground.chain }, { on := 0, ground := Ground.phase }, { on := 1, ground := Ground.phase }, { on := 2, ground := Ground.phase }, { on := 3, ground := Ground.phase }, { on := 4, ground := Ground.phase }, { on := 5, ground := Ground.phase }, { on := 6, ground := Ground.phase }, { on := 7, ground := Ground.phase }, { on := 8, ground := Ground.phase }, { on := 9, ground := Ground.phase }, { on := 10, ground := Ground.phase }, { on := 11, ground := Ground.phase }, { on := 12, ground := Ground.phase }, { on := 13, ground := Ground.phase }, { on := 14, ground := Ground.phase }, { on := 15, ground := Ground.phase }, { on := 16, ground := Ground.phase }, { on := 17, ground := Ground.phase }, { on := 18, ground := Ground.phase }, { on := 19, ground := Ground.phase }, { on := 20, ground := Ground.phase }], guard := none } : Oper)) rfl (fun K hK => ?_) AllReadyH.nil
            refine step_st (ty := 41) (V := cC 0 0 0 0 0 0) (C := cC i0.toNat s0 s1 s2 s3 s4) (by rfl) (by rfl) (by rfl) (by rfl) (by exact Y3) size_C (by rfl) (one_C _ _ _ _ _ _) ?_
            intro v9 Y4 d9 but9 z9
            refine hK.out _ _ ⟨hHeld.1.but but9 hHeld.1.lt (by omega), hHeld.2.trans (d9 _ (by omega))⟩ (fun hHeld => ?_)
            clear hK K
            try simp only [Act.put, List.setIfInBounds_toArray, List.set_cons_zero, List.set_cons_succ]
            refine wpAnyH_done (by kernel_rfl) ?_ _
            go_wp2
            go_meet
            exact ⟨_, rfl, Y4, hHeld.1, hHeld.2⟩
        · refine step_al (Z := #[.int .i64 0, .int .i64 0, .int .i64 0, .int .i64 0, .int .i64 0, .int .i64 0]) rfl rfl zero_C ?_
          first|(have Y3 := bk_new v5 (cC 0 0 0 0 0 0) 41; have hq3 : w.heap.size + 1 < v5.heap.size := hHeld.1.lt)|(have Y3 := bk_new v4 (cC 0 0 0 0 0 0) 41; have hq3 : w.heap.size + 1 < v4.heap.size := hHeld.1.lt)|(have Y3 := bk_new v3 (cC 0 0 0 0 0 0) 41; have hq3 : w.heap.size + 1 < v3.heap.size := hHeld.1.lt)|(have Y3 := bk_new v2 (cC 0 0 0 0 0 0) 41; have hq3 : w.heap.size + 1 < v2.heap.size := hHeld.1.lt)|(have Y3 := bk_new v1 (cC 0 0 0 0 0 0) 41; have hq3 : w.heap.size + 1 < v1.heap.size := hHeld.1.lt)|(have Y3 := bk_new w2.drew (cC 0 0 0 0 0 0) 41; (replace Y3 : BK _ w2.heap.size (cC 0 0 0 0 0 0) 41 := Y3); have hq4 : w.heap.size + 1 < w2.heap.size := hHeld.1.lt; have hq3 : w.heap.size + 1 < w2.drew.heap.size := hq4)
          refine hK.out _ _ ⟨hHeld.1.alloc _, hHeld.2.alloc hHeld.2.size _⟩ (fun hHeld => ?_)
          clear hK K
          try simp only [Act.put, List.setIfInBounds_toArray, List.set_cons_zero, List.set_cons_succ]
          refine wpAnyH_ready (rs := [6]) (by kernel_rfl) (by simp) ?_
          refine AllReadyH.cons (o := ({ dst := some 23, op := Op.call { callee := Callee.value (Operand.func 64), args := #[Operand.tmp 22], argTypes := #[25] }, type := 3, pos := _, after := #[{ on := 5, ground := Ground.data }], guard := none } : Oper)) rfl (fun K hK => ?_) AllReadyH.nil
          refine step_call (N0.out _ hHeld.2) (enters_of Tryd.func64 (by kernel_rfl) rfl) _ _ rfl rfl rfl ?_
          rintro e v1 ⟨rfl, d1⟩
          try (have Y3 := Y3.below d1 Y3.lt)
          refine ⟨_, rfl, hK.out _ _ ⟨hHeld.1.below d1 hHeld.1.lt, hHeld.2.trans (d1.mono hHeld.2.size)⟩ (fun hHeld => ?_)⟩
          clear hK K
          try simp only [Act.put, List.setIfInBounds_toArray, List.set_cons_zero, List.set_cons_succ]
          refine wpAnyH_ready (rs := [9]) (by kernel_rfl) (by simp) ?_
          refine AllReadyH.cons (o := ({ dst := some 26, op := Op.call { callee := Callee.value (Operand.func 64), args := #[Operand.tmp 25], argTypes := #[25] }, type := 3, pos := _, after := #[{ on := 8, ground := Ground.data }, { on := 6, ground := Ground.chain }], guard := none } : Oper)) rfl (fun K hK => ?_) AllReadyH.nil
          refine step_call (N1.out _ hHeld.2) (enters_of Tryd.func64 (by kernel_rfl) rfl) _ _ rfl rfl rfl ?_
          rintro e v2 ⟨rfl, d2⟩
          try (have Y3 := Y3.below d2 Y3.lt)
          refine ⟨_, rfl, hK.out _ _ ⟨hHeld.1.below d2 hHeld.1.lt, hHeld.2.trans (d2.mono hHeld.2.size)⟩ (fun hHeld => ?_)⟩
          clear hK K
          try simp only [Act.put, List.setIfInBounds_toArray, List.set_cons_zero, List.set_cons_succ]
          refine wpAnyH_ready (rs := [12]) (by kernel_rfl) (by simp) ?_
          refine AllReadyH.cons (o := ({ dst := some 29, op := Op.call { callee := Callee.value (Operand.func 64), args := #[Operand.tmp 28], argTypes := #[25] }, type := 3, pos := _, after := #[{ on := 11, ground := Ground.data }, { on := 9, ground := Ground.chain }], guard := none } : Oper)) rfl (fun K hK => ?_) AllReadyH.nil
          refine step_call (N2.out _ hHeld.2) (enters_of Tryd.func64 (by kernel_rfl) rfl) _ _ rfl rfl rfl ?_
          rintro e v3 ⟨rfl, d3⟩
          try (have Y3 := Y3.below d3 Y3.lt)
          refine ⟨_, rfl, hK.out _ _ ⟨hHeld.1.below d3 hHeld.1.lt, hHeld.2.trans (d3.mono hHeld.2.size)⟩ (fun hHeld => ?_)⟩
          clear hK K
          try simp only [Act.put, List.setIfInBounds_toArray, List.set_cons_zero, List.set_cons_succ]
          refine wpAnyH_ready (rs := [15]) (by kernel_rfl) (by simp) ?_
          refine AllReadyH.cons (o := ({ dst := some 32, op := Op.call { callee := Callee.value (Operand.func 64), args := #[Operand.tmp 31], argTypes := #[25] }, type := 3, pos := _, after := #[{ on := 14, ground := Ground.data }, { on := 12, ground := Ground.chain }], guard := none } : Oper)) rfl (fun K hK => ?_) AllReadyH.nil
          refine step_call (N3.out _ hHeld.2) (enters_of Tryd.func64 (by kernel_rfl) rfl) _ _ rfl rfl rfl ?_
          rintro e v4 ⟨rfl, d4⟩
          try (have Y3 := Y3.below d4 Y3.lt)
          refine ⟨_, rfl, hK.out _ _ ⟨hHeld.1.below d4 hHeld.1.lt, hHeld.2.trans (d4.mono hHeld.2.size)⟩ (fun hHeld => ?_)⟩
          clear hK K
          try simp only [Act.put, List.setIfInBounds_toArray, List.set_cons_zero, List.set_cons_succ]
          refine wpAnyH_ready (rs := [18]) (by kernel_rfl) (by simp) ?_
          refine AllReadyH.cons (o := ({ dst := some 35, op := Op.call { callee := Callee.value (Operand.func 64), args := #[Operand.tmp 34], argTypes := #[25] }, type := 3, pos := _, after := #[{ on := 17, ground := Ground.data }, { on := 15, ground := Ground.chain }], guard := none } : Oper)) rfl (fun K hK => ?_) AllReadyH.nil
          refine step_call (N4.out _ hHeld.2) (enters_of Tryd.func64 (by kernel_rfl) rfl) _ _ rfl rfl rfl ?_
          rintro e v5 ⟨rfl, d5⟩
          try (have Y3 := Y3.below d5 Y3.lt)
          refine ⟨_, rfl, hK.out _ _ ⟨hHeld.1.below d5 hHeld.1.lt, hHeld.2.trans (d5.mono hHeld.2.size)⟩ (fun hHeld => ?_)⟩
          clear hK K
          try simp only [Act.put, List.setIfInBounds_toArray, List.set_cons_zero, List.set_cons_succ]
          refine wpAnyH_take (i := 19) (oi := ({ dst := some 36, op := Op.build 41 #[(0, Operand.tmp 20), (1, Operand.tmp 23), (2, Operand.tmp 26), (3, Operand.tmp 29), (4, Operand.tmp 32), (5, Operand.tmp 35)], type := 41, pos := _, after := #[{ on := 3, ground := Ground.data }, { on := 6, ground := Ground.data }, { on := 9, ground := Ground.data }, { on := 12, ground := Ground.data }, { on := 15, ground := Ground.data }, { on := 18, ground := Ground.data }], guard := none } : Oper)) (v := ?_) rfl (by kernel_rfl) (by kernel_rfl) (by kernel_rfl) (fun _ _ _ h => h) (Or.inl ⟨by rfl, ?_⟩) hHeld ?_
          rotate_left
          · (intro w hS; go_simp; try with_reducible rfl)
          try simp only [Act.put, List.setIfInBounds_toArray, List.set_cons_zero, List.set_cons_succ]
          refine wpAnyH_ready (rs := [21]) (by kernel_rfl) (by simp) ?_
          refine AllReadyH.cons (o := ({ dst := none, op := Op.store 41 (Operand.tmp 5) (Operand.tmp 36), type := 0, pos := _, after := #[{ on := 20, ground := Ground.data }, { on := 19, ground := Ground.data }, { on := 18, ground := Ground.chain }, { on := 0, ground := Ground.phase }, { on := 1, ground := Ground.phase }, { on := 2, ground := Ground.phase }, { on := 3, ground := Ground.phase }, { on := 4, ground := Ground.phase }, { on := 5, ground := Ground.phase }, { on := 6, ground := Ground.phase }, { on := 7, ground := Ground.phase }, { on := 8, ground := Ground.phase }, { on := 9, ground := Ground.phase }, { on := 10, ground := Ground.phase }, { on := 11, ground := Ground.phase }, { on := 12, ground := Ground.phase }, { on := 13, ground := Ground.phase }, { on := 14, ground := Ground.phase }, { on := 15, ground := Ground.phase }, { on := 16, ground := Ground.phase }, { on := 17, ground := Ground.phase }, { on := 18, ground := Ground.phase }, { on := 19, ground := Ground.phase }, { on := 20, ground := Ground.phase }], guard := none } : Oper)) rfl (fun K hK => ?_) AllReadyH.nil
          refine step_st (ty := 41) (V := cC 0 0 0 0 0 0) (C := cC i0.toNat s0 s1 s2 s3 s4) (by rfl) (by rfl) (by rfl) (by rfl) (by exact Y3) size_C (by rfl) (one_C _ _ _ _ _ _) ?_
          intro v9 Y4 d9 but9 z9
          refine hK.out _ _ ⟨hHeld.1.but but9 hHeld.1.lt (by omega), hHeld.2.trans (d9 _ (by omega))⟩ (fun hHeld => ?_)
          clear hK K
          try simp only [Act.put, List.setIfInBounds_toArray, List.set_cons_zero, List.set_cons_succ]
          refine wpAnyH_done (by kernel_rfl) ?_ _
          go_wp2
          go_meet
          exact ⟨_, rfl, Y4, hHeld.1, hHeld.2⟩
      case rest =>
      obtain ⟨q, rfl, Y5, R5, B5⟩ := hcut
      obtain ⟨wd, hwd⟩ : ∃ z, z = wc := ⟨_, rfl⟩
      subst hwd
      clear K2 R2 B2 D0 N0 N1 N2 N3 N4 wi k0 k1
      subst hs0 hs1 hs2 hs3 hs4
      by_cases hz : rE = 0
      · have hrc := hcy'.out hz
        subst hz
        have HX : Hid (rC = cC i0.toNat (sp zs 0) (sp zs 1) (sp zs 2) (sp zs 3) (sp zs 4)) := by
          show _ = _
          rw [hrc]
          unfold spC
          rw [HK.out]
        clear hrc hcy' hcn' hE'
        go_wp2_with (with_reducible show wpList _ _ _ (Oper.mk _ (Op.load 41 _) _ _ _ _ :: _) _ _; refine wpList_ld rfl rfl rfl (run_ldC (by with_reducible assumption)) ?_; (try simp only [Act.put, List.setIfInBounds_toArray, List.set_cons_zero, List.set_cons_succ, World.size_alloc]))
        refine (HR _).mono ?_
        rintro e w6 ⟨rfl, b6⟩
        have R6 := R5.below b6 R5.lt
        have Y6 := Y5.below b6 Y5.lt
        have B6 := B5.trans (b6.mono B5.size)
        clear HR R5 Y5 B5 b6
        go_wp2_with (first | (with_reducible show wpList _ _ _ (Oper.mk _ (Op.load 41 _) _ _ _ _ :: _) _ _; refine wpList_ld rfl rfl rfl (run_ldC (by with_reducible assumption)) ?_; (try simp only [Act.put, List.setIfInBounds_toArray, List.set_cons_zero, List.set_cons_succ, World.size_alloc])) | (with_reducible show wpList _ _ _ (Oper.mk _ (Op.store 41 _ _) _ _ _ _ :: _) _ _; refine stop_here ?_))
        refine ⟨?_⟩
        refine wpList_st rfl rfl rfl rfl R6 size_C rfl (by simp [Value.oneCell']) ?_
        intro w7 K7 b7 but7 z7
        go_wp2
        refine bodyPost_ret (v := .tuple #[.agg (cC i0.toNat (sp zs 0) (sp zs 1) (sp zs 2) (sp zs 3) (sp zs 4)), .int .i64 0]) (results_cell_tmp_row Tryd.results42 _ _ _ _ _ _ _ _ rfl rfl K7 Tryd.underlying41 rfl size_C) rfl ⟨by rw [HX.out], B6.trans (b7 _ (Nat.le_succ _))⟩
      · have q1 : (rE != 0) = true := by rw [bne_iff_ne]; exact hz
        have HX : Hid (rC = cC 0 0 0 0 0 0) := hcn'.out hz
        clear hcy' hcn' hE' hz
        go_wp2_with (with_reducible show wpList _ _ _ (Oper.mk _ (Op.load 41 _) _ _ _ _ :: _) _ _; refine wpList_ld rfl rfl rfl (run_ldC (by with_reducible assumption)) ?_; (try simp only [Act.put, List.setIfInBounds_toArray, List.set_cons_zero, List.set_cons_succ, World.size_alloc]))
        refine (HR _).mono ?_
        rintro e w6 ⟨rfl, b6⟩
        have R6 := R5.below b6 R5.lt
        have B6 := B5.trans (b6.mono B5.size)
        clear HR R5 Y5 B5 b6
        go_wp2_with (with_reducible show wpList _ _ _ (Oper.mk _ (Op.store 41 _ _) _ _ _ _ :: _) _ _; refine stop_here ?_)
        refine ⟨?_⟩
        refine wpList_st rfl rfl rfl rfl R6 size_C rfl (by simp [Value.oneCell']) ?_
        intro w7 K7 b7 but7 z7
        go_wp2
        refine bodyPost_ret (v := .tuple #[.agg (cC 0 0 0 0 0 0), .int .i64 rE]) (results_cell_tmp_row Tryd.results42 _ _ _ _ _ _ _ _ rfl rfl K7 Tryd.underlying41 rfl size_C) rfl ⟨by rw [HX.out], B6.trans (b7 _ (Nat.le_succ _))⟩
    · have hX : rtE x = 5 := by unfold rtE; simp [h1, h2]
      have HX : Hid (rtE x = 5 ∧ rtC x = cC 0 0 0 0 0 0) := ⟨hX, rtC_no hX (by decide)⟩
      have q1 : ((x.id.toNat : Int) != 89) = false := id_bne h1
      have q2 : ((l : Int) != 31) = true := by rw [bne_iff_ne]; have := hI.1; omega
      clear h1 h2 hX
      have k0 := K0.cell 0 _ rfl
      have k1 := K0.cell 1 _ rfl
      have R1 := R0
      clear hI K0 R0
      go_enter Tryd.func42, Tryd.ntmps42
      go_wp2
      refine bodyPost_ret (v := .tuple #[.agg (cC 0 0 0 0 0 0), .int .i64 5]) (results_cell_tmp_row Tryd.results42 _ _ _ _ _ _ _ _ rfl rfl R1 Tryd.underlying41 rfl size_C) rfl ⟨by rw [HX.out.1, HX.out.2], A0⟩
  · have hX : rtE x = 12 := by unfold rtE; simp [h1]
    have HX : Hid (rtE x = 12 ∧ rtC x = cC 0 0 0 0 0 0) := ⟨hX, rtC_no hX (by decide)⟩
    have q1 : ((x.id.toNat : Int) != 89) = true := id_bne' (j := 89) h1
    clear h1 hX
    have k0 := K0.cell 0 _ rfl
    have k1 := K0.cell 1 _ rfl
    have R1 := R0
    clear hI K0 R0
    go_enter Tryd.func42, Tryd.ntmps42
    go_wp2
    refine bodyPost_ret (v := .tuple #[.agg (cC 0 0 0 0 0 0), .int .i64 12]) (results_cell_tmp_row Tryd.results42 _ _ _ _ _ _ _ _ rfl rfl R1 Tryd.underlying41 rfl size_C) rfl ⟨by rw [HX.out.1, HX.out.2], A0⟩
end Go.Proofs.YtbjeljmnknibnaaDoor
