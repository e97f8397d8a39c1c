/- Proved here: the walk of BucketShift. Conditions: as each theorem states them. -/
import Derived.Test.YtkndejpklibkfaaWindowsW
namespace Go.Proofs.Ytkndejpklibkfaa
set_option linter.unusedSimpArgs false
set_option linter.unusedVariables false
open Go.RowKit Go.Shelf

set_option maxHeartbeats 4000000 in
theorem shift_walk (step early : Int) (s0 : 0 ≤ step) (s1 : step < 4294967296) (e0 : 0 ≤ early) (e1 : early < 4294967296) (a : Option Addr) (len cap : Nat) (zs : List Int) (d : Int) (d0 : 0 ≤ d) (d1 : d < 4294967296) (w : World) (hL : IsR .u32 w.heap.size w a len zs) (hb : ∀ z ∈ zs, 0 ≤ z ∧ z < 4294967296) :
    Calls Try.prog 8 #[.int .u32 step, .int .u32 early, .slice a len cap, .int .u32 d] w fun e w' => e = .returned (.bool true) ∧ Below w.heap.size w w' := by
  by_cases hl1 : 300 < len
  · have q1 : decide (300 < (len : Int)) = true := by simp; omega
    clear hL
    go_enter Try.func8, Try.ntmps8
    go_wp2_with fail
    refine (awake_calls _).mono ?_
    rintro e w1 ⟨rfl, b1⟩
    go_wp2_with fail
    refine (awake_calls _).mono ?_
    rintro e w2 ⟨rfl, b2⟩
    go_wp2
    go_ret
    exact ⟨rfl, b1.trans (b2.mono b1.size)⟩
  have q1 : decide (300 < (len : Int)) = false := by simp; omega
  have hl : len ≤ 300 := by omega
  have HB : Hid (∀ z ∈ zs, 0 ≤ z ∧ z < 4294967296) := hb
  obtain ⟨s, hs⟩ : ∃ s, max 1 step = s := ⟨_, rfl⟩
  have p0 : 1 ≤ s := by omega
  have p1 : s ≤ 4294967296 := by omega
  have HS : Hid (hS step = s) := by show _ = _; rw [hS_max s0 s1, hs]
  have HE : Hid (hM early = early) := hM_id e0 (by omega)
  clear hl1 hb hs
  go_enter Try.func8, Try.ntmps8
  go_wp2_with fail
  refine (awake_calls _).mono ?_
  rintro e w1 ⟨rfl, B1⟩
  go_wp2_with fail
  refine (new_calls step early _).mono ?_
  rintro e w2 ⟨rfl, C2, B2⟩
  have B12 : Below w.heap.size w w2 := B1.trans (B2.mono B1.size)
  go_wp2_with fail
  refine (new_calls step early _).mono ?_
  rintro e w3 ⟨rfl, D3, B3⟩
  have C3 := C2.below B3 C2.lt
  have r1 : w1.heap.size < w2.heap.size := C2.lt
  have B13 : Below w.heap.size w w3 := B12.trans (B3.mono B12.size)
  have b13 : Below w1.heap.size w1 w3 := B2.trans (B3.mono B2.size)
  obtain ⟨q, hq⟩ : ∃ q, w2.heap.size = q := ⟨_, rfl⟩
  rw [hq] at D3 r1 ⊢
  clear C2 B2 B12 B3 q1 hq
  go_wp2_with fail
  refine (rising_calls a len cap zs _ (hL.below B13 (Nat.le_refl _)) B13.size HB.out hl).mono ?_
  rintro e w4 ⟨al, cl, rfl, o4, B4⟩
  have C4 := C3.below B4 C3.lt
  have D4 := D3.below B4 D3.lt
  have L4 := o4.isQ
  have b14 : Below w1.heap.size w1 w4 := b13.trans (B4.mono b13.size)
  have r2 : q < w3.heap.size := D3.lt
  have z4 : w3.heap.size ≤ w4.heap.size := B4.size
  obtain ⟨n2, hn2⟩ : ∃ n, w3.heap.size = n := ⟨_, rfl⟩
  obtain ⟨n3, hn3⟩ : ∃ n, w4.heap.size = n := ⟨_, rfl⟩
  rw [hn2] at L4 r2 z4
  rw [hn3] at L4 z4
  have z5 : n3 ≤ w4.heap.size := by omega
  clear C3 D3 o4 B4 hL B13 b13 hn2 hn3
  go_wp2
  go_loopw [35] (fun iv wr => ∃ (k : Nat) (T U : Int), k ≤ len ∧ iv = .int .i64 k ∧ ((k = 0 ∧ T = 0 ∧ U = 0) ∨ U = T + d) ∧ 0 ≤ T ∧ T ≤ 4398046511104 ∧ 0 ≤ U ∧ U ≤ 4402341478400 ∧
      n3 ≤ wr.heap.size ∧ IsQ .i64 n2 n3 wr al len (rises zs len) ∧ BC wr w1.heap.size step early T ∧ BC wr q step early U ∧ Below w1.heap.size w1 wr) (fun iv _ => len - (intOf iv).toNat)
  case atStart => exact ⟨0, 0, 0, Nat.zero_le _, rfl, .inl ⟨rfl, rfl, rfl⟩, by decide, by decide, by decide, by decide, z5, L4, C4, D4, b14⟩
  case round =>
    obtain ⟨k, T, U, hk, rfl, hTU, T0, T1, U0, U1, z6, L5, C5, D5, b5⟩ := hrel
    clear C4 D4 L4 b14 z5
    by_cases hlt : k < len
    · obtain ⟨b, off, rfl, hb0, hb1, c1⟩ := L5.at (rises_get zs hlt)
      have ⟨x0, x1⟩ := tmN_bound HB.out (k + 1)
      obtain ⟨x, hx⟩ : ∃ x, tmN zs (k + 1) = x := ⟨_, rfl⟩
      rw [hx] at c1 x0 x1
      have x2 : x ≤ 1288490188800 := by omega
      have HX : Hid (hM x = x) := hM_id x0 (by omega)
      have HY : Hid (hM (x + d) = x + d) := hM_id (by omega) (by omega)
      have wy : Hid (IntKind.i64.wrap (x + d) = x + d) := wrap_id (by omega) (by omega)
      have wd : Hid (IntKind.i64.wrap d = d) := wrap_id (by omega) (by omega)
      clear hx x1
      have hq1 : w1.heap.size ≠ q := by omega
      by_cases hf : T - early ≤ x
      · have f1 : fitN early T x = true := fitN_true (by rw [HE.out, HX.out]; exact hf)
        have f2 : fitN early U (x + d) = true := fitN_true (by rw [HE.out, HY.out]; omega)
        obtain ⟨T', hT'⟩ : ∃ T', max T x + s = T' := ⟨_, rfl⟩
        have HN : Hid (nextN step T x = T') := by show _ = _; unfold nextN; rw [HS.out, HX.out]; exact hT'
        have HO : Hid (nextN step U (x + d) = T' + d) := by show _ = _; unfold nextN; rw [HS.out, HY.out]; omega
        obtain ⟨v, hv⟩ : ∃ v, max 0 (T' - x) = v := ⟨_, rfl⟩
        have HV : Hid (max 0 (T' - hM x) = v) := by show _ = _; rw [HX.out]; exact hv
        have HW : Hid (max 0 (T' + d - hM (x + d)) = v) := by show _ = _; rw [HY.out]; omega
        have t0 : 0 ≤ T' := by omega
        have t1 : T' ≤ 4398046511104 := by omega
        have u0 : 0 ≤ T' + d := by omega
        have u1 : T' + d ≤ 4402341478400 := by omega
        clear hTU hT' hv hf
        go_wp2
        have CC : BC wr.drew w1.heap.size step early T := C5
        have DD : BC wr.drew q step early U := D5
        have LL : IsQ .i64 n2 n3 wr.drew (some ⟨b, off, none⟩) len (rises zs len) := L5
        have bb : Below w1.heap.size w1 wr.drew := b5.drew
        have cc : wr.drew.cell? ⟨b, off + k, none⟩ = some (.int .i64 x) := c1
        have z7 : n3 ≤ wr.drew.heap.size := z6
        clear C5 D5 L5 b5 c1 z6
        refine wp_region_held_drew (S := (fun w' => w'.cell? ⟨b, off + k, none⟩ = some (.int .i64 x))) (by kernel_rfl) cc (fun hHeld => ?_)
        refine wpAnyH_take (i := 0) (oi := ({ dst := some 38, op := Op.move (Operand.tmp 9), type := 25, pos := _, after := #[], guard := none } : Oper)) (v := ?_) rfl (by kernel_rfl) (by kernel_rfl) (by kernel_rfl) (fun _ _ _ h => h) (Or.inl ⟨by rfl, ?_⟩) hHeld ?_
        rotate_left
        · (intro w hS; go_simp; try with_reducible rfl)
        try simp only [Act.put, List.setIfInBounds_toArray, List.set_cons_zero, List.set_cons_succ]
        refine wpAnyH_take (i := 1) (oi := ({ dst := some 39, op := Op.move (Operand.tmp 11), type := 27, pos := _, after := #[], guard := none } : Oper)) (v := ?_) rfl (by kernel_rfl) (by kernel_rfl) (by kernel_rfl) (fun _ _ _ h => h) (Or.inl ⟨by rfl, ?_⟩) hHeld ?_
        rotate_left
        · (intro w hS; go_simp; try with_reducible rfl)
        try simp only [Act.put, List.setIfInBounds_toArray, List.set_cons_zero, List.set_cons_succ]
        refine wpAnyH_take (i := 2) (oi := ({ dst := some 40, op := Op.move (Operand.tmp 12), type := 3, pos := _, after := #[], guard := none } : Oper)) (v := ?_) rfl (by kernel_rfl) (by kernel_rfl) (by kernel_rfl) (fun _ _ _ h => h) (Or.inl ⟨by rfl, ?_⟩) hHeld ?_
        rotate_left
        · (intro w hS; go_simp; try with_reducible rfl)
        try simp only [Act.put, List.setIfInBounds_toArray, List.set_cons_zero, List.set_cons_succ]
        refine wpAnyH_take (i := 3) (oi := ({ dst := some 41, op := Op.indexAddr 27 (Operand.tmp 39) (Operand.tmp 40), type := 0, pos := _, after := #[{ on := 1, ground := Ground.data }, { on := 2, ground := Ground.data }], guard := none } : Oper)) (v := ?_) rfl (by kernel_rfl) (by kernel_rfl) (by kernel_rfl) (fun _ _ _ h => h) (Or.inl ⟨by rfl, ?_⟩) hHeld ?_
        rotate_left
        · (intro w hS; go_simp; try with_reducible rfl)
        try simp only [Act.put, List.setIfInBounds_toArray, List.set_cons_zero, List.set_cons_succ]
        refine wpAnyH_take (i := 4) (oi := ({ dst := some 42, op := Op.load 3 (Operand.tmp 41), type := 3, pos := _, after := #[{ on := 3, ground := Ground.data }], guard := none } : Oper)) (v := ?_) rfl (by kernel_rfl) (by kernel_rfl) (by kernel_rfl) (fun _ _ _ h => h) (Or.inl ⟨by rfl, ?_⟩) hHeld ?_
        rotate_left
        · (intro w hS; go_simp; try with_reducible rfl)
        try simp only [Act.put, List.setIfInBounds_toArray, List.set_cons_zero, List.set_cons_succ]
        refine wpAnyH_take (i := 6) (oi := ({ dst := some 44, op := Op.move (Operand.tmp 10), type := 25, pos := _, after := #[], guard := none } : Oper)) (v := ?_) rfl (by kernel_rfl) (by kernel_rfl) (by kernel_rfl) (fun _ _ _ h => h) (Or.inl ⟨by rfl, ?_⟩) hHeld ?_
        rotate_left
        · (intro w hS; go_simp; try with_reducible rfl)
        try simp only [Act.put, List.setIfInBounds_toArray, List.set_cons_zero, List.set_cons_succ]
        refine wpAnyH_take (i := 7) (oi := ({ dst := some 45, op := Op.move (Operand.tmp 11), type := 27, pos := _, after := #[], guard := none } : Oper)) (v := ?_) rfl (by kernel_rfl) (by kernel_rfl) (by kernel_rfl) (fun _ _ _ h => h) (Or.inl ⟨by rfl, ?_⟩) hHeld ?_
        rotate_left
        · (intro w hS; go_simp; try with_reducible rfl)
        try simp only [Act.put, List.setIfInBounds_toArray, List.set_cons_zero, List.set_cons_succ]
        refine wpAnyH_take (i := 8) (oi := ({ dst := some 46, op := Op.move (Operand.tmp 12), type := 3, pos := _, after := #[], guard := none } : Oper)) (v := ?_) rfl (by kernel_rfl) (by kernel_rfl) (by kernel_rfl) (fun _ _ _ h => h) (Or.inl ⟨by rfl, ?_⟩) hHeld ?_
        rotate_left
        · (intro w hS; go_simp; try with_reducible rfl)
        try simp only [Act.put, List.setIfInBounds_toArray, List.set_cons_zero, List.set_cons_succ]
        refine wpAnyH_take (i := 9) (oi := ({ dst := some 47, op := Op.indexAddr 27 (Operand.tmp 45) (Operand.tmp 46), type := 0, pos := _, after := #[{ on := 7, ground := Ground.data }, { on := 8, ground := Ground.data }], guard := none } : Oper)) (v := ?_) rfl (by kernel_rfl) (by kernel_rfl) (by kernel_rfl) (fun _ _ _ h => h) (Or.inl ⟨by rfl, ?_⟩) hHeld ?_
        rotate_left
        · (intro w hS; go_simp; try with_reducible rfl)
        try simp only [Act.put, List.setIfInBounds_toArray, List.set_cons_zero, List.set_cons_succ]
        refine wpAnyH_take (i := 10) (oi := ({ dst := some 48, op := Op.load 3 (Operand.tmp 47), type := 3, pos := _, after := #[{ on := 9, ground := Ground.data }], guard := none } : Oper)) (v := ?_) rfl (by kernel_rfl) (by kernel_rfl) (by kernel_rfl) (fun _ _ _ h => h) (Or.inl ⟨by rfl, ?_⟩) hHeld ?_
        rotate_left
        · (intro w hS; go_simp; try with_reducible rfl)
        try simp only [Act.put, List.setIfInBounds_toArray, List.set_cons_zero, List.set_cons_succ]
        refine wpAnyH_take (i := 11) (oi := ({ dst := some 49, op := Op.move (Operand.tmp 3), type := 22, pos := _, after := #[], guard := none } : Oper)) (v := ?_) rfl (by kernel_rfl) (by kernel_rfl) (by kernel_rfl) (fun _ _ _ h => h) (Or.inl ⟨by rfl, ?_⟩) hHeld ?_
        rotate_left
        · (intro w hS; go_simp; try with_reducible rfl)
        try simp only [Act.put, List.setIfInBounds_toArray, List.set_cons_zero, List.set_cons_succ]
        refine wpAnyH_take (i := 12) (oi := ({ dst := some 50, op := Op.convert 22 3 (Operand.tmp 49), type := 3, pos := _, after := #[{ on := 11, ground := Ground.data }], guard := none } : Oper)) (v := ?_) rfl (by kernel_rfl) (by kernel_rfl) (by kernel_rfl) (fun _ _ _ h => h) (Or.inl ⟨by rfl, ?_⟩) hHeld ?_
        rotate_left
        · (intro w hS; go_simp; try with_reducible rfl)
        try simp only [Act.put, List.setIfInBounds_toArray, List.set_cons_zero, List.set_cons_succ]
        rw [wd.out]
        refine wpAnyH_take (i := 13) (oi := ({ dst := some 51, op := Op.binOp BinOp.add 3 (Operand.tmp 48) (Operand.tmp 50) 3, type := 3, pos := _, after := #[{ on := 10, ground := Ground.data }, { on := 12, ground := Ground.data }], guard := none } : Oper)) (v := ?_) rfl (by kernel_rfl) (by kernel_rfl) (by kernel_rfl) (fun _ _ _ h => h) (Or.inl ⟨by rfl, ?_⟩) hHeld ?_
        rotate_left
        · (intro w hS; go_simp; try with_reducible rfl)
        try simp only [Act.put, List.setIfInBounds_toArray, List.set_cons_zero, List.set_cons_succ]
        rw [wy.out]
        refine wpAnyH_ready (rs := [5]) (by kernel_rfl) (by simp) ?_
        refine AllReadyH.cons (o := ({ dst := some 43, op := Op.call { callee := Callee.value (Operand.func 12), args := #[Operand.tmp 38, Operand.tmp 42], argTypes := #[25, 3] }, type := 4, pos := _, after := #[{ on := 0, ground := Ground.data }, { on := 4, ground := Ground.data }], guard := none } : Oper)) rfl (fun K hK => ?_) AllReadyH.nil
        refine step_call (take_yes w1.heap.size step early T x _ CC T0 (by omega) f1) (enters_of Try.func12 (by kernel_rfl) rfl) _ _ rfl rfl rfl ?_
        rintro e w6 ⟨rfl, C6, b6⟩
        rw [HN.out] at C6
        have D6 := BC.but (q := w1.heap.size) DD b6 DD.lt (by omega)
        have L6 := IsQ.but LL b6 z7 (by omega)
        have z8 : n3 ≤ w6.heap.size := Nat.le_trans z7 b6.size
        have b16 := bb.trans (b6.below (Nat.le_of_lt CC.lt) (Nat.le_refl _))
        have c6 : w6.cell? ⟨b, off + k, none⟩ = some (.int .i64 x) := (b6.cell (p := ⟨b, off + k, none⟩) (by show b < _; omega) (by show b ≠ _; omega)).trans cc
        clear CC DD LL bb b6 z7 cc
        refine ⟨_, rfl, hK.out _ _ c6 (fun hHeld => ?_)⟩
        clear hK K
        try simp only [Act.put, List.setIfInBounds_toArray, List.set_cons_zero, List.set_cons_succ]
        refine wpAnyH_ready (rs := [14]) (by kernel_rfl) (by simp) ?_
        refine AllReadyH.cons (o := ({ dst := some 52, op := Op.call { callee := Callee.value (Operand.func 12), args := #[Operand.tmp 44, Operand.tmp 51], argTypes := #[25, 3] }, type := 4, pos := _, after := #[{ on := 6, ground := Ground.data }, { on := 13, ground := Ground.data }, { on := 5, ground := Ground.chain }], guard := none } : Oper)) rfl (fun K hK => ?_) AllReadyH.nil
        refine step_call (take_yes q step early U (x + d) _ D6 U0 (by omega) f2) (enters_of Try.func12 (by kernel_rfl) rfl) _ _ rfl rfl rfl ?_
        rintro e w7 ⟨rfl, D7, b7⟩
        rw [HO.out] at D7
        have C7 := C6.but b7 C6.lt (by omega)
        have L7 := L6.but b7 z8 (by omega)
        have z9 : n3 ≤ w7.heap.size := Nat.le_trans z8 b7.size
        have b17 := b16.trans (b7.below (m := w1.heap.size) (Nat.le_of_lt C6.lt) (by omega))
        have c7 : w7.cell? ⟨b, off + k, none⟩ = some (.int .i64 x) := (b7.cell (p := ⟨b, off + k, none⟩) (by show b < _; omega) (by show b ≠ _; omega)).trans c6
        clear C6 D6 L6 b16 b7 z8 c6
        refine ⟨_, rfl, hK.out _ _ c7 (fun hHeld => ?_)⟩
        clear hK K
        try simp only [Act.put, List.setIfInBounds_toArray, List.set_cons_zero, List.set_cons_succ]
        refine wpAnyH_take (i := 15) (oi := ({ dst := some 53, op := Op.binOp BinOp.neq 4 (Operand.tmp 43) (Operand.tmp 52) 4, type := 4, pos := _, after := #[{ on := 5, ground := Ground.data }, { on := 14, ground := Ground.data }], guard := none } : Oper)) (v := ?_) rfl (by kernel_rfl) (by kernel_rfl) (by kernel_rfl) (fun _ _ _ h => h) (Or.inl ⟨by rfl, ?_⟩) hHeld ?_
        rotate_left
        · (intro w hS; go_simp; try with_reducible rfl)
        try simp only [Act.put, List.setIfInBounds_toArray, List.set_cons_zero, List.set_cons_succ]
        refine wpAnyH_take (i := 16) (oi := ({ dst := some 54, op := Op.move (Operand.tmp 53), type := 4, pos := _, after := #[{ on := 15, ground := Ground.data }, { on := 14, ground := Ground.chain }], guard := none } : Oper)) (v := ?_) rfl (by kernel_rfl) (by kernel_rfl) (by kernel_rfl) (fun _ _ _ h => h) (Or.inl ⟨by rfl, ?_⟩) hHeld ?_
        rotate_left
        · (intro w hS; go_simp; try with_reducible rfl)
        try simp only [Act.put, List.setIfInBounds_toArray, List.set_cons_zero, List.set_cons_succ]
        refine wpAnyH_take (i := 17) (oi := ({ dst := some 55, op := Op.move (Operand.tmp 9), type := 25, pos := _, after := #[{ on := 16, ground := Ground.guard }], guard := some (16, false) } : Oper)) (v := ?_) rfl (by kernel_rfl) (by kernel_rfl) (by kernel_rfl) (fun _ _ _ h => h) (Or.inl ⟨by rfl, ?_⟩) hHeld ?_
        rotate_left
        · (intro w hS; go_simp; try with_reducible rfl)
        try simp only [Act.put, List.setIfInBounds_toArray, List.set_cons_zero, List.set_cons_succ]
        refine wpAnyH_take (i := 18) (oi := ({ dst := some 56, op := Op.move (Operand.tmp 11), type := 27, pos := _, after := #[{ on := 16, ground := Ground.guard }], guard := some (16, false) } : Oper)) (v := ?_) rfl (by kernel_rfl) (by kernel_rfl) (by kernel_rfl) (fun _ _ _ h => h) (Or.inl ⟨by rfl, ?_⟩) hHeld ?_
        rotate_left
        · (intro w hS; go_simp; try with_reducible rfl)
        try simp only [Act.put, List.setIfInBounds_toArray, List.set_cons_zero, List.set_cons_succ]
        refine wpAnyH_take (i := 19) (oi := ({ dst := some 57, op := Op.move (Operand.tmp 12), type := 3, pos := _, after := #[{ on := 16, ground := Ground.guard }], guard := some (16, false) } : Oper)) (v := ?_) rfl (by kernel_rfl) (by kernel_rfl) (by kernel_rfl) (fun _ _ _ h => h) (Or.inl ⟨by rfl, ?_⟩) hHeld ?_
        rotate_left
        · (intro w hS; go_simp; try with_reducible rfl)
        try simp only [Act.put, List.setIfInBounds_toArray, List.set_cons_zero, List.set_cons_succ]
        refine wpAnyH_take (i := 20) (oi := ({ dst := some 58, op := Op.indexAddr 27 (Operand.tmp 56) (Operand.tmp 57), type := 0, pos := _, after := #[{ on := 18, ground := Ground.data }, { on := 19, ground := Ground.data }, { on := 16, ground := Ground.guard }], guard := some (16, false) } : Oper)) (v := ?_) rfl (by kernel_rfl) (by kernel_rfl) (by kernel_rfl) (fun _ _ _ h => h) (Or.inl ⟨by rfl, ?_⟩) hHeld ?_
        rotate_left
        · (intro w hS; go_simp; try with_reducible rfl)
        try simp only [Act.put, List.setIfInBounds_toArray, List.set_cons_zero, List.set_cons_succ]
        refine wpAnyH_take (i := 21) (oi := ({ dst := some 59, op := Op.load 3 (Operand.tmp 58), type := 3, pos := _, after := #[{ on := 20, ground := Ground.data }, { on := 16, ground := Ground.guard }], guard := some (16, false) } : Oper)) (v := ?_) rfl (by kernel_rfl) (by kernel_rfl) (by kernel_rfl) (fun _ _ _ h => h) (Or.inl ⟨by rfl, ?_⟩) hHeld ?_
        rotate_left
        · (intro w hS; go_simp; try with_reducible rfl)
        try simp only [Act.put, List.setIfInBounds_toArray, List.set_cons_zero, List.set_cons_succ]
        refine wpAnyH_take (i := 23) (oi := ({ dst := some 61, op := Op.move (Operand.tmp 10), type := 25, pos := _, after := #[{ on := 16, ground := Ground.guard }], guard := some (16, false) } : Oper)) (v := ?_) rfl (by kernel_rfl) (by kernel_rfl) (by kernel_rfl) (fun _ _ _ h => h) (Or.inl ⟨by rfl, ?_⟩) hHeld ?_
        rotate_left
        · (intro w hS; go_simp; try with_reducible rfl)
        try simp only [Act.put, List.setIfInBounds_toArray, List.set_cons_zero, List.set_cons_succ]
        refine wpAnyH_take (i := 24) (oi := ({ dst := some 62, op := Op.move (Operand.tmp 11), type := 27, pos := _, after := #[{ on := 16, ground := Ground.guard }], guard := some (16, false) } : Oper)) (v := ?_) rfl (by kernel_rfl) (by kernel_rfl) (by kernel_rfl) (fun _ _ _ h => h) (Or.inl ⟨by rfl, ?_⟩) hHeld ?_
        rotate_left
        · (intro w hS; go_simp; try with_reducible rfl)
        try simp only [Act.put, List.setIfInBounds_toArray, List.set_cons_zero, List.set_cons_succ]
        refine wpAnyH_take (i := 25) (oi := ({ dst := some 63, op := Op.move (Operand.tmp 12), type := 3, pos := _, after := #[{ on := 16, ground := Ground.guard }], guard := some (16, false) } : Oper)) (v := ?_) rfl (by kernel_rfl) (by kernel_rfl) (by kernel_rfl) (fun _ _ _ h => h) (Or.inl ⟨by rfl, ?_⟩) hHeld ?_
        rotate_left
        · (intro w hS; go_simp; try with_reducible rfl)
        try simp only [Act.put, List.setIfInBounds_toArray, List.set_cons_zero, List.set_cons_succ]
        refine wpAnyH_take (i := 26) (oi := ({ dst := some 64, op := Op.indexAddr 27 (Operand.tmp 62) (Operand.tmp 63), type := 0, pos := _, after := #[{ on := 24, ground := Ground.data }, { on := 25, ground := Ground.data }, { on := 16, ground := Ground.guard }], guard := some (16, false) } : Oper)) (v := ?_) rfl (by kernel_rfl) (by kernel_rfl) (by kernel_rfl) (fun _ _ _ h => h) (Or.inl ⟨by rfl, ?_⟩) hHeld ?_
        rotate_left
        · (intro w hS; go_simp; try with_reducible rfl)
        try simp only [Act.put, List.setIfInBounds_toArray, List.set_cons_zero, List.set_cons_succ]
        refine wpAnyH_take (i := 27) (oi := ({ dst := some 65, op := Op.load 3 (Operand.tmp 64), type := 3, pos := _, after := #[{ on := 26, ground := Ground.data }, { on := 16, ground := Ground.guard }], guard := some (16, false) } : Oper)) (v := ?_) rfl (by kernel_rfl) (by kernel_rfl) (by kernel_rfl) (fun _ _ _ h => h) (Or.inl ⟨by rfl, ?_⟩) hHeld ?_
        rotate_left
        · (intro w hS; go_simp; try with_reducible rfl)
        try simp only [Act.put, List.setIfInBounds_toArray, List.set_cons_zero, List.set_cons_succ]
        refine wpAnyH_take (i := 28) (oi := ({ dst := some 66, op := Op.move (Operand.tmp 3), type := 22, pos := _, after := #[{ on := 16, ground := Ground.guard }], guard := some (16, false) } : Oper)) (v := ?_) rfl (by kernel_rfl) (by kernel_rfl) (by kernel_rfl) (fun _ _ _ h => h) (Or.inl ⟨by rfl, ?_⟩) hHeld ?_
        rotate_left
        · (intro w hS; go_simp; try with_reducible rfl)
        try simp only [Act.put, List.setIfInBounds_toArray, List.set_cons_zero, List.set_cons_succ]
        refine wpAnyH_take (i := 29) (oi := ({ dst := some 67, op := Op.convert 22 3 (Operand.tmp 66), type := 3, pos := _, after := #[{ on := 28, ground := Ground.data }, { on := 16, ground := Ground.guard }], guard := some (16, false) } : Oper)) (v := ?_) rfl (by kernel_rfl) (by kernel_rfl) (by kernel_rfl) (fun _ _ _ h => h) (Or.inl ⟨by rfl, ?_⟩) hHeld ?_
        rotate_left
        · (intro w hS; go_simp; try with_reducible rfl)
        try simp only [Act.put, List.setIfInBounds_toArray, List.set_cons_zero, List.set_cons_succ]
        rw [wd.out]
        refine wpAnyH_take (i := 30) (oi := ({ dst := some 68, op := Op.binOp BinOp.add 3 (Operand.tmp 65) (Operand.tmp 67) 3, type := 3, pos := _, after := #[{ on := 27, ground := Ground.data }, { on := 29, ground := Ground.data }, { on := 16, ground := Ground.guard }], guard := some (16, false) } : Oper)) (v := ?_) rfl (by kernel_rfl) (by kernel_rfl) (by kernel_rfl) (fun _ _ _ h => h) (Or.inl ⟨by rfl, ?_⟩) hHeld ?_
        rotate_left
        · (intro w hS; go_simp; try with_reducible rfl)
        try simp only [Act.put, List.setIfInBounds_toArray, List.set_cons_zero, List.set_cons_succ]
        rw [wy.out]
        refine wpAnyH_ready (rs := [22]) (by kernel_rfl) (by simp) ?_
        refine AllReadyH.cons (o := ({ dst := some 60, op := Op.call { callee := Callee.value (Operand.func 13), args := #[Operand.tmp 55, Operand.tmp 59], argTypes := #[25, 3] }, type := 3, pos := _, after := #[{ on := 17, ground := Ground.data }, { on := 21, ground := Ground.data }, { on := 16, ground := Ground.chain }, { on := 16, ground := Ground.guard }], guard := some (16, false) } : Oper)) rfl (fun K hK => ?_) AllReadyH.nil
        refine step_call (level_calls w1.heap.size step early T' x _ C7 t0 (by omega)) (enters_of Try.func13 (by kernel_rfl) rfl) _ _ rfl rfl rfl ?_
        rintro e w8 ⟨rfl, b8⟩
        rw [HV.out]
        have C8 := C7.below b8 C7.lt
        have D8 := D7.below b8 D7.lt
        have L8 := L7.below b8 z9
        have z10 : n3 ≤ w8.heap.size := Nat.le_trans z9 b8.size
        have b18 := b17.trans (b8.mono (Nat.le_of_lt C7.lt))
        have c8 : w8.cell? ⟨b, off + k, none⟩ = some (.int .i64 x) := (b8.cell (p := ⟨b, off + k, none⟩) (by show b < _; omega)).trans c7
        clear C7 D7 L7 b17 b8 z9 c7
        refine ⟨_, rfl, hK.out _ _ c8 (fun hHeld => ?_)⟩
        clear hK K
        try simp only [Act.put, List.setIfInBounds_toArray, List.set_cons_zero, List.set_cons_succ]
        refine wpAnyH_ready (rs := [31]) (by kernel_rfl) (by simp) ?_
        refine AllReadyH.cons (o := ({ dst := some 69, op := Op.call { callee := Callee.value (Operand.func 13), args := #[Operand.tmp 61, Operand.tmp 68], argTypes := #[25, 3] }, type := 3, pos := _, after := #[{ on := 23, ground := Ground.data }, { on := 30, ground := Ground.data }, { on := 22, ground := Ground.chain }, { on := 16, ground := Ground.guard }], guard := some (16, false) } : Oper)) rfl (fun K hK => ?_) AllReadyH.nil
        refine step_call (level_calls q step early (T' + d) (x + d) _ D8 u0 (by omega)) (enters_of Try.func13 (by kernel_rfl) rfl) _ _ rfl rfl rfl ?_
        rintro e w9 ⟨rfl, b9⟩
        rw [HW.out]
        have C9 := C8.below b9 C8.lt
        have D9 := D8.below b9 D8.lt
        have L9 := L8.below b9 z10
        have z11 : n3 ≤ w9.heap.size := Nat.le_trans z10 b9.size
        have b19 := b18.trans (b9.mono (Nat.le_of_lt C8.lt))
        have c9 : w9.cell? ⟨b, off + k, none⟩ = some (.int .i64 x) := (b9.cell (p := ⟨b, off + k, none⟩) (by show b < _; omega)).trans c8
        clear C8 D8 L8 b18 b9 z10 c8
        refine ⟨_, rfl, hK.out _ _ c9 (fun hHeld => ?_)⟩
        clear hK K
        try simp only [Act.put, List.setIfInBounds_toArray, List.set_cons_zero, List.set_cons_succ]
        refine wpAnyH_take (i := 32) (oi := ({ dst := some 70, op := Op.binOp BinOp.neq 3 (Operand.tmp 60) (Operand.tmp 69) 3, type := 4, pos := _, after := #[{ on := 22, ground := Ground.data }, { on := 31, ground := Ground.data }, { on := 16, ground := Ground.guard }], guard := some (16, false) } : Oper)) (v := ?_) rfl (by kernel_rfl) (by kernel_rfl) (by kernel_rfl) (fun _ _ _ h => h) (Or.inl ⟨by rfl, ?_⟩) hHeld ?_
        rotate_left
        · (intro w hS; go_simp; try with_reducible rfl)
        try simp only [Act.put, List.setIfInBounds_toArray, List.set_cons_zero, List.set_cons_succ]
        refine wpAnyH_take (i := 33) (oi := ({ dst := some 71, op := Op.pick (Operand.tmp 54) (Operand.const (Value.bool true)) (Operand.tmp 70), type := 4, pos := _, after := #[{ on := 16, ground := Ground.data }, { on := 32, ground := Ground.data }], guard := none } : Oper)) (v := ?_) rfl (by kernel_rfl) (by kernel_rfl) (by kernel_rfl) (fun _ _ _ h => h) (Or.inl ⟨by rfl, ?_⟩) hHeld ?_
        rotate_left
        · (intro w hS; go_simp; try with_reducible rfl)
        try simp only [Act.put, List.setIfInBounds_toArray, List.set_cons_zero, List.set_cons_succ]
        refine wpAnyH_done (by kernel_rfl) ?_ _
        by_cases hp : 0 < T' - early
        · have HDA : Hid (max 0 (T' - hM early) = T' - early) := by show _ = _; rw [HE.out]; omega
          have HDB : Hid (max 0 (T' + d - hM early) = T' - early + d) := by show _ = _; rw [HE.out]; omega
          go_wp2_with fail
          refine (due_calls w1.heap.size step early T' _ C9 t0 (by omega)).mono ?_
          rintro e w10 ⟨rfl, b10⟩
          rw [HDA.out]
          have C10 := C9.below b10 C9.lt
          have D10 := D9.below b10 D9.lt
          have L10 := L9.below b10 z11
          have z12 : n3 ≤ w10.heap.size := Nat.le_trans z11 b10.size
          have b110 := b19.trans (b10.mono (Nat.le_of_lt C9.lt))
          clear C9 D9 L9 z11 b19 b10 c9
          go_wp2_with fail
          refine (due_calls w1.heap.size step early T' _ C10 t0 (by omega)).mono ?_
          rintro e w11 ⟨rfl, b11⟩
          rw [HDA.out]
          have C11 := C10.below b11 C10.lt
          have D11 := D10.below b11 D10.lt
          have L11 := L10.below b11 z12
          have z13 : n3 ≤ w11.heap.size := Nat.le_trans z12 b11.size
          have b111 := b110.trans (b11.mono (Nat.le_of_lt C10.lt))
          clear C10 D10 L10 z12 b110 b11
          go_wp2_with fail
          refine (due_calls q step early (T' + d) _ D11 u0 (by omega)).mono ?_
          rintro e w12 ⟨rfl, b12⟩
          rw [HDB.out]
          have C12 := C11.below b12 C11.lt
          have D12 := D11.below b12 D11.lt
          have L12 := L11.below b12 z13
          have z14 : n3 ≤ w12.heap.size := Nat.le_trans z13 b12.size
          have b112 := b111.trans (b12.mono (Nat.le_of_lt C11.lt))
          clear C11 D11 L11 z13 b111 b12
          go_wp2
          go_roundw
          case rel => exact ⟨k + 1, T', T' + d, by omega, by go_num, .inr rfl, by omega, by omega, by omega, by omega, z14, L12, C12, D12, b112⟩
          case measure => simp [intOf]; omega
        · have HDA : Hid (max 0 (T' - hM early) = 0) := by show _ = _; rw [HE.out]; omega
          clear hp
          go_wp2_with fail
          refine (due_calls w1.heap.size step early T' _ C9 t0 (by omega)).mono ?_
          rintro e w10 ⟨rfl, b10⟩
          rw [HDA.out]
          have C10 := C9.below b10 C9.lt
          have D10 := D9.below b10 D9.lt
          have L10 := L9.below b10 z11
          have z12 : n3 ≤ w10.heap.size := Nat.le_trans z11 b10.size
          have b110 := b19.trans (b10.mono (Nat.le_of_lt C9.lt))
          clear C9 D9 L9 z11 b19 b10 c9
          go_wp2
          go_roundw
          case rel => exact ⟨k + 1, T', T' + d, by omega, by go_num, .inr rfl, by omega, by omega, by omega, by omega, z12, L10, C10, D10, b110⟩
          case measure => simp [intOf]; omega
      · have f1 : fitN early T x = false := fitN_false (by rw [HE.out, HX.out]; omega)
        have hU : U = T + d := by omega
        subst hU
        have f2 : fitN early (T + d) (x + d) = false := fitN_false (by rw [HE.out, HY.out]; omega)
        obtain ⟨T', hT'⟩ : ∃ T', T = T' := ⟨_, rfl⟩
        subst hT'
        obtain ⟨v, hv⟩ : ∃ v, max 0 (T - x) = v := ⟨_, rfl⟩
        have HV : Hid (max 0 (T - hM x) = v) := by show _ = _; rw [HX.out]; exact hv
        have HW : Hid (max 0 (T + d - hM (x + d)) = v) := by show _ = _; rw [HY.out]; omega
        clear hTU hv hf
        go_wp2
        have CC : BC wr.drew w1.heap.size step early T := C5
        have DD : BC wr.drew q step early (T + d) := D5
        have LL : IsQ .i64 n2 n3 wr.drew (some ⟨b, off, none⟩) len (rises zs len) := L5
        have bb : Below w1.heap.size w1 wr.drew := b5.drew
        have cc : wr.drew.cell? ⟨b, off + k, none⟩ = some (.int .i64 x) := c1
        have z7 : n3 ≤ wr.drew.heap.size := z6
        clear C5 D5 L5 b5 c1 z6
        refine wp_region_held_drew (S := (fun w' => w'.cell? ⟨b, off + k, none⟩ = some (.int .i64 x))) (by kernel_rfl) cc (fun hHeld => ?_)
        refine wpAnyH_take (i := 0) (oi := ({ dst := some 38, op := Op.move (Operand.tmp 9), type := 25, pos := _, after := #[], guard := none } : Oper)) (v := ?_) rfl (by kernel_rfl) (by kernel_rfl) (by kernel_rfl) (fun _ _ _ h => h) (Or.inl ⟨by rfl, ?_⟩) hHeld ?_
        rotate_left
        · (intro w hS; go_simp; try with_reducible rfl)
        try simp only [Act.put, List.setIfInBounds_toArray, List.set_cons_zero, List.set_cons_succ]
        refine wpAnyH_take (i := 1) (oi := ({ dst := some 39, op := Op.move (Operand.tmp 11), type := 27, pos := _, after := #[], guard := none } : Oper)) (v := ?_) rfl (by kernel_rfl) (by kernel_rfl) (by kernel_rfl) (fun _ _ _ h => h) (Or.inl ⟨by rfl, ?_⟩) hHeld ?_
        rotate_left
        · (intro w hS; go_simp; try with_reducible rfl)
        try simp only [Act.put, List.setIfInBounds_toArray, List.set_cons_zero, List.set_cons_succ]
        refine wpAnyH_take (i := 2) (oi := ({ dst := some 40, op := Op.move (Operand.tmp 12), type := 3, pos := _, after := #[], guard := none } : Oper)) (v := ?_) rfl (by kernel_rfl) (by kernel_rfl) (by kernel_rfl) (fun _ _ _ h => h) (Or.inl ⟨by rfl, ?_⟩) hHeld ?_
        rotate_left
        · (intro w hS; go_simp; try with_reducible rfl)
        try simp only [Act.put, List.setIfInBounds_toArray, List.set_cons_zero, List.set_cons_succ]
        refine wpAnyH_take (i := 3) (oi := ({ dst := some 41, op := Op.indexAddr 27 (Operand.tmp 39) (Operand.tmp 40), type := 0, pos := _, after := #[{ on := 1, ground := Ground.data }, { on := 2, ground := Ground.data }], guard := none } : Oper)) (v := ?_) rfl (by kernel_rfl) (by kernel_rfl) (by kernel_rfl) (fun _ _ _ h => h) (Or.inl ⟨by rfl, ?_⟩) hHeld ?_
        rotate_left
        · (intro w hS; go_simp; try with_reducible rfl)
        try simp only [Act.put, List.setIfInBounds_toArray, List.set_cons_zero, List.set_cons_succ]
        refine wpAnyH_take (i := 4) (oi := ({ dst := some 42, op := Op.load 3 (Operand.tmp 41), type := 3, pos := _, after := #[{ on := 3, ground := Ground.data }], guard := none } : Oper)) (v := ?_) rfl (by kernel_rfl) (by kernel_rfl) (by kernel_rfl) (fun _ _ _ h => h) (Or.inl ⟨by rfl, ?_⟩) hHeld ?_
        rotate_left
        · (intro w hS; go_simp; try with_reducible rfl)
        try simp only [Act.put, List.setIfInBounds_toArray, List.set_cons_zero, List.set_cons_succ]
        refine wpAnyH_take (i := 6) (oi := ({ dst := some 44, op := Op.move (Operand.tmp 10), type := 25, pos := _, after := #[], guard := none } : Oper)) (v := ?_) rfl (by kernel_rfl) (by kernel_rfl) (by kernel_rfl) (fun _ _ _ h => h) (Or.inl ⟨by rfl, ?_⟩) hHeld ?_
        rotate_left
        · (intro w hS; go_simp; try with_reducible rfl)
        try simp only [Act.put, List.setIfInBounds_toArray, List.set_cons_zero, List.set_cons_succ]
        refine wpAnyH_take (i := 7) (oi := ({ dst := some 45, op := Op.move (Operand.tmp 11), type := 27, pos := _, after := #[], guard := none } : Oper)) (v := ?_) rfl (by kernel_rfl) (by kernel_rfl) (by kernel_rfl) (fun _ _ _ h => h) (Or.inl ⟨by rfl, ?_⟩) hHeld ?_
        rotate_left
        · (intro w hS; go_simp; try with_reducible rfl)
        try simp only [Act.put, List.setIfInBounds_toArray, List.set_cons_zero, List.set_cons_succ]
        refine wpAnyH_take (i := 8) (oi := ({ dst := some 46, op := Op.move (Operand.tmp 12), type := 3, pos := _, after := #[], guard := none } : Oper)) (v := ?_) rfl (by kernel_rfl) (by kernel_rfl) (by kernel_rfl) (fun _ _ _ h => h) (Or.inl ⟨by rfl, ?_⟩) hHeld ?_
        rotate_left
        · (intro w hS; go_simp; try with_reducible rfl)
        try simp only [Act.put, List.setIfInBounds_toArray, List.set_cons_zero, List.set_cons_succ]
        refine wpAnyH_take (i := 9) (oi := ({ dst := some 47, op := Op.indexAddr 27 (Operand.tmp 45) (Operand.tmp 46), type := 0, pos := _, after := #[{ on := 7, ground := Ground.data }, { on := 8, ground := Ground.data }], guard := none } : Oper)) (v := ?_) rfl (by kernel_rfl) (by kernel_rfl) (by kernel_rfl) (fun _ _ _ h => h) (Or.inl ⟨by rfl, ?_⟩) hHeld ?_
        rotate_left
        · (intro w hS; go_simp; try with_reducible rfl)
        try simp only [Act.put, List.setIfInBounds_toArray, List.set_cons_zero, List.set_cons_succ]
        refine wpAnyH_take (i := 10) (oi := ({ dst := some 48, op := Op.load 3 (Operand.tmp 47), type := 3, pos := _, after := #[{ on := 9, ground := Ground.data }], guard := none } : Oper)) (v := ?_) rfl (by kernel_rfl) (by kernel_rfl) (by kernel_rfl) (fun _ _ _ h => h) (Or.inl ⟨by rfl, ?_⟩) hHeld ?_
        rotate_left
        · (intro w hS; go_simp; try with_reducible rfl)
        try simp only [Act.put, List.setIfInBounds_toArray, List.set_cons_zero, List.set_cons_succ]
        refine wpAnyH_take (i := 11) (oi := ({ dst := some 49, op := Op.move (Operand.tmp 3), type := 22, pos := _, after := #[], guard := none } : Oper)) (v := ?_) rfl (by kernel_rfl) (by kernel_rfl) (by kernel_rfl) (fun _ _ _ h => h) (Or.inl ⟨by rfl, ?_⟩) hHeld ?_
        rotate_left
        · (intro w hS; go_simp; try with_reducible rfl)
        try simp only [Act.put, List.setIfInBounds_toArray, List.set_cons_zero, List.set_cons_succ]
        refine wpAnyH_take (i := 12) (oi := ({ dst := some 50, op := Op.convert 22 3 (Operand.tmp 49), type := 3, pos := _, after := #[{ on := 11, ground := Ground.data }], guard := none } : Oper)) (v := ?_) rfl (by kernel_rfl) (by kernel_rfl) (by kernel_rfl) (fun _ _ _ h => h) (Or.inl ⟨by rfl, ?_⟩) hHeld ?_
        rotate_left
        · (intro w hS; go_simp; try with_reducible rfl)
        try simp only [Act.put, List.setIfInBounds_toArray, List.set_cons_zero, List.set_cons_succ]
        rw [wd.out]
        refine wpAnyH_take (i := 13) (oi := ({ dst := some 51, op := Op.binOp BinOp.add 3 (Operand.tmp 48) (Operand.tmp 50) 3, type := 3, pos := _, after := #[{ on := 10, ground := Ground.data }, { on := 12, ground := Ground.data }], guard := none } : Oper)) (v := ?_) rfl (by kernel_rfl) (by kernel_rfl) (by kernel_rfl) (fun _ _ _ h => h) (Or.inl ⟨by rfl, ?_⟩) hHeld ?_
        rotate_left
        · (intro w hS; go_simp; try with_reducible rfl)
        try simp only [Act.put, List.setIfInBounds_toArray, List.set_cons_zero, List.set_cons_succ]
        rw [wy.out]
        refine wpAnyH_ready (rs := [5]) (by kernel_rfl) (by simp) ?_
        refine AllReadyH.cons (o := ({ dst := some 43, op := Op.call { callee := Callee.value (Operand.func 12), args := #[Operand.tmp 38, Operand.tmp 42], argTypes := #[25, 3] }, type := 4, pos := _, after := #[{ on := 0, ground := Ground.data }, { on := 4, ground := Ground.data }], guard := none } : Oper)) rfl (fun K hK => ?_) AllReadyH.nil
        refine step_call (take_no w1.heap.size step early T x _ CC T0 (by omega) f1) (enters_of Try.func12 (by kernel_rfl) rfl) _ _ rfl rfl rfl ?_
        rintro e w6 ⟨rfl, b6⟩
        have C6 := BC.below CC b6 CC.lt
        have D6 := BC.below DD b6 DD.lt
        have L6 := IsQ.below LL b6 z7
        have z8 : n3 ≤ w6.heap.size := Nat.le_trans z7 b6.size
        have b16 := bb.trans (b6.mono (Nat.le_of_lt CC.lt))
        have c6 : w6.cell? ⟨b, off + k, none⟩ = some (.int .i64 x) := (b6.cell (p := ⟨b, off + k, none⟩) (by show b < _; omega)).trans cc
        clear CC DD LL bb b6 z7 cc
        refine ⟨_, rfl, hK.out _ _ c6 (fun hHeld => ?_)⟩
        clear hK K
        try simp only [Act.put, List.setIfInBounds_toArray, List.set_cons_zero, List.set_cons_succ]
        refine wpAnyH_ready (rs := [14]) (by kernel_rfl) (by simp) ?_
        refine AllReadyH.cons (o := ({ dst := some 52, op := Op.call { callee := Callee.value (Operand.func 12), args := #[Operand.tmp 44, Operand.tmp 51], argTypes := #[25, 3] }, type := 4, pos := _, after := #[{ on := 6, ground := Ground.data }, { on := 13, ground := Ground.data }, { on := 5, ground := Ground.chain }], guard := none } : Oper)) rfl (fun K hK => ?_) AllReadyH.nil
        refine step_call (take_no q step early (T + d) (x + d) _ D6 U0 (by omega) f2) (enters_of Try.func12 (by kernel_rfl) rfl) _ _ rfl rfl rfl ?_
        rintro e w7 ⟨rfl, b7⟩
        have C7 := C6.below b7 C6.lt
        have D7 := D6.below b7 D6.lt
        have L7 := L6.below b7 z8
        have z9 : n3 ≤ w7.heap.size := Nat.le_trans z8 b7.size
        have b17 := b16.trans (b7.mono (Nat.le_of_lt C6.lt))
        have c7 : w7.cell? ⟨b, off + k, none⟩ = some (.int .i64 x) := (b7.cell (p := ⟨b, off + k, none⟩) (by show b < _; omega)).trans c6
        clear C6 D6 L6 b16 b7 z8 c6
        refine ⟨_, rfl, hK.out _ _ c7 (fun hHeld => ?_)⟩
        clear hK K
        try simp only [Act.put, List.setIfInBounds_toArray, List.set_cons_zero, List.set_cons_succ]
        refine wpAnyH_take (i := 15) (oi := ({ dst := some 53, op := Op.binOp BinOp.neq 4 (Operand.tmp 43) (Operand.tmp 52) 4, type := 4, pos := _, after := #[{ on := 5, ground := Ground.data }, { on := 14, ground := Ground.data }], guard := none } : Oper)) (v := ?_) rfl (by kernel_rfl) (by kernel_rfl) (by kernel_rfl) (fun _ _ _ h => h) (Or.inl ⟨by rfl, ?_⟩) hHeld ?_
        rotate_left
        · (intro w hS; go_simp; try with_reducible rfl)
        try simp only [Act.put, List.setIfInBounds_toArray, List.set_cons_zero, List.set_cons_succ]
        refine wpAnyH_take (i := 16) (oi := ({ dst := some 54, op := Op.move (Operand.tmp 53), type := 4, pos := _, after := #[{ on := 15, ground := Ground.data }, { on := 14, ground := Ground.chain }], guard := none } : Oper)) (v := ?_) rfl (by kernel_rfl) (by kernel_rfl) (by kernel_rfl) (fun _ _ _ h => h) (Or.inl ⟨by rfl, ?_⟩) hHeld ?_
        rotate_left
        · (intro w hS; go_simp; try with_reducible rfl)
        try simp only [Act.put, List.setIfInBounds_toArray, List.set_cons_zero, List.set_cons_succ]
        refine wpAnyH_take (i := 17) (oi := ({ dst := some 55, op := Op.move (Operand.tmp 9), type := 25, pos := _, after := #[{ on := 16, ground := Ground.guard }], guard := some (16, false) } : Oper)) (v := ?_) rfl (by kernel_rfl) (by kernel_rfl) (by kernel_rfl) (fun _ _ _ h => h) (Or.inl ⟨by rfl, ?_⟩) hHeld ?_
        rotate_left
        · (intro w hS; go_simp; try with_reducible rfl)
        try simp only [Act.put, List.setIfInBounds_toArray, List.set_cons_zero, List.set_cons_succ]
        refine wpAnyH_take (i := 18) (oi := ({ dst := some 56, op := Op.move (Operand.tmp 11), type := 27, pos := _, after := #[{ on := 16, ground := Ground.guard }], guard := some (16, false) } : Oper)) (v := ?_) rfl (by kernel_rfl) (by kernel_rfl) (by kernel_rfl) (fun _ _ _ h => h) (Or.inl ⟨by rfl, ?_⟩) hHeld ?_
        rotate_left
        · (intro w hS; go_simp; try with_reducible rfl)
        try simp only [Act.put, List.setIfInBounds_toArray, List.set_cons_zero, List.set_cons_succ]
        refine wpAnyH_take (i := 19) (oi := ({ dst := some 57, op := Op.move (Operand.tmp 12), type := 3, pos := _, after := #[{ on := 16, ground := Ground.guard }], guard := some (16, false) } : Oper)) (v := ?_) rfl (by kernel_rfl) (by kernel_rfl) (by kernel_rfl) (fun _ _ _ h => h) (Or.inl ⟨by rfl, ?_⟩) hHeld ?_
        rotate_left
        · (intro w hS; go_simp; try with_reducible rfl)
        try simp only [Act.put, List.setIfInBounds_toArray, List.set_cons_zero, List.set_cons_succ]
        refine wpAnyH_take (i := 20) (oi := ({ dst := some 58, op := Op.indexAddr 27 (Operand.tmp 56) (Operand.tmp 57), type := 0, pos := _, after := #[{ on := 18, ground := Ground.data }, { on := 19, ground := Ground.data }, { on := 16, ground := Ground.guard }], guard := some (16, false) } : Oper)) (v := ?_) rfl (by kernel_rfl) (by kernel_rfl) (by kernel_rfl) (fun _ _ _ h => h) (Or.inl ⟨by rfl, ?_⟩) hHeld ?_
        rotate_left
        · (intro w hS; go_simp; try with_reducible rfl)
        try simp only [Act.put, List.setIfInBounds_toArray, List.set_cons_zero, List.set_cons_succ]
        refine wpAnyH_take (i := 21) (oi := ({ dst := some 59, op := Op.load 3 (Operand.tmp 58), type := 3, pos := _, after := #[{ on := 20, ground := Ground.data }, { on := 16, ground := Ground.guard }], guard := some (16, false) } : Oper)) (v := ?_) rfl (by kernel_rfl) (by kernel_rfl) (by kernel_rfl) (fun _ _ _ h => h) (Or.inl ⟨by rfl, ?_⟩) hHeld ?_
        rotate_left
        · (intro w hS; go_simp; try with_reducible rfl)
        try simp only [Act.put, List.setIfInBounds_toArray, List.set_cons_zero, List.set_cons_succ]
        refine wpAnyH_take (i := 23) (oi := ({ dst := some 61, op := Op.move (Operand.tmp 10), type := 25, pos := _, after := #[{ on := 16, ground := Ground.guard }], guard := some (16, false) } : Oper)) (v := ?_) rfl (by kernel_rfl) (by kernel_rfl) (by kernel_rfl) (fun _ _ _ h => h) (Or.inl ⟨by rfl, ?_⟩) hHeld ?_
        rotate_left
        · (intro w hS; go_simp; try with_reducible rfl)
        try simp only [Act.put, List.setIfInBounds_toArray, List.set_cons_zero, List.set_cons_succ]
        refine wpAnyH_take (i := 24) (oi := ({ dst := some 62, op := Op.move (Operand.tmp 11), type := 27, pos := _, after := #[{ on := 16, ground := Ground.guard }], guard := some (16, false) } : Oper)) (v := ?_) rfl (by kernel_rfl) (by kernel_rfl) (by kernel_rfl) (fun _ _ _ h => h) (Or.inl ⟨by rfl, ?_⟩) hHeld ?_
        rotate_left
        · (intro w hS; go_simp; try with_reducible rfl)
        try simp only [Act.put, List.setIfInBounds_toArray, List.set_cons_zero, List.set_cons_succ]
        refine wpAnyH_take (i := 25) (oi := ({ dst := some 63, op := Op.move (Operand.tmp 12), type := 3, pos := _, after := #[{ on := 16, ground := Ground.guard }], guard := some (16, false) } : Oper)) (v := ?_) rfl (by kernel_rfl) (by kernel_rfl) (by kernel_rfl) (fun _ _ _ h => h) (Or.inl ⟨by rfl, ?_⟩) hHeld ?_
        rotate_left
        · (intro w hS; go_simp; try with_reducible rfl)
        try simp only [Act.put, List.setIfInBounds_toArray, List.set_cons_zero, List.set_cons_succ]
        refine wpAnyH_take (i := 26) (oi := ({ dst := some 64, op := Op.indexAddr 27 (Operand.tmp 62) (Operand.tmp 63), type := 0, pos := _, after := #[{ on := 24, ground := Ground.data }, { on := 25, ground := Ground.data }, { on := 16, ground := Ground.guard }], guard := some (16, false) } : Oper)) (v := ?_) rfl (by kernel_rfl) (by kernel_rfl) (by kernel_rfl) (fun _ _ _ h => h) (Or.inl ⟨by rfl, ?_⟩) hHeld ?_
        rotate_left
        · (intro w hS; go_simp; try with_reducible rfl)
        try simp only [Act.put, List.setIfInBounds_toArray, List.set_cons_zero, List.set_cons_succ]
        refine wpAnyH_take (i := 27) (oi := ({ dst := some 65, op := Op.load 3 (Operand.tmp 64), type := 3, pos := _, after := #[{ on := 26, ground := Ground.data }, { on := 16, ground := Ground.guard }], guard := some (16, false) } : Oper)) (v := ?_) rfl (by kernel_rfl) (by kernel_rfl) (by kernel_rfl) (fun _ _ _ h => h) (Or.inl ⟨by rfl, ?_⟩) hHeld ?_
        rotate_left
        · (intro w hS; go_simp; try with_reducible rfl)
        try simp only [Act.put, List.setIfInBounds_toArray, List.set_cons_zero, List.set_cons_succ]
        refine wpAnyH_take (i := 28) (oi := ({ dst := some 66, op := Op.move (Operand.tmp 3), type := 22, pos := _, after := #[{ on := 16, ground := Ground.guard }], guard := some (16, false) } : Oper)) (v := ?_) rfl (by kernel_rfl) (by kernel_rfl) (by kernel_rfl) (fun _ _ _ h => h) (Or.inl ⟨by rfl, ?_⟩) hHeld ?_
        rotate_left
        · (intro w hS; go_simp; try with_reducible rfl)
        try simp only [Act.put, List.setIfInBounds_toArray, List.set_cons_zero, List.set_cons_succ]
        refine wpAnyH_take (i := 29) (oi := ({ dst := some 67, op := Op.convert 22 3 (Operand.tmp 66), type := 3, pos := _, after := #[{ on := 28, ground := Ground.data }, { on := 16, ground := Ground.guard }], guard := some (16, false) } : Oper)) (v := ?_) rfl (by kernel_rfl) (by kernel_rfl) (by kernel_rfl) (fun _ _ _ h => h) (Or.inl ⟨by rfl, ?_⟩) hHeld ?_
        rotate_left
        · (intro w hS; go_simp; try with_reducible rfl)
        try simp only [Act.put, List.setIfInBounds_toArray, List.set_cons_zero, List.set_cons_succ]
        rw [wd.out]
        refine wpAnyH_take (i := 30) (oi := ({ dst := some 68, op := Op.binOp BinOp.add 3 (Operand.tmp 65) (Operand.tmp 67) 3, type := 3, pos := _, after := #[{ on := 27, ground := Ground.data }, { on := 29, ground := Ground.data }, { on := 16, ground := Ground.guard }], guard := some (16, false) } : Oper)) (v := ?_) rfl (by kernel_rfl) (by kernel_rfl) (by kernel_rfl) (fun _ _ _ h => h) (Or.inl ⟨by rfl, ?_⟩) hHeld ?_
        rotate_left
        · (intro w hS; go_simp; try with_reducible rfl)
        try simp only [Act.put, List.setIfInBounds_toArray, List.set_cons_zero, List.set_cons_succ]
        rw [wy.out]
        refine wpAnyH_ready (rs := [22]) (by kernel_rfl) (by simp) ?_
        refine AllReadyH.cons (o := ({ dst := some 60, op := Op.call { callee := Callee.value (Operand.func 13), args := #[Operand.tmp 55, Operand.tmp 59], argTypes := #[25, 3] }, type := 3, pos := _, after := #[{ on := 17, ground := Ground.data }, { on := 21, ground := Ground.data }, { on := 16, ground := Ground.chain }, { on := 16, ground := Ground.guard }], guard := some (16, false) } : Oper)) rfl (fun K hK => ?_) AllReadyH.nil
        refine step_call (level_calls w1.heap.size step early T x _ C7 T0 (by omega)) (enters_of Try.func13 (by kernel_rfl) rfl) _ _ rfl rfl rfl ?_
        rintro e w8 ⟨rfl, b8⟩
        rw [HV.out]
        have C8 := C7.below b8 C7.lt
        have D8 := D7.below b8 D7.lt
        have L8 := L7.below b8 z9
        have z10 : n3 ≤ w8.heap.size := Nat.le_trans z9 b8.size
        have b18 := b17.trans (b8.mono (Nat.le_of_lt C7.lt))
        have c8 : w8.cell? ⟨b, off + k, none⟩ = some (.int .i64 x) := (b8.cell (p := ⟨b, off + k, none⟩) (by show b < _; omega)).trans c7
        clear C7 D7 L7 b17 b8 z9 c7
        refine ⟨_, rfl, hK.out _ _ c8 (fun hHeld => ?_)⟩
        clear hK K
        try simp only [Act.put, List.setIfInBounds_toArray, List.set_cons_zero, List.set_cons_succ]
        refine wpAnyH_ready (rs := [31]) (by kernel_rfl) (by simp) ?_
        refine AllReadyH.cons (o := ({ dst := some 69, op := Op.call { callee := Callee.value (Operand.func 13), args := #[Operand.tmp 61, Operand.tmp 68], argTypes := #[25, 3] }, type := 3, pos := _, after := #[{ on := 23, ground := Ground.data }, { on := 30, ground := Ground.data }, { on := 22, ground := Ground.chain }, { on := 16, ground := Ground.guard }], guard := some (16, false) } : Oper)) rfl (fun K hK => ?_) AllReadyH.nil
        refine step_call (level_calls q step early (T + d) (x + d) _ D8 U0 (by omega)) (enters_of Try.func13 (by kernel_rfl) rfl) _ _ rfl rfl rfl ?_
        rintro e w9 ⟨rfl, b9⟩
        rw [HW.out]
        have C9 := C8.below b9 C8.lt
        have D9 := D8.below b9 D8.lt
        have L9 := L8.below b9 z10
        have z11 : n3 ≤ w9.heap.size := Nat.le_trans z10 b9.size
        have b19 := b18.trans (b9.mono (Nat.le_of_lt C8.lt))
        have c9 : w9.cell? ⟨b, off + k, none⟩ = some (.int .i64 x) := (b9.cell (p := ⟨b, off + k, none⟩) (by show b < _; omega)).trans c8
        clear C8 D8 L8 b18 b9 z10 c8
        refine ⟨_, rfl, hK.out _ _ c9 (fun hHeld => ?_)⟩
        clear hK K
        try simp only [Act.put, List.setIfInBounds_toArray, List.set_cons_zero, List.set_cons_succ]
        refine wpAnyH_take (i := 32) (oi := ({ dst := some 70, op := Op.binOp BinOp.neq 3 (Operand.tmp 60) (Operand.tmp 69) 3, type := 4, pos := _, after := #[{ on := 22, ground := Ground.data }, { on := 31, ground := Ground.data }, { on := 16, ground := Ground.guard }], guard := some (16, false) } : Oper)) (v := ?_) rfl (by kernel_rfl) (by kernel_rfl) (by kernel_rfl) (fun _ _ _ h => h) (Or.inl ⟨by rfl, ?_⟩) hHeld ?_
        rotate_left
        · (intro w hS; go_simp; try with_reducible rfl)
        try simp only [Act.put, List.setIfInBounds_toArray, List.set_cons_zero, List.set_cons_succ]
        refine wpAnyH_take (i := 33) (oi := ({ dst := some 71, op := Op.pick (Operand.tmp 54) (Operand.const (Value.bool true)) (Operand.tmp 70), type := 4, pos := _, after := #[{ on := 16, ground := Ground.data }, { on := 32, ground := Ground.data }], guard := none } : Oper)) (v := ?_) rfl (by kernel_rfl) (by kernel_rfl) (by kernel_rfl) (fun _ _ _ h => h) (Or.inl ⟨by rfl, ?_⟩) hHeld ?_
        rotate_left
        · (intro w hS; go_simp; try with_reducible rfl)
        try simp only [Act.put, List.setIfInBounds_toArray, List.set_cons_zero, List.set_cons_succ]
        refine wpAnyH_done (by kernel_rfl) ?_ _
        by_cases hp : 0 < T - early
        · have HDA : Hid (max 0 (T - hM early) = T - early) := by show _ = _; rw [HE.out]; omega
          have HDB : Hid (max 0 (T + d - hM early) = T - early + d) := by show _ = _; rw [HE.out]; omega
          go_wp2_with fail
          refine (due_calls w1.heap.size step early T _ C9 T0 (by omega)).mono ?_
          rintro e w10 ⟨rfl, b10⟩
          rw [HDA.out]
          have C10 := C9.below b10 C9.lt
          have D10 := D9.below b10 D9.lt
          have L10 := L9.below b10 z11
          have z12 : n3 ≤ w10.heap.size := Nat.le_trans z11 b10.size
          have b110 := b19.trans (b10.mono (Nat.le_of_lt C9.lt))
          clear C9 D9 L9 z11 b19 b10 c9
          go_wp2_with fail
          refine (due_calls w1.heap.size step early T _ C10 T0 (by omega)).mono ?_
          rintro e w11 ⟨rfl, b11⟩
          rw [HDA.out]
          have C11 := C10.below b11 C10.lt
          have D11 := D10.below b11 D10.lt
          have L11 := L10.below b11 z12
          have z13 : n3 ≤ w11.heap.size := Nat.le_trans z12 b11.size
          have b111 := b110.trans (b11.mono (Nat.le_of_lt C10.lt))
          clear C10 D10 L10 z12 b110 b11
          go_wp2_with fail
          refine (due_calls q step early (T + d) _ D11 U0 (by omega)).mono ?_
          rintro e w12 ⟨rfl, b12⟩
          rw [HDB.out]
          have C12 := C11.below b12 C11.lt
          have D12 := D11.below b12 D11.lt
          have L12 := L11.below b12 z13
          have z14 : n3 ≤ w12.heap.size := Nat.le_trans z13 b12.size
          have b112 := b111.trans (b12.mono (Nat.le_of_lt C11.lt))
          clear C11 D11 L11 z13 b111 b12
          go_wp2
          go_roundw
          case rel => exact ⟨k + 1, T, T + d, by omega, by go_num, .inr rfl, by omega, by omega, by omega, by omega, z14, L12, C12, D12, b112⟩
          case measure => simp [intOf]; omega
        · have HDA : Hid (max 0 (T - hM early) = 0) := by show _ = _; rw [HE.out]; omega
          clear hp
          go_wp2_with fail
          refine (due_calls w1.heap.size step early T _ C9 T0 (by omega)).mono ?_
          rintro e w10 ⟨rfl, b10⟩
          rw [HDA.out]
          have C10 := C9.below b10 C9.lt
          have D10 := D9.below b10 D9.lt
          have L10 := L9.below b10 z11
          have z12 : n3 ≤ w10.heap.size := Nat.le_trans z11 b10.size
          have b110 := b19.trans (b10.mono (Nat.le_of_lt C9.lt))
          clear C9 D9 L9 z11 b19 b10 c9
          go_wp2
          go_roundw
          case rel => exact ⟨k + 1, T, T + d, by omega, by go_num, .inr rfl, by omega, by omega, by omega, by omega, z12, L10, C10, D10, b110⟩
          case measure => simp [intOf]; omega
    · obtain rfl : k = len := by omega
      go_wp2
      go_ret
      exact ⟨rfl, B1.trans (b5.mono B1.size)⟩
end Go.Proofs.Ytkndejpklibkfaa
