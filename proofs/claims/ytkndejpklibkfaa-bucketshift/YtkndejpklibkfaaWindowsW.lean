/- Proved here: the walk of BucketWindows. Conditions: as each theorem states them. -/
import Derived.Test.YtkndejpklibkfaaOwn
import Derived.Test.YtkndejpklibkfaaSchedW
namespace Go.Proofs.Ytkndejpklibkfaa
set_option linter.unusedSimpArgs false
set_option linter.unusedVariables false
open Go.RowKit

theorem hS_max {step : Int} (s0 : 0 ≤ step) (s1 : step < 4294967296) : hS step = max 1 step := by unfold hS; omega

set_option maxHeartbeats 2000000 in
theorem windows_walk (step early : Int) (s0 : 0 ≤ step) (s1 : step < 4294967296) (e0 : 0 ≤ early) (e1 : early < 4294967296) (a : Option Addr) (len cap : Nat) (zs : List Int) (w : World) (hL : IsR .u32 w.heap.size w a len zs) (hb : ∀ z ∈ zs, 0 ≤ z ∧ z < 4294967296) :
    Calls Try.prog 3 #[.int .u32 step, .int .u32 early, .slice a len cap] w fun e w' => e = .returned (.bool true) ∧ Below w.heap.size w w' := by
  by_cases hl1 : 300 < len
  · have q1 : decide (300 < (len : Int)) = true := by simp; omega
    clear hL
    go_enter Try.func3, Try.ntmps3
    go_wp2_with fail
    refine (awake_calls _).mono ?_
    rintro e w1 ⟨rfl, b1⟩
    go_wp2_with fail
    refine (awake_calls _).mono ?_
    rintro e w2 ⟨rfl, b2⟩
    go_wp2
    go_ret
    exact ⟨rfl, b1.trans (b2.mono b1.size)⟩
  have q1 : decide (300 < (len : Int)) = false := by simp; omega
  have hl : len ≤ 300 := by omega
  have HB : Hid (∀ z ∈ zs, 0 ≤ z ∧ z < 4294967296) := hb
  obtain ⟨s, hs⟩ : ∃ s, max 1 step = s := ⟨_, rfl⟩
  have p0 : 1 ≤ s := by omega
  have p1 : s ≤ 4294967296 := by omega
  have HS : Hid (hS step = s) := by show _ = _; rw [hS_max s0 s1, hs]
  have HM : Hid ((if (1 : Int) < step then step else 1) = s) := by show _ = _; rw [← hs]; split <;> omega
  clear hl1 hb hs
  go_enter Try.func3, Try.ntmps3
  go_wp2_with fail
  refine (awake_calls _).mono ?_
  rintro e w1 ⟨rfl, B1⟩
  go_wp2_with fail
  refine (new_calls step early _).mono ?_
  rintro e w2 ⟨rfl, C2, B2⟩
  have B12 : Below w.heap.size w w2 := B1.trans (B2.mono B1.size)
  clear q1
  go_wp2_with fail
  refine (rising_calls a len cap zs _ (hL.below B12 (Nat.le_refl _)) B12.size HB.out hl).mono ?_
  rintro e w3 ⟨al, cl, rfl, o3, B3⟩
  have C3 := C2.below B3 C2.lt
  have L3 := o3.isQ
  have B13 : Below w1.heap.size w1 w3 := B2.trans (B3.mono B2.size)
  have r2 : w1.heap.size < w2.heap.size := C2.lt
  have z3 : w2.heap.size ≤ w3.heap.size := B3.size
  clear C2 B2 o3 B3 hL B12
  obtain ⟨n2, hn2⟩ : ∃ n, w2.heap.size = n := ⟨_, rfl⟩
  obtain ⟨n3, hn3⟩ : ∃ n, w3.heap.size = n := ⟨_, rfl⟩
  rw [hn2] at L3 r2 z3
  rw [hn3] at L3 z3
  have z4 : n3 ≤ w3.heap.size := by omega
  clear hn2 hn3
  go_wp2
  go_loopw [9, 30] (fun nv iv wr => ∃ (k : Nat) (ai : Option Addr) (ni ci : Nat) (L : List Int) (T : Int), k ≤ len ∧ iv = .int .i64 k ∧ nv = .slice ai ni ci ∧ ni ≤ k ∧ (0 < k → 0 < ni) ∧ (k = 0 → T = 0) ∧ OwnR 3 .i64 n3 wr ai ni ci L ∧ (∀ x ∈ L, 0 ≤ x ∧ x ≤ 1288490188800) ∧ Win s early T L ∧ 0 ≤ T ∧ T ≤ 4398046511104 ∧
      n3 ≤ wr.heap.size ∧ IsQ .i64 n2 n3 wr al len (rises zs len) ∧ BC wr w1.heap.size step early T ∧ Below w1.heap.size w1 wr) (fun _ iv _ => len - (intOf iv).toNat)
  case atStart => exact ⟨0, none, 0, 0, [], 0, Nat.zero_le _, rfl, rfl, Nat.le_refl _, by omega, fun _ => rfl, ownR_nil 3 .i64 _ w3, by simp, win_nil _ _ _, by decide, by decide, z4, L3, C3, B13⟩
  case round =>
    obtain ⟨k, ai, ni, ci, L, T, hk, rfl, rfl, hnk, hpos, hz, o4, hLb, hW, T0, T1, z5, L4, C4, b4⟩ := hrel
    clear C3 L3 B13 z4
    by_cases hlt : k < len
    · obtain ⟨b, off, rfl, hb0, hb1, c1⟩ := L4.at (rises_get zs hlt)
      have ⟨x0, x1⟩ := tmN_bound HB.out (k + 1)
      obtain ⟨x, hx⟩ : ∃ x, tmN zs (k + 1) = x := ⟨_, rfl⟩
      rw [hx] at c1 x0 x1
      have x2 : x ≤ 1288490188800 := by omega
      clear hx x1
      by_cases hf : T - early ≤ x
      · have f1 : fitN early T x = true := by rw [fitN_plain e0 (by omega) x0 (by omega)]; exact decide_eq_true hf
        have HN : Hid (nextN step T x = max T x + s) := by show _ = _; unfold nextN; rw [HS.out, hM_id x0 (by omega)]
        have W2 : Hid (Win s early (max T x + s) (L ++ [x])) := hW.take e0 hf
        have HL : Hid (∀ y ∈ L ++ [x], 0 ≤ y ∧ y ≤ 1288490188800) := by intro y hy; rcases List.mem_append.1 hy with h | h; exact hLb y h; (rw [List.mem_singleton.1 h]; exact ⟨x0, x2⟩)
        have X0 : Hid (0 ≤ max T x + s ∧ max T x + s ≤ 4398046511104) := ⟨by omega, by omega⟩
        clear hW hLb hz hf
        go_wp2_with fail
        refine (take_yes w1.heap.size step early T x _ C4 (by omega) (by omega) f1).mono ?_
        rintro e w5 ⟨rfl, C5, b5⟩
        rw [HN.out] at C5
        have c5 : w5.cell? ⟨b, off + k, none⟩ = some (.int .i64 x) := (b5.cell (p := ⟨b, off + k, none⟩) (by show b < _; omega) (by show b ≠ _; omega)).trans c1
        have o5 := o4.but b5 (Nat.le_refl _) (by omega)
        have L5 := L4.but b5 z5 (by omega)
        have z6 : n3 ≤ w5.heap.size := Nat.le_trans z5 b5.size
        have b15 := b4.trans (b5.below (Nat.le_of_lt C4.lt) (Nat.le_refl _))
        clear c1 o4 L4 C4 b4 b5 z5
        obtain ⟨a3, c3, w6, hap, o6, b6⟩ := run_appR (P := Try.prog) 27 3 .i64 0 8 Try.underlying27 info3 (by decide) (w5.alloc (.cells #[.int .i64 x] 3)) n3 27 ai ni ci _ (o5.below ((Below.refl _ w5).alloc (Nat.le_refl _) _) (Nat.le_refl _)) (some ⟨w5.heap.size, 0, none⟩) 1 1 [x] (isR_new .i64 w5 [x] 3 (0, 0)) (by intro h; cases h) (by omega) (by simp; omega)
        have A6 : Below n3 w5 w6 := ((Below.refl _ w5).alloc z6 _).trans b6
        have L6 := L5.below A6 (Nat.le_refl _)
        have C6 := C5.below A6 (by omega)
        have b16 := b15.trans (A6.mono (by omega))
        have z7 : n3 ≤ w6.heap.size := Nat.le_trans z6 A6.size
        clear o5 L5 C5 b15 A6 b6
        go_wp2_with (at_builtin; refine wpList_app hap _ _ rfl rfl rfl rfl rfl ?_)
        go_roundw
        case rel => exact ⟨k + 1, a3, ni + 1, c3, _, _, by omega, by go_num, rfl, by omega, by omega, by omega, o6, HL.out, W2.out, X0.out.1, X0.out.2, z7, L6, C6, b16⟩
        case measure => simp [intOf]; omega
      · have f1 : fitN early T x = false := by rw [fitN_plain e0 (by omega) x0 (by omega)]; exact decide_eq_false hf
        have hk0 : 0 < k := by rcases Nat.eq_zero_or_pos k with h | h; (have := hz h; omega); exact h
        have hn0 := hpos hk0
        have HW : Hid (Win s early T L) := hW
        have HL : Hid (∀ x ∈ L, 0 ≤ x ∧ x ≤ 1288490188800) := hLb
        clear hpos hz hf hW hLb
        go_wp2_with fail
        refine (take_no w1.heap.size step early T x _ C4 (by omega) (by omega) f1).mono ?_
        rintro e w5 ⟨rfl, b5⟩
        have C5 := C4.below b5 C4.lt
        have o5 := o4.below b5 (Nat.le_refl _)
        have L5 := L4.below b5 z5
        have z6 : n3 ≤ w5.heap.size := Nat.le_trans z5 b5.size
        have b15 := b4.trans (b5.mono (Nat.le_of_lt C4.lt))
        clear c1 o4 L4 C4 b4 b5 z5
        go_wp2
        go_roundw
        case rel => exact ⟨k + 1, ai, ni, ci, L, T, by omega, by go_num, rfl, by omega, by omega, by omega, o5, HL.out, HW.out, T0, T1, z6, L5, C5, b15⟩
        case measure => simp [intOf]; omega
    · obtain rfl : k = len := by omega
      have B4 : Below w.heap.size w wr := B1.trans (b4.mono B1.size)
      have HW : Hid (Win s early T L) := hW
      have HL : Hid (∀ x ∈ L, 0 ≤ x ∧ x ≤ 1288490188800) := hLb
      have HP : Hid (0 < k → 0 < ni) := hpos
      have OL : Hid (ni = L.length) := o4.1
      clear hW hLb hpos hz hlt hk L4 C4 b4 z5
      go_wp2
      go_loopw [49] (fun iv wr' => ∃ (i : Nat), i ≤ ni ∧ iv = .int .i64 i ∧ OwnR 3 .i64 n3 wr' ai ni ci L ∧ Below w.heap.size w wr') (fun iv _ => ni - (intOf iv).toNat)
      case atStart => exact ⟨0, Nat.zero_le _, rfl, o4, B4⟩
      case round =>
        obtain ⟨i, hi, rfl, o5, b5⟩ := hrel
        clear o4 B4
        by_cases hlt : i < ni
        · clear hi
          go_wp2
          go_loopw [12] (fun jv wr' => ∃ (j : Nat), i ≤ j ∧ j ≤ ni ∧ jv = .int .i64 j ∧ OwnR 3 .i64 n3 wr' ai ni ci L ∧ Below w.heap.size w wr') (fun jv _ => ni - (intOf jv).toNat)
          case atStart => exact ⟨i, Nat.le_refl _, Nat.le_of_lt hlt, rfl, o5, b5⟩
          case round =>
            obtain ⟨j, hij, hj, rfl, o6, b6⟩ := hrel
            clear o5 b5
            by_cases hjt : j < ni
            · obtain ⟨x, hx⟩ : ∃ x, L[i]? = some x := ⟨_, List.getElem?_eq_getElem (by have := OL.out; omega)⟩
              obtain ⟨y, hy⟩ : ∃ y, L[j]? = some y := ⟨_, List.getElem?_eq_getElem (by have := OL.out; omega)⟩
              have ⟨x0, x1⟩ := HL.out x (List.mem_of_getElem? hx)
              have ⟨y0, y1⟩ := HL.out y (List.mem_of_getElem? hy)
              have ⟨g0, g1, g2⟩ := HW.out.quo p0 hij hx hy
              obtain ⟨Q, hQ⟩ : ∃ Q, (y - x + early).tdiv s = Q := ⟨_, rfl⟩
              rw [hQ] at g1 g2
              have HQ : Hid ((y - x + early).tdiv s = Q) := hQ
              have HG : Hid (decide (1 + Q < (j : Int) - (i : Int) + 1) = false) := decide_eq_false (by omega)
              obtain ⟨g, cur, rfl, hg, hgl, _⟩ := o6.block (by omega)
              have c1 := o6.get hx
              have c2 := o6.get hy
              clear hx hy hQ
              go_wp2
              refine wp_region_held_drew (S := (fun w' => w'.cell? ⟨g, j, none⟩ = some (.int .i64 y) ∧ w'.cell? ⟨g, i, none⟩ = some (.int .i64 x))) (by kernel_rfl) ⟨c2, c1⟩ (fun hHeld => ?_)
              refine wpAnyH_take (i := 0) (oi := ({ dst := some 59, op := Op.move (Operand.tmp 12), type := 3, pos := _, after := #[], guard := none } : Oper)) (v := ?_) rfl (by kernel_rfl) (by kernel_rfl) (by kernel_rfl) (fun _ _ _ h => h) (Or.inl ⟨by rfl, ?_⟩) hHeld ?_
              rotate_left
              · (intro w hS; go_simp; try with_reducible rfl)
              try simp only [Act.put, List.setIfInBounds_toArray, List.set_cons_zero, List.set_cons_succ]
              refine wpAnyH_take (i := 1) (oi := ({ dst := some 60, op := Op.move (Operand.tmp 11), type := 3, pos := _, after := #[], guard := none } : Oper)) (v := ?_) rfl (by kernel_rfl) (by kernel_rfl) (by kernel_rfl) (fun _ _ _ h => h) (Or.inl ⟨by rfl, ?_⟩) hHeld ?_
              rotate_left
              · (intro w hS; go_simp; try with_reducible rfl)
              try simp only [Act.put, List.setIfInBounds_toArray, List.set_cons_zero, List.set_cons_succ]
              refine wpAnyH_take (i := 2) (oi := ({ dst := some 61, op := Op.binOp BinOp.sub 3 (Operand.tmp 59) (Operand.tmp 60) 3, type := 3, pos := _, after := #[{ on := 0, ground := Ground.data }, { on := 1, ground := Ground.data }], guard := none } : Oper)) (v := ?_) rfl (by kernel_rfl) (by kernel_rfl) (by kernel_rfl) (fun _ _ _ h => h) (Or.inl ⟨by rfl, ?_⟩) hHeld ?_
              rotate_left
              · (intro w hS; go_simp; try with_reducible rfl)
              try simp only [Act.put, List.setIfInBounds_toArray, List.set_cons_zero, List.set_cons_succ]
              rw [wrap_id (x := (j : Int) - (i : Int)) (by omega) (by omega)]
              refine wpAnyH_take (i := 3) (oi := ({ dst := some 62, op := Op.binOp BinOp.add 3 (Operand.tmp 61) (Operand.const (Value.int IntKind.i64 1)) 3, type := 3, pos := _, after := #[{ on := 2, ground := Ground.data }], guard := none } : Oper)) (v := ?_) rfl (by kernel_rfl) (by kernel_rfl) (by kernel_rfl) (fun _ _ _ h => h) (Or.inl ⟨by rfl, ?_⟩) hHeld ?_
              rotate_left
              · (intro w hS; go_simp; try with_reducible rfl)
              try simp only [Act.put, List.setIfInBounds_toArray, List.set_cons_zero, List.set_cons_succ]
              rw [wrap_id (x := (j : Int) - (i : Int) + 1) (by omega) (by omega)]
              refine wpAnyH_take (i := 4) (oi := ({ dst := some 63, op := Op.move (Operand.tmp 9), type := 27, pos := _, after := #[], guard := none } : Oper)) (v := ?_) rfl (by kernel_rfl) (by kernel_rfl) (by kernel_rfl) (fun _ _ _ h => h) (Or.inl ⟨by rfl, ?_⟩) hHeld ?_
              rotate_left
              · (intro w hS; go_simp; try with_reducible rfl)
              try simp only [Act.put, List.setIfInBounds_toArray, List.set_cons_zero, List.set_cons_succ]
              refine wpAnyH_take (i := 5) (oi := ({ dst := some 64, op := Op.move (Operand.tmp 12), type := 3, pos := _, after := #[], guard := none } : Oper)) (v := ?_) rfl (by kernel_rfl) (by kernel_rfl) (by kernel_rfl) (fun _ _ _ h => h) (Or.inl ⟨by rfl, ?_⟩) hHeld ?_
              rotate_left
              · (intro w hS; go_simp; try with_reducible rfl)
              try simp only [Act.put, List.setIfInBounds_toArray, List.set_cons_zero, List.set_cons_succ]
              refine wpAnyH_take (i := 6) (oi := ({ dst := some 65, op := Op.indexAddr 27 (Operand.tmp 63) (Operand.tmp 64), type := 0, pos := _, after := #[{ on := 4, ground := Ground.data }, { on := 5, ground := Ground.data }], guard := none } : Oper)) (v := ?_) rfl (by kernel_rfl) (by kernel_rfl) (by kernel_rfl) (fun _ _ _ h => h) (Or.inl ⟨by rfl, ?_⟩) hHeld ?_
              rotate_left
              · (intro w hS; go_simp; try with_reducible rfl)
              try simp only [Act.put, List.setIfInBounds_toArray, List.set_cons_zero, List.set_cons_succ]
              refine wpAnyH_take (i := 7) (oi := ({ dst := some 66, op := Op.load 3 (Operand.tmp 65), type := 3, pos := _, after := #[{ on := 6, ground := Ground.data }], guard := none } : Oper)) (v := ?_) rfl (by kernel_rfl) (by kernel_rfl) (by kernel_rfl) (fun _ _ _ h => h) (Or.inl ⟨by rfl, ?_⟩) hHeld ?_
              rotate_left
              · (intro w hS; go_simp; try with_reducible rfl)
              try simp only [Act.put, List.setIfInBounds_toArray, List.set_cons_zero, List.set_cons_succ]
              refine wpAnyH_take (i := 8) (oi := ({ dst := some 67, op := Op.move (Operand.tmp 9), type := 27, pos := _, after := #[], guard := none } : Oper)) (v := ?_) rfl (by kernel_rfl) (by kernel_rfl) (by kernel_rfl) (fun _ _ _ h => h) (Or.inl ⟨by rfl, ?_⟩) hHeld ?_
              rotate_left
              · (intro w hS; go_simp; try with_reducible rfl)
              try simp only [Act.put, List.setIfInBounds_toArray, List.set_cons_zero, List.set_cons_succ]
              refine wpAnyH_take (i := 9) (oi := ({ dst := some 68, op := Op.move (Operand.tmp 11), type := 3, pos := _, after := #[], guard := none } : Oper)) (v := ?_) rfl (by kernel_rfl) (by kernel_rfl) (by kernel_rfl) (fun _ _ _ h => h) (Or.inl ⟨by rfl, ?_⟩) hHeld ?_
              rotate_left
              · (intro w hS; go_simp; try with_reducible rfl)
              try simp only [Act.put, List.setIfInBounds_toArray, List.set_cons_zero, List.set_cons_succ]
              refine wpAnyH_take (i := 10) (oi := ({ dst := some 69, op := Op.indexAddr 27 (Operand.tmp 67) (Operand.tmp 68), type := 0, pos := _, after := #[{ on := 8, ground := Ground.data }, { on := 9, ground := Ground.data }], guard := none } : Oper)) (v := ?_) rfl (by kernel_rfl) (by kernel_rfl) (by kernel_rfl) (fun _ _ _ h => h) (Or.inl ⟨by rfl, ?_⟩) hHeld ?_
              rotate_left
              · (intro w hS; go_simp; try with_reducible rfl)
              try simp only [Act.put, List.setIfInBounds_toArray, List.set_cons_zero, List.set_cons_succ]
              refine wpAnyH_take (i := 11) (oi := ({ dst := some 70, op := Op.load 3 (Operand.tmp 69), type := 3, pos := _, after := #[{ on := 10, ground := Ground.data }], guard := none } : Oper)) (v := ?_) rfl (by kernel_rfl) (by kernel_rfl) (by kernel_rfl) (fun _ _ _ h => h) (Or.inl ⟨by rfl, ?_⟩) hHeld ?_
              rotate_left
              · (intro w hS; go_simp; try with_reducible rfl)
              try simp only [Act.put, List.setIfInBounds_toArray, List.set_cons_zero, List.set_cons_succ]
              refine wpAnyH_take (i := 12) (oi := ({ dst := some 71, op := Op.binOp BinOp.sub 3 (Operand.tmp 66) (Operand.tmp 70) 3, type := 3, pos := _, after := #[{ on := 7, ground := Ground.data }, { on := 11, ground := Ground.data }], guard := none } : Oper)) (v := ?_) rfl (by kernel_rfl) (by kernel_rfl) (by kernel_rfl) (fun _ _ _ h => h) (Or.inl ⟨by rfl, ?_⟩) hHeld ?_
              rotate_left
              · (intro w hS; go_simp; try with_reducible rfl)
              try simp only [Act.put, List.setIfInBounds_toArray, List.set_cons_zero, List.set_cons_succ]
              rw [wrap_id (x := y - x) (by omega) (by omega)]
              refine wpAnyH_take (i := 13) (oi := ({ dst := some 72, op := Op.move (Operand.tmp 1), type := 22, pos := _, after := #[], guard := none } : Oper)) (v := ?_) rfl (by kernel_rfl) (by kernel_rfl) (by kernel_rfl) (fun _ _ _ h => h) (Or.inl ⟨by rfl, ?_⟩) hHeld ?_
              rotate_left
              · (intro w hS; go_simp; try with_reducible rfl)
              try simp only [Act.put, List.setIfInBounds_toArray, List.set_cons_zero, List.set_cons_succ]
              refine wpAnyH_take (i := 14) (oi := ({ dst := some 73, op := Op.convert 22 3 (Operand.tmp 72), type := 3, pos := _, after := #[{ on := 13, ground := Ground.data }], guard := none } : Oper)) (v := ?_) rfl (by kernel_rfl) (by kernel_rfl) (by kernel_rfl) (fun _ _ _ h => h) (Or.inl ⟨by rfl, ?_⟩) hHeld ?_
              rotate_left
              · (intro w hS; go_simp; try with_reducible rfl)
              try simp only [Act.put, List.setIfInBounds_toArray, List.set_cons_zero, List.set_cons_succ]
              rw [wrap_id (x := early) (by omega) (by omega)]
              refine wpAnyH_take (i := 15) (oi := ({ dst := some 74, op := Op.binOp BinOp.add 3 (Operand.tmp 71) (Operand.tmp 73) 3, type := 3, pos := _, after := #[{ on := 12, ground := Ground.data }, { on := 14, ground := Ground.data }], guard := none } : Oper)) (v := ?_) rfl (by kernel_rfl) (by kernel_rfl) (by kernel_rfl) (fun _ _ _ h => h) (Or.inl ⟨by rfl, ?_⟩) hHeld ?_
              rotate_left
              · (intro w hS; go_simp; try with_reducible rfl)
              try simp only [Act.put, List.setIfInBounds_toArray, List.set_cons_zero, List.set_cons_succ]
              rw [wrap_id (x := y - x + early) (by omega) (by omega)]
              refine wpAnyH_take (i := 16) (oi := ({ dst := some 75, op := Op.move (Operand.tmp 0), type := 22, pos := _, after := #[], guard := none } : Oper)) (v := ?_) rfl (by kernel_rfl) (by kernel_rfl) (by kernel_rfl) (fun _ _ _ h => h) (Or.inl ⟨by rfl, ?_⟩) hHeld ?_
              rotate_left
              · (intro w hS; go_simp; try with_reducible rfl)
              try simp only [Act.put, List.setIfInBounds_toArray, List.set_cons_zero, List.set_cons_succ]
              refine wpAnyH_take (i := 17) (oi := ({ dst := some 76, op := Op.convert 22 3 (Operand.tmp 75), type := 3, pos := _, after := #[{ on := 16, ground := Ground.data }], guard := none } : Oper)) (v := ?_) rfl (by kernel_rfl) (by kernel_rfl) (by kernel_rfl) (fun _ _ _ h => h) (Or.inl ⟨by rfl, ?_⟩) hHeld ?_
              rotate_left
              · (intro w hS; go_simp; try with_reducible rfl)
              try simp only [Act.put, List.setIfInBounds_toArray, List.set_cons_zero, List.set_cons_succ]
              rw [wrap_id (x := step) (by omega) (by omega)]
              refine wpAnyH_take (i := 18) (oi := ({ dst := some 77, op := Op.call { callee := Callee.builtin Builtin.max, args := #[Operand.const (Value.int IntKind.i64 1), Operand.tmp 76], argTypes := #[3, 3] }, type := 3, pos := _, after := #[{ on := 17, ground := Ground.data }], guard := none } : Oper)) (v := ?_) rfl (by kernel_rfl) (by kernel_rfl) (by kernel_rfl) (fun _ _ _ h => h) (Or.inl ⟨by rfl, ?_⟩) hHeld ?_
              rotate_left
              · (intro w hS; go_simp; try with_reducible rfl)
              try simp only [Act.put, List.setIfInBounds_toArray, List.set_cons_zero, List.set_cons_succ]
              rw [HM.out]
              refine wpAnyH_take (i := 19) (oi := ({ dst := some 78, op := Op.binOp BinOp.quo 3 (Operand.tmp 74) (Operand.tmp 77) 3, type := 3, pos := _, after := #[{ on := 15, ground := Ground.data }, { on := 18, ground := Ground.data }], guard := none } : Oper)) (v := ?_) rfl (by kernel_rfl) (by kernel_rfl) (by kernel_rfl) (fun _ _ _ h => h) (Or.inl ⟨by rfl, ?_⟩) hHeld ?_
              rotate_left
              · (intro w hS; go_simp; rw [if_neg (by omega)])
              try simp only [Act.put, List.setIfInBounds_toArray, List.set_cons_zero, List.set_cons_succ]
              rw [HQ.out, wrap_id (x := Q) (by omega) (by omega)]
              refine wpAnyH_take (i := 20) (oi := ({ dst := some 79, op := Op.binOp BinOp.add 3 (Operand.const (Value.int IntKind.i64 1)) (Operand.tmp 78) 3, type := 3, pos := _, after := #[{ on := 19, ground := Ground.data }], guard := none } : Oper)) (v := ?_) rfl (by kernel_rfl) (by kernel_rfl) (by kernel_rfl) (fun _ _ _ h => h) (Or.inl ⟨by rfl, ?_⟩) hHeld ?_
              rotate_left
              · (intro w hS; go_simp; try with_reducible rfl)
              try simp only [Act.put, List.setIfInBounds_toArray, List.set_cons_zero, List.set_cons_succ]
              rw [wrap_id (x := 1 + Q) (by omega) (by omega)]
              refine wpAnyH_take (i := 21) (oi := ({ dst := some 80, op := Op.binOp BinOp.gtr 3 (Operand.tmp 62) (Operand.tmp 79) 3, type := 4, pos := _, after := #[{ on := 3, ground := Ground.data }, { on := 20, ground := Ground.data }], guard := none } : Oper)) (v := ?_) rfl (by kernel_rfl) (by kernel_rfl) (by kernel_rfl) (fun _ _ _ h => h) (Or.inl ⟨by rfl, ?_⟩) hHeld ?_
              rotate_left
              · (intro w hS; go_simp; try with_reducible rfl)
              try simp only [Act.put, List.setIfInBounds_toArray, List.set_cons_zero, List.set_cons_succ]
              refine wpAnyH_done (by kernel_rfl) ?_ _
              rw [HG.out]
              clear g1 g2 HG HQ
              go_wp2
              go_roundw
              case rel => exact ⟨j + 1, by omega, by omega, by go_num, o6, b6.drew⟩
              case measure => simp [intOf]; omega
            · obtain rfl : j = ni := by omega
              clear hij hj hjt
              go_wp2
              go_roundw
              case rel => exact ⟨i + 1, by omega, by go_num, o6, b6⟩
              case measure => simp [intOf]; omega
        · obtain rfl : i = ni := by omega
          clear hi hlt
          rcases Nat.eq_zero_or_pos k with h0 | h0
          · have q2 : ((k : Int) == 0) = true := by simp [h0]
            clear h0 hnk
            go_wp2
            go_ret
            exact ⟨rfl, b5⟩
          · have q2 : ((k : Int) == 0) = false := beq_eq_false_iff_ne.2 (by omega)
            have q3 : decide (0 < i) = true := decide_eq_true (HP.out h0)
            go_wp2
            go_ret
            exact ⟨rfl, b5⟩
end Go.Proofs.Ytkndejpklibkfaa
