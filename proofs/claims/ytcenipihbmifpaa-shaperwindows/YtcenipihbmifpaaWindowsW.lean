/- Proved here: the walk of ShaperWindows. Conditions: as each theorem states them. -/
import Derived.Test.YtcenipihbmifpaaWinS
namespace Go.Proofs.Ytcenipihbmifpaa
set_option linter.unusedSimpArgs false
set_option linter.unusedVariables false
open Go.RowKit Go.Shelf

set_option maxHeartbeats 4000000 in
theorem windows_walk (st e wl q : Int) (s0 : 0 ≤ st) (s1 : st ≤ 65535) (e0 : 0 ≤ e) (e1 : e ≤ 65535) (w0 : 0 ≤ wl) (w1' : wl ≤ 65535) (q0 : 0 ≤ q) (q1 : q ≤ 65535) (a : Option Addr) (len cap : Nat) (zs : List Int) (a2 : Option Addr) (len2 cap2 : Nat) (vs : List Int) (w : World)
    (hL : IsR .u16 w.heap.size w a len zs) (hzb : ∀ z ∈ zs, 0 ≤ z ∧ z ≤ 65535) (hL2 : IsR .u16 w.heap.size w a2 len2 vs) (hvb : ∀ z ∈ vs, 0 ≤ z ∧ z ≤ 65535) :
    Calls Try.prog 5 #[.int .u16 st, .int .u16 e, .int .u16 wl, .int .u16 q, .slice a len cap, .slice a2 len2 cap2] w fun e w' => e = .returned (.bool true) ∧ Below w.heap.size w w' := by
  by_cases hl1 : 200 < len
  · have q1 : decide (200 < (len : Int)) = true := by simp; omega
    clear hL hL2
    go_enter Try.func5, Try.ntmps5
    go_wp2_with fail
    refine (awake_calls _).mono ?_
    rintro e w1 ⟨rfl, b1⟩
    go_wp2_with fail
    refine (awake_calls _).mono ?_
    rintro e w2 ⟨rfl, b2⟩
    go_wp2
    go_ret
    exact ⟨rfl, b1.trans (b2.mono b1.size)⟩
  · have q1 : decide (200 < (len : Int)) = false := by simp; omega
    have Hl : Hid (len = zs.length) := hL.1
    have HZ : Hid (∀ z ∈ zs, 0 ≤ z ∧ z ≤ 65535) := hzb
    have Hl2 : Hid (len2 = vs.length) := hL2.1
    have HV : Hid (∀ z ∈ vs, 0 ≤ z ∧ z ≤ 65535) := hvb
    obtain ⟨n, hn⟩ : ∃ n, (if 1 < st then st else 1) = n := ⟨_, rfl⟩
    have n0 : 1 ≤ n := by rw [← hn]; split <;> omega
    have n1 : n ≤ 65535 := by rw [← hn]; split <;> omega
    have HP : Hid (Pln n e [] (Sh.mk0 st e wl q)) := ⟨hM_id e0 (by omega), (by show n ≤ hS st; rw [← hn]; unfold hS; split <;> omega), (fun y hy => (by cases hy)), win_nil _ _ _⟩
    clear hzb hvb
    go_enter Try.func5, Try.ntmps5
    go_wp2_with fail
    refine (awake_calls _).mono ?_
    rintro x w1 ⟨rfl, b1⟩
    go_wp2_with fail
    refine (snew_calls st e wl q _).mono ?_
    rintro x w2 ⟨rfl, h2, b2⟩
    have z1 := b1.size
    have B2 := b1.trans (b2.mono z1)
    have I2 : WI w.heap.size w2 w1.heap.size none 0 0 [] [] n e := ⟨⟨_, _, h2, (fun k e => (by omega)), (fun y e => (by cases e)), HP.out⟩, ownR_nil _ _ _ _, B2.size⟩
    have hl200 : len ≤ 200 := by omega
    clear b1 b2 h2 z1 q1 hl1
    generalize w1.heap.size = r at *
    go_wp2
    clear hn
    go_loopw [14, 15, 16, 42] (fun sv tv av iv wr => ∃ (i : Nat) (t sh : Int) (a' : Option Addr) (n' c' : Nat) (L : List Int), i ≤ len ∧ sv = .int .i64 sh ∧ tv = .int .i64 t ∧ av = .slice a' n' c' ∧ iv = .int .i64 i ∧ 0 ≤ t ∧ t ≤ i * 65535 ∧ 1 ≤ sh ∧ sh ≤ 65535 ∧ n' ≤ i ∧ (∀ x ∈ L, 0 ≤ x ∧ x ≤ 13107000) ∧ WI w.heap.size wr r a' n' c' L L sh e ∧ Below w.heap.size w wr) (fun _ _ _ iv _ => len - (intOf iv).toNat)
    case atStart => exact ⟨0, 0, n, none, 0, 0, [], Nat.zero_le _, rfl, rfl, rfl, rfl, Int.le_refl _, by decide, n0, n1, Nat.le_refl _, by simp, I2, B2⟩
    case round =>
      obtain ⟨i, t, sh, a', n', c', L, hi, rfl, rfl, rfl, rfl, t0, t1, h0, h1, hn', hLb, I5, B5⟩ := hrel
      have HLb : Hid (∀ x ∈ L, 0 ≤ x ∧ x ≤ 13107000) := hLb
      clear I2 B2 hLb
      by_cases hlt : i < len
      · obtain ⟨x, hx⟩ : ∃ x, zs[i]? = some x := ⟨_, List.getElem?_eq_getElem (by have := Hl.out; omega)⟩
        have ⟨x0, x1⟩ := HZ.out x (List.mem_of_getElem? hx)
        obtain ⟨g, off, rfl, hg, hcx⟩ := hL.cell hx
        have c5 := (B5.cell (p := ⟨g, off + i, none⟩) hg).trans (hcx i x hx)
        obtain ⟨u, hu⟩ : ∃ u, t + x = u := ⟨_, rfl⟩
        have u0 : 0 ≤ u := by omega
        have u1 : u ≤ ((i + 1 : Nat) : Int) * 65535 := by omega
        have u2 : u ≤ 13107000 := by omega
        clear hx hcx t0
        by_cases hi2 : i < len2
        · obtain ⟨v, hv⟩ : ∃ v, vs[i]? = some v := ⟨_, List.getElem?_eq_getElem (by have := Hl2.out; omega)⟩
          have ⟨v0, v1⟩ := HV.out v (List.mem_of_getElem? hv)
          obtain ⟨g2, off2, rfl, hg2, hcv⟩ := hL2.cell hv
          have d5 := (B5.cell (p := ⟨g2, off2 + i, none⟩) hg2).trans (hcv i v hv)
          have dK := fun w' (b : Below w.heap.size w w') => (b.cell (p := ⟨g2, off2 + i, none⟩) hg2).trans (hcv i v hv)
          have hdd : decide ((i : Int) < (len2 : Int)) = true := decide_eq_true (by omega)
          clear hv hcv
          by_cases hvz : v = 0
          · have hd : decide (0 < v) = false := decide_eq_false (by omega)
            clear hvz
            go_wp2_with fail
            refine (I5.take e0 u u0 (by omega)).mono ?_
            rintro y w8 ⟨b8, ⟨rfl, I8⟩ | ⟨rfl, I8⟩⟩
            · have B8 := B5.trans b8
              obtain ⟨g9, c9, w9, hap, I9, b9⟩ := I8.app (by omega) u
              have B9 := B8.trans b9
              clear I5 B5 I8 B8 b8 b9
              go_wp2_with (at_builtin; refine wpList_app hap _ _ rfl rfl rfl rfl rfl ?_)
              go_roundw
              case rel => exact ⟨i + 1, u, sh, some ⟨g9, 0, none⟩, n' + 1, c9, L ++ [u], by omega, rfl, rfl, rfl, by go_num, u0, u1, by omega, by omega, by omega, fun x hx => by rcases List.mem_append.1 hx with hx | hx; exact HLb.out x hx; rw [List.mem_singleton.1 hx]; omega, I9, B9⟩
              case measure => simp [intOf]; omega
            · have B8 := B5.trans b8
              clear I5 B5 b8
              go_wp2
              go_roundw
              case rel => exact ⟨i + 1, u, sh, a', n', c', L, by omega, rfl, rfl, rfl, by go_num, u0, u1, by omega, by omega, by omega, HLb.out, I8, B8⟩
              case measure => simp [intOf]; omega
          · have hd : decide (0 < v) = true := decide_eq_true (by omega)
            have v0' : 1 ≤ v := by omega
            clear hvz
            go_wp2_with fail
            refine (I5.set u v u0 (by omega) v0' (by omega)).mono ?_
            rintro y w6 ⟨b6, ⟨rfl, I6⟩ | ⟨rfl, I6⟩⟩
            · have B6 := B5.trans b6
              have d6 := dK _ B6
              obtain ⟨m, hm⟩ : ∃ m, min sh v = m := ⟨_, rfl⟩
              rw [hm] at I6
              have m0 : 1 ≤ m := by omega
              have m1 : m ≤ 65535 := by omega
              have hm1 : (if sh < v then sh else v) = m := by split <;> omega
              have hm2 : (if v < sh then v else sh) = m := by split <;> omega
              clear I5 B5 b6 c5 d5 hm
              go_wp2_with fail
              refine (I6.take e0 u u0 (by omega)).mono ?_
              rintro y w8 ⟨b8, ⟨rfl, I8⟩ | ⟨rfl, I8⟩⟩
              · have B8 := B6.trans b8
                obtain ⟨g9, c9, w9, hap, I9, b9⟩ := I8.app (by omega) u
                have B9 := B8.trans b9
                clear I6 B6 I8 B8 b8 b9
                go_wp2_with (at_builtin; refine wpList_app hap _ _ rfl rfl rfl rfl rfl ?_)
                go_roundw
                case rel => exact ⟨i + 1, u, m, some ⟨g9, 0, none⟩, n' + 1, c9, L ++ [u], by omega, rfl, rfl, rfl, by go_num, u0, u1, by omega, by omega, by omega, fun x hx => by rcases List.mem_append.1 hx with hx | hx; exact HLb.out x hx; rw [List.mem_singleton.1 hx]; omega, I9, B9⟩
                case measure => simp [intOf]; omega
              · have B8 := B6.trans b8
                clear I6 B6 b8
                go_wp2
                go_roundw
                case rel => exact ⟨i + 1, u, m, a', n', c', L, by omega, rfl, rfl, rfl, by go_num, u0, u1, by omega, by omega, by omega, HLb.out, I8, B8⟩
                case measure => simp [intOf]; omega
            · have B6 := B5.trans b6
              clear I5 B5 b6 c5 d5
              go_wp2_with fail
              refine (I6.take e0 u u0 (by omega)).mono ?_
              rintro y w8 ⟨b8, ⟨rfl, I8⟩ | ⟨rfl, I8⟩⟩
              · have B8 := B6.trans b8
                obtain ⟨g9, c9, w9, hap, I9, b9⟩ := I8.app (by omega) u
                have B9 := B8.trans b9
                clear I6 B6 I8 B8 b8 b9
                go_wp2_with (at_builtin; refine wpList_app hap _ _ rfl rfl rfl rfl rfl ?_)
                go_roundw
                case rel => exact ⟨i + 1, u, sh, some ⟨g9, 0, none⟩, n' + 1, c9, L ++ [u], by omega, rfl, rfl, rfl, by go_num, u0, u1, by omega, by omega, by omega, fun x hx => by rcases List.mem_append.1 hx with hx | hx; exact HLb.out x hx; rw [List.mem_singleton.1 hx]; omega, I9, B9⟩
                case measure => simp [intOf]; omega
              · have B8 := B6.trans b8
                clear I6 B6 b8
                go_wp2
                go_roundw
                case rel => exact ⟨i + 1, u, sh, a', n', c', L, by omega, rfl, rfl, rfl, by go_num, u0, u1, by omega, by omega, by omega, HLb.out, I8, B8⟩
                case measure => simp [intOf]; omega
        · have hdd : decide ((i : Int) < (len2 : Int)) = false := decide_eq_false (by omega)
          go_wp2_with fail
          refine (I5.take e0 u u0 (by omega)).mono ?_
          rintro y w8 ⟨b8, ⟨rfl, I8⟩ | ⟨rfl, I8⟩⟩
          · have B8 := B5.trans b8
            obtain ⟨g9, c9, w9, hap, I9, b9⟩ := I8.app (by omega) u
            have B9 := B8.trans b9
            clear I5 B5 I8 B8 b8 b9
            go_wp2_with (at_builtin; refine wpList_app hap _ _ rfl rfl rfl rfl rfl ?_)
            go_roundw
            case rel => exact ⟨i + 1, u, sh, some ⟨g9, 0, none⟩, n' + 1, c9, L ++ [u], by omega, rfl, rfl, rfl, by go_num, u0, u1, by omega, by omega, by omega, fun x hx => by rcases List.mem_append.1 hx with hx | hx; exact HLb.out x hx; rw [List.mem_singleton.1 hx]; omega, I9, B9⟩
            case measure => simp [intOf]; omega
          · have B8 := B5.trans b8
            clear I5 B5 b8
            go_wp2
            go_roundw
            case rel => exact ⟨i + 1, u, sh, a', n', c', L, by omega, rfl, rfl, rfl, by go_num, u0, u1, by omega, by omega, by omega, HLb.out, I8, B8⟩
            case measure => simp [intOf]; omega
      · obtain rfl : i = len := by omega
        obtain ⟨⟨F, S, _, _, _, hP⟩, own, _⟩ := I5
        have HW : Hid (Win sh e S.T L) := hP.win
        have OLH : Hid (n' = L.length) := own.1
        clear hP hi hlt t0 t1
        go_wp2
        go_loopw [89] (fun iv wr' => ∃ (i : Nat), i ≤ n' ∧ iv = .int .i64 i ∧ OwnR 3 .i64 w.heap.size wr' a' n' c' L ∧ Below w.heap.size w wr') (fun iv _ => n' - (intOf iv).toNat)
        case atStart => exact ⟨0, Nat.zero_le _, rfl, own, B5⟩
        case round =>
          obtain ⟨i, hi, rfl, o5, b5⟩ := hrel
          clear own B5
          by_cases hlt : i < n'
          · clear hi
            go_wp2
            go_loopw [19] (fun jv wr' => ∃ (j : Nat), i ≤ j ∧ j ≤ n' ∧ jv = .int .i64 j ∧ OwnR 3 .i64 w.heap.size wr' a' n' c' L ∧ Below w.heap.size w wr') (fun jv _ => n' - (intOf jv).toNat)
            case atStart => exact ⟨i, Nat.le_refl _, Nat.le_of_lt hlt, rfl, o5, b5⟩
            case round =>
              obtain ⟨j, hij, hj, rfl, o6, b6⟩ := hrel
              clear o5 b5
              by_cases hjt : j < n'
              · obtain ⟨x, hx⟩ : ∃ x, L[i]? = some x := ⟨_, List.getElem?_eq_getElem (by have := OLH.out; omega)⟩
                obtain ⟨y, hy⟩ : ∃ y, L[j]? = some y := ⟨_, List.getElem?_eq_getElem (by have := OLH.out; omega)⟩
                have ⟨x0, x1⟩ := HLb.out x (List.mem_of_getElem? hx)
                have ⟨y0, y1⟩ := HLb.out y (List.mem_of_getElem? hy)
                have ⟨g0, g1, g2⟩ := HW.out.quo h0 hij hx hy
                obtain ⟨Q, hQ⟩ : ∃ Q, (y - x + e).tdiv sh = Q := ⟨_, rfl⟩
                rw [hQ] at g1 g2
                have HQ : Hid ((y - x + e).tdiv sh = Q) := hQ
                have HG : Hid (decide (Q < (j : Int) - (i : Int)) = false) := decide_eq_false (by omega)
                obtain ⟨g, cur, rfl, hg, hgl, _⟩ := o6.block (by omega)
                have c1 := o6.get hx
                have c2 := o6.get hy
                clear hx hy hQ
                go_wp2
                refine wp_region_held_drew (S := (fun w' => w'.cell? ⟨g, j, none⟩ = some (.int .i64 y) ∧ w'.cell? ⟨g, i, none⟩ = some (.int .i64 x))) (by kernel_rfl) ⟨c2, c1⟩ (fun hHeld => ?_)
                refine wpAnyH_take (i := 0) (oi := ({ dst := some 99, op := Op.move (Operand.tmp 19), type := 3, pos := _, after := #[], guard := none } : Oper)) (v := ?_) rfl (by kernel_rfl) (by kernel_rfl) (by kernel_rfl) (fun _ _ _ h => h) (Or.inl ⟨by rfl, ?_⟩) hHeld ?_
                rotate_left
                · (intro w hS; go_simp; try with_reducible rfl)
                try simp only [Act.put, List.setIfInBounds_toArray, List.set_cons_zero, List.set_cons_succ]
                refine wpAnyH_take (i := 1) (oi := ({ dst := some 100, op := Op.move (Operand.tmp 18), type := 3, pos := _, after := #[], guard := none } : Oper)) (v := ?_) rfl (by kernel_rfl) (by kernel_rfl) (by kernel_rfl) (fun _ _ _ h => h) (Or.inl ⟨by rfl, ?_⟩) hHeld ?_
                rotate_left
                · (intro w hS; go_simp; try with_reducible rfl)
                try simp only [Act.put, List.setIfInBounds_toArray, List.set_cons_zero, List.set_cons_succ]
                refine wpAnyH_take (i := 2) (oi := ({ dst := some 101, op := Op.binOp BinOp.sub 3 (Operand.tmp 99) (Operand.tmp 100) 3, type := 3, pos := _, after := #[{ on := 0, ground := Ground.data }, { on := 1, ground := Ground.data }], guard := none } : Oper)) (v := ?_) rfl (by kernel_rfl) (by kernel_rfl) (by kernel_rfl) (fun _ _ _ h => h) (Or.inl ⟨by rfl, ?_⟩) hHeld ?_
                rotate_left
                · (intro w hS; go_simp; try with_reducible rfl)
                try simp only [Act.put, List.setIfInBounds_toArray, List.set_cons_zero, List.set_cons_succ]
                rw [swrap_id (x := (j : Int) - (i : Int)) (by omega) (by omega)]
                refine wpAnyH_take (i := 3) (oi := ({ dst := some 102, op := Op.move (Operand.tmp 16), type := 44, pos := _, after := #[], guard := none } : Oper)) (v := ?_) rfl (by kernel_rfl) (by kernel_rfl) (by kernel_rfl) (fun _ _ _ h => h) (Or.inl ⟨by rfl, ?_⟩) hHeld ?_
                rotate_left
                · (intro w hS; go_simp; try with_reducible rfl)
                try simp only [Act.put, List.setIfInBounds_toArray, List.set_cons_zero, List.set_cons_succ]
                refine wpAnyH_take (i := 4) (oi := ({ dst := some 103, op := Op.move (Operand.tmp 19), type := 3, pos := _, after := #[], guard := none } : Oper)) (v := ?_) rfl (by kernel_rfl) (by kernel_rfl) (by kernel_rfl) (fun _ _ _ h => h) (Or.inl ⟨by rfl, ?_⟩) hHeld ?_
                rotate_left
                · (intro w hS; go_simp; try with_reducible rfl)
                try simp only [Act.put, List.setIfInBounds_toArray, List.set_cons_zero, List.set_cons_succ]
                refine wpAnyH_take (i := 5) (oi := ({ dst := some 104, op := Op.indexAddr 44 (Operand.tmp 102) (Operand.tmp 103), type := 0, pos := _, after := #[{ on := 3, ground := Ground.data }, { on := 4, ground := Ground.data }], guard := none } : Oper)) (v := ?_) rfl (by kernel_rfl) (by kernel_rfl) (by kernel_rfl) (fun _ _ _ h => h) (Or.inl ⟨by rfl, ?_⟩) hHeld ?_
                rotate_left
                · (intro w hS; go_simp; try with_reducible rfl)
                try simp only [Act.put, List.setIfInBounds_toArray, List.set_cons_zero, List.set_cons_succ]
                refine wpAnyH_take (i := 6) (oi := ({ dst := some 105, op := Op.load 3 (Operand.tmp 104), type := 3, pos := _, after := #[{ on := 5, ground := Ground.data }], guard := none } : Oper)) (v := ?_) rfl (by kernel_rfl) (by kernel_rfl) (by kernel_rfl) (fun _ _ _ h => h) (Or.inl ⟨by rfl, ?_⟩) hHeld ?_
                rotate_left
                · (intro w hS; go_simp; try with_reducible rfl)
                try simp only [Act.put, List.setIfInBounds_toArray, List.set_cons_zero, List.set_cons_succ]
                refine wpAnyH_take (i := 7) (oi := ({ dst := some 106, op := Op.move (Operand.tmp 16), type := 44, pos := _, after := #[], guard := none } : Oper)) (v := ?_) rfl (by kernel_rfl) (by kernel_rfl) (by kernel_rfl) (fun _ _ _ h => h) (Or.inl ⟨by rfl, ?_⟩) hHeld ?_
                rotate_left
                · (intro w hS; go_simp; try with_reducible rfl)
                try simp only [Act.put, List.setIfInBounds_toArray, List.set_cons_zero, List.set_cons_succ]
                refine wpAnyH_take (i := 8) (oi := ({ dst := some 107, op := Op.move (Operand.tmp 18), type := 3, pos := _, after := #[], guard := none } : Oper)) (v := ?_) rfl (by kernel_rfl) (by kernel_rfl) (by kernel_rfl) (fun _ _ _ h => h) (Or.inl ⟨by rfl, ?_⟩) hHeld ?_
                rotate_left
                · (intro w hS; go_simp; try with_reducible rfl)
                try simp only [Act.put, List.setIfInBounds_toArray, List.set_cons_zero, List.set_cons_succ]
                refine wpAnyH_take (i := 9) (oi := ({ dst := some 108, op := Op.indexAddr 44 (Operand.tmp 106) (Operand.tmp 107), type := 0, pos := _, after := #[{ on := 7, ground := Ground.data }, { on := 8, ground := Ground.data }], guard := none } : Oper)) (v := ?_) rfl (by kernel_rfl) (by kernel_rfl) (by kernel_rfl) (fun _ _ _ h => h) (Or.inl ⟨by rfl, ?_⟩) hHeld ?_
                rotate_left
                · (intro w hS; go_simp; try with_reducible rfl)
                try simp only [Act.put, List.setIfInBounds_toArray, List.set_cons_zero, List.set_cons_succ]
                refine wpAnyH_take (i := 10) (oi := ({ dst := some 109, op := Op.load 3 (Operand.tmp 108), type := 3, pos := _, after := #[{ on := 9, ground := Ground.data }], guard := none } : Oper)) (v := ?_) rfl (by kernel_rfl) (by kernel_rfl) (by kernel_rfl) (fun _ _ _ h => h) (Or.inl ⟨by rfl, ?_⟩) hHeld ?_
                rotate_left
                · (intro w hS; go_simp; try with_reducible rfl)
                try simp only [Act.put, List.setIfInBounds_toArray, List.set_cons_zero, List.set_cons_succ]
                refine wpAnyH_take (i := 11) (oi := ({ dst := some 110, op := Op.binOp BinOp.sub 3 (Operand.tmp 105) (Operand.tmp 109) 3, type := 3, pos := _, after := #[{ on := 6, ground := Ground.data }, { on := 10, ground := Ground.data }], guard := none } : Oper)) (v := ?_) rfl (by kernel_rfl) (by kernel_rfl) (by kernel_rfl) (fun _ _ _ h => h) (Or.inl ⟨by rfl, ?_⟩) hHeld ?_
                rotate_left
                · (intro w hS; go_simp; try with_reducible rfl)
                try simp only [Act.put, List.setIfInBounds_toArray, List.set_cons_zero, List.set_cons_succ]
                rw [swrap_id (x := y - x) (by omega) (by omega)]
                refine wpAnyH_take (i := 12) (oi := ({ dst := some 111, op := Op.move (Operand.tmp 1), type := 48, pos := _, after := #[], guard := none } : Oper)) (v := ?_) rfl (by kernel_rfl) (by kernel_rfl) (by kernel_rfl) (fun _ _ _ h => h) (Or.inl ⟨by rfl, ?_⟩) hHeld ?_
                rotate_left
                · (intro w hS; go_simp; try with_reducible rfl)
                try simp only [Act.put, List.setIfInBounds_toArray, List.set_cons_zero, List.set_cons_succ]
                refine wpAnyH_take (i := 13) (oi := ({ dst := some 112, op := Op.convert 48 3 (Operand.tmp 111), type := 3, pos := _, after := #[{ on := 12, ground := Ground.data }], guard := none } : Oper)) (v := ?_) rfl (by kernel_rfl) (by kernel_rfl) (by kernel_rfl) (fun _ _ _ h => h) (Or.inl ⟨by rfl, ?_⟩) hHeld ?_
                rotate_left
                · (intro w hS; go_simp; try with_reducible rfl)
                try simp only [Act.put, List.setIfInBounds_toArray, List.set_cons_zero, List.set_cons_succ]
                rw [swrap_id (x := e) (by omega) (by omega)]
                refine wpAnyH_take (i := 14) (oi := ({ dst := some 113, op := Op.binOp BinOp.add 3 (Operand.tmp 110) (Operand.tmp 112) 3, type := 3, pos := _, after := #[{ on := 11, ground := Ground.data }, { on := 13, ground := Ground.data }], guard := none } : Oper)) (v := ?_) rfl (by kernel_rfl) (by kernel_rfl) (by kernel_rfl) (fun _ _ _ h => h) (Or.inl ⟨by rfl, ?_⟩) hHeld ?_
                rotate_left
                · (intro w hS; go_simp; try with_reducible rfl)
                try simp only [Act.put, List.setIfInBounds_toArray, List.set_cons_zero, List.set_cons_succ]
                rw [swrap_id (x := y - x + e) (by omega) (by omega)]
                refine wpAnyH_take (i := 15) (oi := ({ dst := some 114, op := Op.move (Operand.tmp 14), type := 3, pos := _, after := #[], guard := none } : Oper)) (v := ?_) rfl (by kernel_rfl) (by kernel_rfl) (by kernel_rfl) (fun _ _ _ h => h) (Or.inl ⟨by rfl, ?_⟩) hHeld ?_
                rotate_left
                · (intro w hS; go_simp; try with_reducible rfl)
                try simp only [Act.put, List.setIfInBounds_toArray, List.set_cons_zero, List.set_cons_succ]
                refine wpAnyH_take (i := 16) (oi := ({ dst := some 115, op := Op.binOp BinOp.quo 3 (Operand.tmp 113) (Operand.tmp 114) 3, type := 3, pos := _, after := #[{ on := 14, ground := Ground.data }, { on := 15, ground := Ground.data }], guard := none } : Oper)) (v := ?_) rfl (by kernel_rfl) (by kernel_rfl) (by kernel_rfl) (fun _ _ _ h => h) (Or.inl ⟨by rfl, ?_⟩) hHeld ?_
                rotate_left
                · (intro w hS; go_simp; rw [if_neg (by omega)])
                try simp only [Act.put, List.setIfInBounds_toArray, List.set_cons_zero, List.set_cons_succ]
                rw [HQ.out, swrap_id (x := Q) (by omega) (by omega)]
                refine wpAnyH_take (i := 17) (oi := ({ dst := some 116, op := Op.binOp BinOp.gtr 3 (Operand.tmp 101) (Operand.tmp 115) 3, type := 4, pos := _, after := #[{ on := 2, ground := Ground.data }, { on := 16, ground := Ground.data }], guard := none } : Oper)) (v := ?_) rfl (by kernel_rfl) (by kernel_rfl) (by kernel_rfl) (fun _ _ _ h => h) (Or.inl ⟨by rfl, ?_⟩) hHeld ?_
                rotate_left
                · (intro w hS; go_simp; try with_reducible rfl)
                try simp only [Act.put, List.setIfInBounds_toArray, List.set_cons_zero, List.set_cons_succ]
                refine wpAnyH_done (by kernel_rfl) ?_ _
                rw [HG.out]
                clear g1 g2 HG HQ
                go_wp2
                go_roundw
                case rel => exact ⟨j + 1, by omega, by omega, by go_num, o6, b6.drew⟩
                case measure => simp [intOf]; omega
              · obtain rfl : j = n' := by omega
                clear hij hj hjt
                go_wp2
                go_roundw
                case rel => exact ⟨i + 1, by omega, by go_num, o6, b6⟩
                case measure => simp [intOf]; omega
          · obtain rfl : i = n' := by omega
            go_wp2
            go_ret
            exact ⟨rfl, b5⟩
end Go.Proofs.Ytcenipihbmifpaa
