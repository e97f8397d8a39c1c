/- Proved here: what the document's Pack answers of elements. Conditions: as each theorem states them. -/
import Derived.Test.YtbjeljmnknibnaaDoorPk
namespace Go.Proofs.YtbjeljmnknibnaaDoor
set_option linter.unusedSimpArgs false
set_option linter.unusedVariables false
set_option maxRecDepth 20000
open Go.RowKit Go.Shelf

theorem be2_small {l : Nat} (h : l ≤ 255) : beN 2 l = [0, UInt8.ofNat l] := by
  show [UInt8.ofNat (l / 256 ^ 1), UInt8.ofNat (l / 256 ^ 0)] = _
  rw [show l / 256 ^ 1 = 0 by omega, show l / 256 ^ 0 = l by omega]
  rfl
theorem wrap_byte {l : Nat} (h : l ≤ 255) : IntKind.u8.wrap (l : Int) = ((UInt8.ofNat l).toNat : Int) := by
  rw [byteN, IntKind.wrap_u8]; omega

set_option maxHeartbeats 4000000 in
theorem refpack_calls (a : Option Addr) (n c : Nat) (L : List El) (w : World) {m0 : Nat} (hv : IsI m0 w a n L) (hm0 : m0 ≤ w.heap.size) (hn : n ≤ 1000) :
    Calls Tryd.prog 30 #[.slice a n c] w fun e w' => Below w.heap.size w w' ∧ ((okL L = true ∧ ∃ a' c', e = .returned (.tuple #[.slice a' (bytesE L).length c', .int .i64 0]) ∧ OwnB w.heap.size w' a' (bytesE L).length c' (bytesE L)) ∨
      (okL L = false ∧ e = .returned (.tuple #[.slice none 0 0, .int .i64 6]))) := by
  have HnL : Hid (n = L.length) := hv.1
  by_cases h16 : 16 < n
  · have q1 : decide (16 < (n : Int)) = true := by simp; omega
    have HE : Hid (okL L = false) := by
      show _ = false
      cases h : okL L
      · rfl
      · have := (okL_iff.1 h).1; have := HnL.out; omega
    clear h16 hv
    go_enter Tryd.func30, Tryd.ntmps30
    go_wp2
    go_ret2
    exact ⟨Below.refl _ _, .inr ⟨HE.out, rfl⟩⟩
  · have q1 : decide (16 < (n : Int)) = false := by simp; omega
    have hn16 : n ≤ 16 := Nat.not_lt.1 h16
    clear h16
    go_enter Tryd.func30, Tryd.ntmps30
    go_wp2
    go_loopw [4, 12] (fun s i wr => ∃ (k : Nat) (a' : Option Addr) (l' c' : Nat), k ≤ n ∧ i = .int .i64 k ∧ s = .slice a' l' c' ∧ OwnB w.heap.size wr a' l' c' (bytesE (L.take k)) ∧ Below w.heap.size w wr ∧ ∀ x ∈ L.take k, x.body.length ≤ 200) (fun _ i _ => n - (intOf i).toNat)
    case atStart => exact ⟨0, none, 0, 0, by omega, rfl, rfl, by simpa [bytesE_nil] using ownB_nil _ _, Below.refl _ _, by simp⟩
    case round =>
      obtain ⟨k, a1, l1, c1, hk, rfl, rfl, o1, bel, h200⟩ := hrel
      by_cases hlt : k < n
      · obtain ⟨b, off, x, ai, li, ci, rfl, hbm, hx, hli, hn0, hlc, F⟩ := hv.atF hlt
        obtain ⟨_, f1, f2⟩ := F wr (bel.mono hm0)
        have HX : Hid (L[k]? = some x) := hx
        have Hli : Hid (li = x.body.length) := hli
        by_cases hlong : 200 < li
        · have q2 : decide (200 < (li : Int)) = true := by simp; omega
          have HE : Hid (okL L = false) := by
            show _ = false
            cases h : okL L
            · rfl
            · have := (okL_iff.1 h).2 x (List.mem_of_getElem? hx); omega
          clear hx hli hlong F h200 o1 hv HX
          go_wp2
          go_ret2
          exact ⟨bel, .inr ⟨HE.out, rfl⟩⟩
        · have q2 : decide (200 < (li : Int)) = false := by simp; omega
          have hl200 : li ≤ 200 := Nat.not_lt.1 hlong
          have H200 : Hid (∀ y ∈ L.take (k + 1), y.body.length ≤ 200) := by
            show ∀ y ∈ L.take (k + 1), y.body.length ≤ 200
            rw [take_snocE hx]
            intro y hy
            rcases List.mem_append.1 hy with h | h
            · exact h200 y h
            · obtain rfl := List.mem_singleton.1 h
              omega
          have hl1 : l1 ≤ 5000 := by
            have h1 := o1.1
            have h2 := bytesE_length_le (L.take k) (fun y hy => by have := h200 y hy; omega)
            have h3 : (L.take k).length ≤ k := by rw [List.length_take]; omega
            omega
          have hw := wrap_byte (l := li) (by omega)
          have HG : Hid (bytesE (L.take (k + 1)) = (bytesE (L.take k) ++ [x.id, 128, 0, UInt8.ofNat li]) ++ x.body) := by
            show _ = _
            rw [take_snocE hx, bytesE_snoc]
            simp [layE, ← hli, be2_small (show li ≤ 255 by omega)]
          have HF : Hid (∀ w', Below w.heap.size w w' → IsB m0 w' ai li x.body ∧ w'.cell? ⟨b, off + k * 2, none⟩ = some (.int .u8 (x.id.toNat : Int)) ∧ w'.cell? ⟨b, off + k * 2 + 1, none⟩ = some (.slice ai li ci)) := fun w' h => F w' (h.mono hm0)
          generalize bytesE (L.take k) = T at *
          generalize UInt8.ofNat li = y at *
          clear hx hli hlong F h200 HX hv
          go_wp2
          refine wp_region_held_drew (S := (fun w' => Below w.heap.size w w')) (by kernel_rfl) bel.drew (fun hHeld => ?_)
          refine wpAnyH_take (i := 0) (oi := ({ dst := some 23, op := Op.move (Operand.tmp 4), type := 25, pos := _, after := #[], guard := none } : Oper)) (v := ?_) rfl (by kernel_rfl) (by kernel_rfl) (by kernel_rfl) (fun _ _ _ h => h) (Or.inl ⟨by rfl, ?_⟩) hHeld ?_
          rotate_left
          · (intro w hS; go_simp; try with_reducible rfl)
          try simp only [Act.put, List.setIfInBounds_toArray, List.set_cons_zero, List.set_cons_succ]
          refine wpAnyH_take (i := 1) (oi := ({ dst := some 24, op := Op.move (Operand.tmp 0), type := 22, pos := _, after := #[], guard := none } : Oper)) (v := ?_) rfl (by kernel_rfl) (by kernel_rfl) (by kernel_rfl) (fun _ _ _ h => h) (Or.inl ⟨by rfl, ?_⟩) hHeld ?_
          rotate_left
          · (intro w hS; go_simp; try with_reducible rfl)
          try simp only [Act.put, List.setIfInBounds_toArray, List.set_cons_zero, List.set_cons_succ]
          refine wpAnyH_take (i := 2) (oi := ({ dst := some 25, op := Op.move (Operand.tmp 5), type := 3, pos := _, after := #[], guard := none } : Oper)) (v := ?_) rfl (by kernel_rfl) (by kernel_rfl) (by kernel_rfl) (fun _ _ _ h => h) (Or.inl ⟨by rfl, ?_⟩) hHeld ?_
          rotate_left
          · (intro w hS; go_simp; try with_reducible rfl)
          try simp only [Act.put, List.setIfInBounds_toArray, List.set_cons_zero, List.set_cons_succ]
          refine wpAnyH_take (i := 3) (oi := ({ dst := some 26, op := Op.indexAddr 22 (Operand.tmp 24) (Operand.tmp 25), type := 0, pos := _, after := #[{ on := 1, ground := Ground.data }, { on := 2, ground := Ground.data }], guard := none } : Oper)) (v := ?_) rfl (by kernel_rfl) (by kernel_rfl) (by kernel_rfl) (fun _ _ _ h => h) (Or.inl ⟨by rfl, ?_⟩) hHeld ?_
          rotate_left
          · (intro w hS; go_simp; try with_reducible rfl)
          try simp only [Act.put, List.setIfInBounds_toArray, List.set_cons_zero, List.set_cons_succ]
          refine wpAnyH_take (i := 4) (oi := ({ dst := some 27, op := Op.fieldAddr 60 (Operand.tmp 26) 0, type := 0, pos := _, after := #[{ on := 3, ground := Ground.data }], guard := none } : Oper)) (v := ?_) rfl (by kernel_rfl) (by kernel_rfl) (by kernel_rfl) (fun _ _ _ h => h) (Or.inl ⟨by rfl, ?_⟩) hHeld ?_
          rotate_left
          · (intro w hS; go_simp; try with_reducible rfl)
          try simp only [Act.put, List.setIfInBounds_toArray, List.set_cons_zero, List.set_cons_succ]
          refine wpAnyH_take (i := 5) (oi := ({ dst := some 28, op := Op.load 5 (Operand.tmp 27), type := 5, pos := _, after := #[{ on := 4, ground := Ground.data }], guard := none } : Oper)) (v := ?_) rfl (by kernel_rfl) (by kernel_rfl) (by kernel_rfl) (fun _ _ _ h => h) (Or.inl ⟨by rfl, ?_⟩) hHeld ?_
          rotate_left
          · (intro w hS; obtain ⟨_, d1, d2⟩ := HF.out w hS; go_simp; try with_reducible rfl)
          try simp only [Act.put, List.setIfInBounds_toArray, List.set_cons_zero, List.set_cons_succ]
          refine wpAnyH_take (i := 6) (oi := ({ dst := some 29, op := Op.move (Operand.tmp 6), type := 3, pos := _, after := #[], guard := none } : Oper)) (v := ?_) rfl (by kernel_rfl) (by kernel_rfl) (by kernel_rfl) (fun _ _ _ h => h) (Or.inl ⟨by rfl, ?_⟩) hHeld ?_
          rotate_left
          · (intro w hS; go_simp; try with_reducible rfl)
          try simp only [Act.put, List.setIfInBounds_toArray, List.set_cons_zero, List.set_cons_succ]
          refine wpAnyH_take (i := 7) (oi := ({ dst := some 30, op := Op.convert 3 5 (Operand.tmp 29), type := 5, pos := _, after := #[{ on := 6, ground := Ground.data }], guard := none } : Oper)) (v := ?_) rfl (by kernel_rfl) (by kernel_rfl) (by kernel_rfl) (fun _ _ _ h => h) (Or.inl ⟨by rfl, ?_⟩) hHeld ?_
          rotate_left
          · (intro w hS; go_simp; try with_reducible rfl)
          try simp only [Act.put, List.setIfInBounds_toArray, List.set_cons_zero, List.set_cons_succ]
          refine wpAnyH_take (i := 10) (oi := ({ dst := some 33, op := Op.move (Operand.tmp 0), type := 22, pos := _, after := #[], guard := none } : Oper)) (v := ?_) rfl (by kernel_rfl) (by kernel_rfl) (by kernel_rfl) (fun _ _ _ h => h) (Or.inl ⟨by rfl, ?_⟩) hHeld ?_
          rotate_left
          · (intro w hS; go_simp; try with_reducible rfl)
          try simp only [Act.put, List.setIfInBounds_toArray, List.set_cons_zero, List.set_cons_succ]
          refine wpAnyH_take (i := 11) (oi := ({ dst := some 34, op := Op.move (Operand.tmp 5), type := 3, pos := _, after := #[], guard := none } : Oper)) (v := ?_) rfl (by kernel_rfl) (by kernel_rfl) (by kernel_rfl) (fun _ _ _ h => h) (Or.inl ⟨by rfl, ?_⟩) hHeld ?_
          rotate_left
          · (intro w hS; go_simp; try with_reducible rfl)
          try simp only [Act.put, List.setIfInBounds_toArray, List.set_cons_zero, List.set_cons_succ]
          refine wpAnyH_take (i := 12) (oi := ({ dst := some 35, op := Op.indexAddr 22 (Operand.tmp 33) (Operand.tmp 34), type := 0, pos := _, after := #[{ on := 10, ground := Ground.data }, { on := 11, ground := Ground.data }], guard := none } : Oper)) (v := ?_) rfl (by kernel_rfl) (by kernel_rfl) (by kernel_rfl) (fun _ _ _ h => h) (Or.inl ⟨by rfl, ?_⟩) hHeld ?_
          rotate_left
          · (intro w hS; go_simp; try with_reducible rfl)
          try simp only [Act.put, List.setIfInBounds_toArray, List.set_cons_zero, List.set_cons_succ]
          refine wpAnyH_take (i := 13) (oi := ({ dst := some 36, op := Op.fieldAddr 60 (Operand.tmp 35) 1, type := 0, pos := _, after := #[{ on := 12, ground := Ground.data }], guard := none } : Oper)) (v := ?_) rfl (by kernel_rfl) (by kernel_rfl) (by kernel_rfl) (fun _ _ _ h => h) (Or.inl ⟨by rfl, ?_⟩) hHeld ?_
          rotate_left
          · (intro w hS; go_simp; try with_reducible rfl)
          try simp only [Act.put, List.setIfInBounds_toArray, List.set_cons_zero, List.set_cons_succ]
          refine wpAnyH_take (i := 14) (oi := ({ dst := some 37, op := Op.load 25 (Operand.tmp 36), type := 25, pos := _, after := #[{ on := 13, ground := Ground.data }], guard := none } : Oper)) (v := ?_) rfl (by kernel_rfl) (by kernel_rfl) (by kernel_rfl) (fun _ _ _ h => h) (Or.inl ⟨by rfl, ?_⟩) hHeld ?_
          rotate_left
          · (intro w hS; obtain ⟨_, d1, d2⟩ := HF.out w hS; go_simp; try with_reducible rfl)
          try simp only [Act.put, List.setIfInBounds_toArray, List.set_cons_zero, List.set_cons_succ]
          refine wpAnyH_ready (rs := [8]) (by kernel_rfl) (by simp) ?_
          refine AllReadyH.cons (o := ({ dst := some 31, op := Op.buildSlice 25 4 #[(0, Operand.tmp 28), (1, Operand.const (Value.int IntKind.u8 128)), (2, Operand.const (Value.int IntKind.u8 0)), (3, Operand.tmp 30)], type := 25, pos := _, after := #[{ on := 5, ground := Ground.data }, { on := 7, ground := Ground.data }], guard := none } : Oper)) rfl (fun K hK => ?_) AllReadyH.nil
          refine step_slB (zs := [x.id, 128, 0, y]) (vs := [(0, .int .u8 (x.id.toNat : Int)), (1, .int .u8 ((128 : UInt8).toNat : Int)), (2, .int .u8 ((0 : UInt8).toNat : Int)), (3, .int .u8 (y.toNat : Int))]) (by rfl) w.heap.size (by rfl) (by rfl) (run_sl4 _ _ _ _) rfl (by decide) hHeld.size ?_
          intro b5 w5 hb5 o5 d5
          have o1 := (o1.below (Below.refl _ _).drew (Nat.le_refl _)).below d5 (Nat.le_refl _)
          refine hK.out _ _ (hHeld.trans (d5.mono hHeld.size)) (fun hHeld => ?_)
          clear hK K
          try simp only [Act.put, List.setIfInBounds_toArray, List.set_cons_zero, List.set_cons_succ]
          refine wpAnyH_ready (rs := [9]) (by kernel_rfl) (by simp) ?_
          refine AllReadyH.cons (o := ({ dst := some 32, op := Op.call { callee := Callee.builtin Builtin.append, args := #[Operand.tmp 23, Operand.tmp 31], argTypes := #[25, 25] }, type := 25, pos := _, after := #[{ on := 0, ground := Ground.data }, { on := 8, ground := Ground.data }], guard := none } : Oper)) rfl (fun K hK => ?_) AllReadyH.nil
          refine step_appB (N := l1 + 4) (by rfl) (by rfl) (by rfl) (by rfl) o1 o5.isB.1 (by intro h; cases h) (by omega) hHeld.size rfl ?_
          intro a6 c6 w6 o6 d6
          refine hK.out _ _ (hHeld.trans d6) (fun hHeld => ?_)
          clear hK K
          try simp only [Act.put, List.setIfInBounds_toArray, List.set_cons_zero, List.set_cons_succ]
          refine wpAnyH_ready (rs := [15]) (by kernel_rfl) (by simp) ?_
          refine AllReadyH.cons (o := ({ dst := some 38, op := Op.call { callee := Callee.builtin Builtin.append, args := #[Operand.tmp 32, Operand.tmp 37], argTypes := #[25, 25] }, type := 25, pos := _, after := #[{ on := 9, ground := Ground.data }, { on := 14, ground := Ground.data }, { on := 9, ground := Ground.chain }], guard := none } : Oper)) rfl (fun K hK => ?_) AllReadyH.nil
          refine step_appB (N := l1 + 4 + li) (by rfl) (by rfl) (by rfl) (by rfl) o6 (HF.out _ hHeld).1 hn0 (by omega) hHeld.size rfl ?_
          intro a7 c7 w7 o7 d7
          refine hK.out _ _ (hHeld.trans d7) (fun hHeld => ?_)
          clear hK K
          try simp only [Act.put, List.setIfInBounds_toArray, List.set_cons_zero, List.set_cons_succ]
          refine wpAnyH_take (i := 16) (oi := ({ dst := some 4, op := Op.assign (Operand.tmp 38), type := 25, pos := _, after := #[{ on := 15, ground := Ground.data }, { on := 15, ground := Ground.chain }, { on := 0, ground := Ground.phase }, { on := 1, ground := Ground.phase }, { on := 2, ground := Ground.phase }, { on := 3, ground := Ground.phase }, { on := 4, ground := Ground.phase }, { on := 5, ground := Ground.phase }, { on := 6, ground := Ground.phase }, { on := 7, ground := Ground.phase }, { on := 8, ground := Ground.phase }, { on := 9, ground := Ground.phase }, { on := 10, ground := Ground.phase }, { on := 11, ground := Ground.phase }, { on := 12, ground := Ground.phase }, { on := 13, ground := Ground.phase }, { on := 14, ground := Ground.phase }, { on := 15, ground := Ground.phase }], guard := none } : Oper)) (v := ?_) rfl (by kernel_rfl) (by kernel_rfl) (by kernel_rfl) (fun _ _ _ h => h) (Or.inl ⟨by rfl, ?_⟩) hHeld ?_
          rotate_left
          · (intro w hS; go_simp; try with_reducible rfl)
          try simp only [Act.put, List.setIfInBounds_toArray, List.set_cons_zero, List.set_cons_succ]
          refine wpAnyH_done (by kernel_rfl) ?_ _
          skip
          go_wp2
          go_roundw
          case rel => exact ⟨k + 1, a7, l1 + 4 + li, c7, by omega, by go_num, rfl, by rw [HG.out]; exact o7, hHeld, H200.out⟩
          case measure => simp [intOf]; omega
      · obtain rfl : k = n := by omega
        have HF : Hid (L.take k = L) := List.take_of_length_le (by have := HnL.out; omega)
        have HE : Hid (okL L = true) := okL_iff.2 ⟨by have := HnL.out; omega, by rw [← HF.out]; exact h200⟩
        clear hv HnL h200
        go_wp2
        go_ret2
        exact ⟨bel, .inl ⟨HE.out, a1, c1, by rw [← HF.out, ← o1.1]; rfl, by rw [← HF.out, ← o1.1]; exact o1⟩⟩
end Go.Proofs.YtbjeljmnknibnaaDoor
