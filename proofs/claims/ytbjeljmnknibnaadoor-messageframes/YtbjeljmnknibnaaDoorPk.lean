/- Proved here: what element.Pack answers. Conditions: as each theorem states them. -/
import Derived.Test.YtbjeljmnknibnaaDoorFi
import Derived.Test.YtbjeljmnknibnaaDoorSm
namespace Go.Proofs.YtbjeljmnknibnaaDoor
set_option linter.unusedSimpArgs false
set_option linter.unusedVariables false
open Go.RowKit Go.Shelf

set_option maxHeartbeats 2000000 in
theorem pack_no (a : Option Addr) (n c : Nat) (L : List El) (w : World) {m0 : Nat} (hv : IsI m0 w a n L) (hm0 : m0 ≤ w.heap.size) (hn : n ≤ 1000) (hno : okL L = false) :
    Calls Tryd.prog 28 #[.slice a n c] w fun e w' => e = .returned (.tuple #[.slice none 0 0, .int .i64 6]) ∧ Below w.heap.size w w' := by
  have hl := hv.1
  by_cases h16 : 16 < n
  · have q1 : decide (16 < (n : Int)) = true := by simp; omega
    clear hl hno h16 hv
    go_enter Tryd.func28, Tryd.ntmps28
    go_wp2
    go_ret2
    exact ⟨rfl, Below.refl _ _⟩
  · have q1 : decide (16 < (n : Int)) = false := by simp; omega
    have HC := contains_calls w a n c L hv hm0 hn
    have hany : L.any longB = true := by
      unfold okL at hno
      rw [← hl, show decide (n ≤ 16) = true by simp; omega] at hno
      simpa using hno
    rw [hany] at HC
    clear hl hno h16 hv hany
    go_enter Tryd.func28, Tryd.ntmps28
    go_wp2_with fail
    refine HC.mono ?_
    rintro e w1 ⟨rfl, b1⟩
    go_wp2
    go_ret2
    exact ⟨rfl, b1⟩

set_option maxHeartbeats 4000000 in
theorem pack_ok (a : Option Addr) (n c : Nat) (L : List El) (w : World) {m0 : Nat} (hv : IsI m0 w a n L) (hm0 : m0 ≤ w.heap.size) (hok : okL L = true) :
    Calls Tryd.prog 28 #[.slice a n c] w fun e w' => ∃ a' c', e = .returned (.tuple #[.slice a' (bytesE L).length c', .int .i64 0]) ∧ OwnB w.heap.size w' a' (bytesE L).length c' (bytesE L) ∧ Below w.heap.size w w' := by
  have HnL : Hid (n = L.length) := hv.1
  obtain ⟨h16, h200⟩ := okL_iff.1 hok
  have hn : n ≤ 16 := by have := HnL.out; omega
  have q1 : decide (16 < (n : Int)) = false := by simp; omega
  have HC := contains_calls w a n c L hv hm0 (by omega)
  have hany : L.any longB = false := by
    rw [List.any_eq_false]
    intro x hx
    have := h200 x hx
    simp [longB]; omega
  rw [hany] at HC
  have H200 : Hid (∀ x ∈ L, x.body.length ≤ 200) := h200
  clear hany hok h16 h200
  go_enter Tryd.func28, Tryd.ntmps28
  go_wp2_with fail
  refine HC.mono ?_
  rintro e w1 ⟨rfl, b1⟩
  clear HC
  go_wp2
  go_loopw [5, 18] (fun s i wr => ∃ (k : Nat) (a' : Option Addr) (l' c' : Nat), k ≤ n ∧ i = .int .i64 k ∧ s = .slice a' l' c' ∧ OwnB w.heap.size wr a' l' c' (bytesE (L.take k)) ∧ Below w.heap.size w wr) (fun _ i _ => n - (intOf i).toNat)
  case atStart => exact ⟨0, none, 0, 0, by omega, rfl, rfl, by simpa [bytesE_nil] using ownB_nil _ _, b1⟩
  case round =>
    obtain ⟨k, a1, l1, c1, hk, rfl, rfl, o1, bel⟩ := hrel
    by_cases hlt : k < n
    · obtain ⟨b, off, x, ai, li, ci, rfl, hbm, hx, hI, hn0, hlc, d1, d2⟩ := (hv.below bel hm0).at hlt
      have hli : Hid (li = x.body.length) := hI.1
      have hl3 : li ≤ 200 := by have := H200.out x (List.mem_of_getElem? hx); have := hI.1; omega
      have hl1 : l1 ≤ 5000 := by
        have h1 := o1.1
        have h2 := bytesE_length_le (L.take k) (fun y hy => by have := H200.out y (List.mem_of_mem_take hy); omega)
        have h3 : (L.take k).length ≤ k := by rw [List.length_take]; omega
        omega
      have HG : Hid (bytesE (L.take (k + 1)) = ((bytesE (L.take k) ++ [x.id, 128]) ++ beN 2 li) ++ x.body) := by
        show _ = _
        rw [take_snocE hx, bytesE_snoc, hli.out]
        simp [layE]
      have H1 := Nat.le_refl w.heap.size
      have hne1 : blk a1 ≠ some wr.heap.size := fun e => by have := (o1.blk_lt _ e).2; omega
      have hmw : m0 ≤ wr.heap.size := Nat.le_trans hm0 bel.size
      generalize bytesE (L.take k) = T at *
      clear hx H1
      go_wp2_with (with_reducible show wpList _ _ _ (Oper.mk _ (Op.buildSlice _ _ _) _ _ _ _ :: _) _ _; refine stop_here ?_)
      refine ⟨?_⟩
      have K1 := bk_new wr #[.int .u8 (x.id.toNat : Int), .slice ai li ci] 60
      have A1 : Below wr.heap.size wr (wr.alloc (.cells #[.int .u8 (x.id.toNat : Int), .slice ai li ci] 60)) := (Below.refl _ wr).alloc (Nat.le_refl _) _
      generalize wr.alloc (.cells #[.int .u8 (x.id.toNat : Int), .slice ai li ci] 60) = W1 at *
      have o2 := o1.below A1 (Nat.le_refl _)
      have I2 := hI.below A1 hmw
      have B2 := bel.trans (A1.mono bel.size)
      clear o1 hI bel A1 d1 d2
      refine wpList_slB (zs := [x.id, 128]) (vs := [(0, .int .u8 (x.id.toNat : Int)), (1, .int .u8 ((128 : UInt8).toNat : Int))]) (by rfl) w.heap.size (by rfl) (by rfl) (run_sl2 _ _) rfl (by decide) B2.size ?_
      intro b5 w5 hb5 o5 e5
      have K5 := K1.below e5 K1.lt
      have o6 := o2.below e5 (Nat.le_refl _)
      have I6 := I2.below e5 (Nat.le_trans hm0 B2.size)
      have B6 := B2.trans (e5.mono B2.size)
      have kl := K5.lt
      have f1 := K5.cell 1 _ rfl
      clear K1 o2 I2 B2 e5
      go_wp2_with (at_builtin; refine wpList_appG (N := l1 + 2) (by rfl) (by rfl) (by rfl) (by rfl) o6 o5.isB.1 (by intro h; cases h) (by omega) B6.size rfl ?_; intro a7 c7 w7 o7 e7; refine stop_here ?_)
      refine ⟨?_⟩
      have K7 := e7.bk K5 hne1
      have n7 := e7.ne hne1 kl
      have d7 := e7.below (fun k hk => (o6.blk_lt k hk).1) B6.size
      have I7 := I6.below d7 hm0
      have B7 := B6.trans d7
      have k7 := K7.lt
      have g1 := K7.cell 1 _ rfl
      clear K5 o6 I6 d7 e7 o5 f1
      have HL := lay_calls w.heap.size w7 B7.size a7 (l1 + 2) c7 _ o7 (by omega) li (by omega) 2 (by decide)
      clear B6
      go_wp2_with fail
      refine HL.mono ?_
      rintro e w8 ⟨a8, c8, rfl, o8, e8⟩
      have K8 := e8.bk K7 n7
      have d8 := e8.below (fun k hk => (o7.blk_lt k hk).1) B7.size
      have I8 := I7.below d8 hm0
      have B8 := B7.trans d8
      have k8 := K8.lt
      have h1 := K8.cell 1 _ rfl
      clear K7 o7 I7 d8 e8 g1 HL B7
      go_wp2_with (at_builtin; refine wpList_appG (N := l1 + 2 + 2 + li) (by rfl) (by rfl) (by rfl) (by rfl) o8 I8 hn0 (by omega) B8.size rfl ?_; intro a9 c9 w9 o9 e9; refine stop_here ?_)
      refine ⟨?_⟩
      have d9 := e9.below (fun k hk => (o8.blk_lt k hk).1) B8.size
      have B9 := B8.trans d9
      clear o8 I8 e9 K8 h1
      go_wp2
      go_roundw
      case rel => exact ⟨k + 1, a9, l1 + 2 + 2 + li, c9, by omega, by go_num, rfl, by rw [HG.out]; exact o9, B9⟩
      case measure => simp [intOf]; omega
    · obtain rfl : k = n := by omega
      have HF : Hid (L.take k = L) := List.take_of_length_le (by have := HnL.out; omega)
      clear hv HnL
      go_wp2
      go_ret2
      exact ⟨a1, c1, by rw [← HF.out, ← o1.1]; rfl, by rw [← HF.out, ← o1.1]; exact o1, bel⟩
end Go.Proofs.YtbjeljmnknibnaaDoor
