/- Proved here: what gather's add leaves. Conditions: as each theorem states them. -/
import Derived.Test.YtfmicnjijcmjaaaGr
import Derived.Test.YtfmicnjijcmjaaaWhole
import Derived.Test.YtfmicnjijcmjaaaCp
namespace Go.Proofs.Ytfmicnjijcmjaaa
set_option linter.unusedSimpArgs false
set_option linter.unusedVariables false
open Go.RowKit

theorem wpList_box {P : Program} {w : World} {ops : Array Oper} {rest : List Oper} {o : Oper} {a : Act} {Q : Exit → Act → World → Prop} (hgd : Region.wanted o (yielded ops a.tmps) = true)
    {ty : TypeId} {x : Operand} {C : Array Value} (ho : o.op = .box ty x) (hx : a.eval x = .agg C)
    (h : wpList P ops Q rest (a.put o.dst (.pointer (some ⟨w.heap.size, 0, none⟩))) (w.alloc (.cells C ty))) : wpList P ops Q (o :: rest) a w := by
  refine wpList_val (v := .pointer (some ⟨w.heap.size, 0, none⟩)) (w' := w.alloc (.cells C ty)) hgd ?_ h
  unfold execOp
  simp [ho, hx, newVar, newRow, Result.andThen, Value.cells]
  try rfl

set_option maxHeartbeats 2000000 in
theorem add_calls {w : World} {F : Nat → Prop} {r : Nat} {S : Ga} (h : GX w F r S) (hf : S.xs.length ≤ 960) (t : Int) (t0 : -9223372036854775808 ≤ t) (t1 : t ≤ 9223372036854775807) (ps : List UInt8) (hp : ps.length = 48) :
    Calls Try.prog 25 #[.pointer (some ⟨r, 0, none⟩), .int .i64 t, .agg (payV ps)] w fun e w' => e = .returned (.tuple #[]) ∧ ∃ F', GX w' F' r (S.add t ps) ∧ Ft F F' w w' := by
  have hok := h.ok.add hf t ps hp t0 t1
  have HOK : Hid ((S.add t ps).Ok) := hok
  have HL : Hid (ps.length = 48) := hp
  have A1 : Below w.heap.size w (w.alloc (.cells (payV ps) 28)) := (Below.refl _ w).alloc (Nat.le_refl _) _
  have h' := h.below A1 (Nat.le_refl _)
  have hrl := h.lt r h.hr
  have P1 := bk_new w (payV ps) 28
  have HF1 : Hid (Ft F F w (w.alloc (.cells (payV ps) 28))) := Ft.of A1 (Nat.le_refl _)
  obtain ⟨W1, hW1⟩ : ∃ W1, w.alloc (.cells (payV ps) 28) = W1 := ⟨_, rfl⟩
  rw [hW1] at h' P1 HF1
  have z1 : W1.heap.size = w.heap.size + 1 := by rw [← hW1]; simp
  obtain ⟨⟨a, n, c, hb, hc, hy⟩, h1, h2, h3⟩ := h'
  have hn : n ≤ 960 := by rw [hc.1]; exact hf
  have Hn : Hid (n = S.xs.length) := hc.1
  have c1 := hb.cell 1 _ rfl
  have f2 := hb.frozen 2
  have c2 := hb.cell 2 _ rfl
  have HE : Hid (S.add t ps = { S with xs := S.xs ++ ps, f := if n = 0 then t else S.f }) := by show _ = _; unfold Ga.add; rw [hc.1]
  by_cases h0 : n = 0
  · have q0 : ((n : Int) == 0) = true := by subst h0; rfl
    have hb2 : BK (W1.setCell ⟨r, 2, none⟩ (.int .i64 t)) r (gcells { S with f := t } a n c) 58 := by have := hb.set 2 (.int .i64 t); simpa using this
    have hc2 : OwnB 0 (W1.setCell ⟨r, 2, none⟩ (.int .i64 t)) a n c S.xs := ownB_keep hc (fun y e => Below.heap_setCell _ _ _ _ (hy y e).2)
    have P2 := P1.setOther (p := ⟨r, 2, none⟩) (by show w.heap.size ≠ r; omega) (.int .i64 t)
    have HF2 : Hid (Ft F F w (W1.setCell ⟨r, 2, none⟩ (.int .i64 t))) := HF1.out.trans (Ft.set _ h1 _)
    have z2 : (W1.setCell ⟨r, 2, none⟩ (.int .i64 t)).heap.size = w.heap.size + 1 := by simp [World.setCell, z1]
    have HE' : Hid (S.add t ps = { S with xs := S.xs ++ ps, f := t }) := by show _ = _; rw [HE.out, if_pos h0]
    have cc := hb2.cell 1 _ rfl
    rw [HE'.out] at HOK ⊢
    obtain ⟨W2, hW2⟩ : ∃ W2, W1.setCell ⟨r, 2, none⟩ (.int .i64 t) = W2 := ⟨_, rfl⟩
    rw [hW2] at hb2 hc2 P2 HF2 z2 cc
    clear hb hc P1 h0 HE HE' hok
    go_enter Try.func25, Try.ntmps25
    go_wp2_with (first | (with_reducible show wpList _ _ _ (Oper.mk _ (Op.box 28 _) _ _ _ _ :: _) _ _; refine wpList_box rfl rfl rfl ?_; (try simp only [Act.put, List.setIfInBounds_toArray, List.set_cons_zero, List.set_cons_succ, World.size_alloc])) | fail)
    refine (grow_calls W2 a n c S.xs hc2 (by omega)).mono ?_
    rintro e w3 ⟨g, c', rfl, hR, hg, b3⟩
    have hgr : g ≠ r := by
      rcases hg with e | e
      · have := (hy _ e).2; exact this
      · omega
    have hgp : g ≠ w.heap.size := by
      rcases hg with e | e
      · have := h.lt g (hy _ e).1; omega
      · omega
    have hgF : w.heap.size ≤ g ∨ F g := by
      rcases hg with e | e
      · exact .inr (hy _ e).1
      · exact .inl (by omega)
    have hb3 := hb2.below b3 (by omega)
    have P3 := P2.below b3 (by omega)
    have hrm := hR.room
    have hmx := hR.max
    obtain ⟨cur, hK, hsz, htk⟩ := hR.ex
    have f3 := hb3.frozen 1
    have d3 := hb3.cell 1 _ rfl
    have hb4 := hb3.set 1 (.slice (some ⟨g, 0, none⟩) (n + 48) c')
    have P4 := P3.setOther (p := ⟨r, 1, none⟩) (by show w.heap.size ≠ r; omega) (.slice (some ⟨g, 0, none⟩) (n + 48) c')
    have hK4 := hK.setOther (p := ⟨r, 1, none⟩) hgr (.slice (some ⟨g, 0, none⟩) (n + 48) c')
    have z3 := b3.size
    have HF4 : Hid (Ft F F w (w3.setCell ⟨r, 1, none⟩ (.slice (some ⟨g, 0, none⟩) (n + 48) c'))) := (HF2.out.trans (Ft.of b3 (Nat.le_refl _))).trans (Ft.set _ h1 _)
    have z4 : (w3.setCell ⟨r, 1, none⟩ (.slice (some ⟨g, 0, none⟩) (n + 48) c')).heap.size = w3.heap.size := by simp [World.setCell]
    have c4 := hb4.cell 1 _ rfl
    obtain ⟨W4, hW4⟩ : ∃ W4, w3.setCell ⟨r, 1, none⟩ (.slice (some ⟨g, 0, none⟩) (n + 48) c') = W4 := ⟨_, rfl⟩
    rw [hW4] at hb4 P4 hK4 HF4 z4 c4
    have I4 : IsB W4.drew.heap.size W4.drew (some ⟨w.heap.size, 0, none⟩) 48 ps := by have := P4.drew.isB; rw [hp] at this; exact this
    obtain ⟨w5, hcp, K5, b5, but5, z5⟩ := run_cp W4.drew 3 g n 48 (c' - n) cur _ hK4.drew (some ⟨w.heap.size, 0, none⟩) 48 48 ps I4 (by decide) (by decide) (by show n + 48 ≤ cur.size; omega)
    rw [show Nat.min 48 48 = 48 from rfl] at hcp
    have hb5 := hb4.drew.but but5 (by show r < W4.heap.size; omega) (Ne.symm hgr)
    have HF5 : Hid (Ft F (fun k => F k ∨ k = g) w w5) := (HF4.out.drew.wide hgF).trans (Ft.but but5 (.inr rfl))
    have HO5 : Hid (OwnB 0 w5 (some ⟨g, 0, none⟩) (n + 48) c' (S.xs ++ ps)) := by
      have ht : List.take 48 ps = ps := by rw [← hp, List.take_length]
      rw [ht] at K5
      have hsz5 : (laidIn cur n ps).size = cur.size := by simp [laidIn, vals]; omega
      have htk5 : (laidIn cur n ps).toList.take (n + 48) = vals (S.xs ++ ps) := by
        simp only [laidIn]
        rw [htk, List.append_assoc, ← List.append_assoc, ← vals_append, List.take_left' (by rw [vals_length, List.length_append]; have := Hn.out; omega)]
      exact ⟨by rw [List.length_append]; have := Hn.out; omega, by rw [vals_length, List.length_append]; have := Hn.out; omega, .inr ⟨g, c', _, rfl, Nat.zero_le _, K5, hrm, hmx, by omega, by rw [Nat.mul_one]; exact htk5⟩⟩
    have z45 : W4.drew.heap.size = W4.heap.size := rfl
    clear hb2 hb3 P3 hK hK4 hsz htk P4 I4 K5 b5 but5 HF4 HF2 HF1 b3 hc2 P2
    go_wp2_with fail
    have c4' : W4.drew.cell? ⟨r, 1, none⟩ = some (.slice (some ⟨g, 0, none⟩) (n + 48) c') := c4
    have q1 : ((c' : Int) == (n : Int)) = false := beq_eq_false_iff_ne.2 (by omega)
    refine wp_region_held_drew (S := (fun w' => w'.cell? ⟨r, 1, none⟩ = some (.slice (some ⟨g, 0, none⟩) (n + 48) c'))) (by kernel_rfl) c4' (fun hHeld => ?_)
    refine wpAnyH_take (i := 0) (oi := ({ dst := some 29, op := Op.move (Operand.tmp 0), type := 24, pos := _, after := #[], guard := none } : Oper)) (v := ?_) rfl (by kernel_rfl) (by kernel_rfl) (by kernel_rfl) (fun _ _ _ h => h) (Or.inl ⟨by rfl, ?_⟩) hHeld ?_
    rotate_left
    · (intro w hS; go_simp; try with_reducible rfl)
    try simp only [Act.put, List.setIfInBounds_toArray, List.set_cons_zero, List.set_cons_succ]
    refine wpAnyH_take (i := 1) (oi := ({ dst := some 30, op := Op.nilCheck (Operand.tmp 29), type := 0, pos := _, after := #[{ on := 0, ground := Ground.data }], guard := none } : Oper)) (v := ?_) rfl (by kernel_rfl) (by kernel_rfl) (by kernel_rfl) (fun _ _ _ h => h) (Or.inl ⟨by rfl, ?_⟩) hHeld ?_
    rotate_left
    · (intro w hS; go_simp; try with_reducible rfl)
    try simp only [Act.put, List.setIfInBounds_toArray, List.set_cons_zero, List.set_cons_succ]
    refine wpAnyH_take (i := 2) (oi := ({ dst := some 31, op := Op.fieldAddr 58 (Operand.tmp 30) 1, type := 0, pos := _, after := #[{ on := 1, ground := Ground.data }], guard := none } : Oper)) (v := ?_) rfl (by kernel_rfl) (by kernel_rfl) (by kernel_rfl) (fun _ _ _ h => h) (Or.inl ⟨by rfl, ?_⟩) hHeld ?_
    rotate_left
    · (intro w hS; go_simp; try with_reducible rfl)
    try simp only [Act.put, List.setIfInBounds_toArray, List.set_cons_zero, List.set_cons_succ]
    refine wpAnyH_take (i := 3) (oi := ({ dst := some 32, op := Op.load 32 (Operand.tmp 31), type := 32, pos := _, after := #[{ on := 2, ground := Ground.data }], guard := none } : Oper)) (v := ?_) rfl (by kernel_rfl) (by kernel_rfl) (by kernel_rfl) (fun _ _ _ h => h) (Or.inl ⟨by rfl, ?_⟩) hHeld ?_
    rotate_left
    · (intro w hS; go_simp; try with_reducible rfl)
    try simp only [Act.put, List.setIfInBounds_toArray, List.set_cons_zero, List.set_cons_succ]
    refine wpAnyH_take (i := 4) (oi := ({ dst := some 33, op := Op.move (Operand.tmp 6), type := 3, pos := _, after := #[], guard := none } : Oper)) (v := ?_) rfl (by kernel_rfl) (by kernel_rfl) (by kernel_rfl) (fun _ _ _ h => h) (Or.inl ⟨by rfl, ?_⟩) hHeld ?_
    rotate_left
    · (intro w hS; go_simp; try with_reducible rfl)
    try simp only [Act.put, List.setIfInBounds_toArray, List.set_cons_zero, List.set_cons_succ]
    refine wpAnyH_take (i := 5) (oi := ({ dst := some 34, op := Op.slice 32 (Operand.tmp 32) (some (Operand.tmp 33)) none none, type := 32, pos := _, after := #[{ on := 3, ground := Ground.data }, { on := 4, ground := Ground.data }], guard := none } : Oper)) (v := ?_) rfl (by kernel_rfl) (by kernel_rfl) (by kernel_rfl) (fun _ _ _ h => h) (Or.inl ⟨by rfl, ?_⟩) hHeld ?_
    rotate_left
    · (intro w hS; go_simp; rw [if_pos (by omega : (n : Int) ≤ (n : Int) + 48), if_neg (by omega : ¬ c' = n)])
    try simp only [Act.put, List.setIfInBounds_toArray, List.set_cons_zero, List.set_cons_succ]
    refine wpAnyH_take (i := 6) (oi := ({ dst := some 35, op := Op.slice 28 (Operand.tmp 5) none none none, type := 32, pos := _, after := #[], guard := none } : Oper)) (v := ?_) rfl (by kernel_rfl) (by kernel_rfl) (by kernel_rfl) (fun _ _ _ h => h) (Or.inl ⟨by rfl, ?_⟩) hHeld ?_
    rotate_left
    · (intro w hS; go_simp; try with_reducible rfl)
    try simp only [Act.put, List.setIfInBounds_toArray, List.set_cons_zero, List.set_cons_succ]
    refine wpAnyH_ready (rs := [7]) (by kernel_rfl) (by simp) ?_
    refine AllReadyH.cons (o := ({ dst := some 36, op := Op.call { callee := Callee.builtin Builtin.copy, args := #[Operand.tmp 34, Operand.tmp 35], argTypes := #[32, 32] }, type := 3, pos := _, after := #[{ on := 5, ground := Ground.data }, { on := 6, ground := Ground.data }], guard := none } : Oper)) rfl (fun K hK => ?_) AllReadyH.nil
    refine step_cp hcp _ _ rfl rfl rfl rfl rfl ?_
    refine hK.out _ _ (hb5.cell 1 _ rfl) (fun hHeld => ?_)
    clear hK K
    try simp only [Act.put, List.setIfInBounds_toArray, List.set_cons_zero, List.set_cons_succ]
    refine wpAnyH_done (by kernel_rfl) ?_ _
    go_wp2
    refine bodyPost_end (results_none rfl _ _ _) rfl ?_
    refine ⟨rfl, fun k => F k ∨ k = g, ⟨⟨_, _, _, hb5, ?_, ?_⟩, .inl h1, ?_, HOK.out⟩, HF5.out⟩
    · exact HO5.out
    · rintro y ⟨rfl⟩; exact ⟨.inr rfl, hgr⟩
    · rintro k (hk | rfl)
      · have := h2 k hk; omega
      · have := (HO5.out.lt _ rfl).2; exact this
  · have q0 : ((n : Int) == 0) = false := beq_eq_false_iff_ne.2 (by omega)
    have HE' : Hid (S.add t ps = { S with xs := S.xs ++ ps }) := by show _ = _; rw [HE.out, if_neg h0]
    rw [HE'.out] at HOK ⊢
    have hb2 : BK W1 r (gcells S a n c) 58 := hb
    have hc2 := hc
    have P2 := P1
    have HF2 := HF1
    have z2 := z1
    clear hb hc P1 h0 HE HE' hok
    go_enter Try.func25, Try.ntmps25
    go_wp2_with (first | (with_reducible show wpList _ _ _ (Oper.mk _ (Op.box 28 _) _ _ _ _ :: _) _ _; refine wpList_box rfl rfl rfl ?_; (try simp only [Act.put, List.setIfInBounds_toArray, List.set_cons_zero, List.set_cons_succ, World.size_alloc])) | fail)
    refine (grow_calls W1 a n c S.xs hc2 (by omega)).mono ?_
    rintro e w3 ⟨g, c', rfl, hR, hg, b3⟩
    have hgr : g ≠ r := by
      rcases hg with e | e
      · have := (hy _ e).2; exact this
      · omega
    have hgp : g ≠ w.heap.size := by
      rcases hg with e | e
      · have := h.lt g (hy _ e).1; omega
      · omega
    have hgF : w.heap.size ≤ g ∨ F g := by
      rcases hg with e | e
      · exact .inr (hy _ e).1
      · exact .inl (by omega)
    have hb3 := hb2.below b3 (by omega)
    have P3 := P2.below b3 (by omega)
    have hrm := hR.room
    have hmx := hR.max
    obtain ⟨cur, hK, hsz, htk⟩ := hR.ex
    have f3 := hb3.frozen 1
    have d3 := hb3.cell 1 _ rfl
    have hb4 := hb3.set 1 (.slice (some ⟨g, 0, none⟩) (n + 48) c')
    have P4 := P3.setOther (p := ⟨r, 1, none⟩) (by show w.heap.size ≠ r; omega) (.slice (some ⟨g, 0, none⟩) (n + 48) c')
    have hK4 := hK.setOther (p := ⟨r, 1, none⟩) hgr (.slice (some ⟨g, 0, none⟩) (n + 48) c')
    have z3 := b3.size
    have HF4 : Hid (Ft F F w (w3.setCell ⟨r, 1, none⟩ (.slice (some ⟨g, 0, none⟩) (n + 48) c'))) := (HF2.out.trans (Ft.of b3 (Nat.le_refl _))).trans (Ft.set _ h1 _)
    have z4 : (w3.setCell ⟨r, 1, none⟩ (.slice (some ⟨g, 0, none⟩) (n + 48) c')).heap.size = w3.heap.size := by simp [World.setCell]
    have c4 := hb4.cell 1 _ rfl
    obtain ⟨W4, hW4⟩ : ∃ W4, w3.setCell ⟨r, 1, none⟩ (.slice (some ⟨g, 0, none⟩) (n + 48) c') = W4 := ⟨_, rfl⟩
    rw [hW4] at hb4 P4 hK4 HF4 z4 c4
    have I4 : IsB W4.drew.heap.size W4.drew (some ⟨w.heap.size, 0, none⟩) 48 ps := by have := P4.drew.isB; rw [hp] at this; exact this
    obtain ⟨w5, hcp, K5, b5, but5, z5⟩ := run_cp W4.drew 3 g n 48 (c' - n) cur _ hK4.drew (some ⟨w.heap.size, 0, none⟩) 48 48 ps I4 (by decide) (by decide) (by show n + 48 ≤ cur.size; omega)
    rw [show Nat.min 48 48 = 48 from rfl] at hcp
    have hb5 := hb4.drew.but but5 (by show r < W4.heap.size; omega) (Ne.symm hgr)
    have HF5 : Hid (Ft F (fun k => F k ∨ k = g) w w5) := (HF4.out.drew.wide hgF).trans (Ft.but but5 (.inr rfl))
    have HO5 : Hid (OwnB 0 w5 (some ⟨g, 0, none⟩) (n + 48) c' (S.xs ++ ps)) := by
      have ht : List.take 48 ps = ps := by rw [← hp, List.take_length]
      rw [ht] at K5
      have hsz5 : (laidIn cur n ps).size = cur.size := by simp [laidIn, vals]; omega
      have htk5 : (laidIn cur n ps).toList.take (n + 48) = vals (S.xs ++ ps) := by
        simp only [laidIn]
        rw [htk, List.append_assoc, ← List.append_assoc, ← vals_append, List.take_left' (by rw [vals_length, List.length_append]; have := Hn.out; omega)]
      exact ⟨by rw [List.length_append]; have := Hn.out; omega, by rw [vals_length, List.length_append]; have := Hn.out; omega, .inr ⟨g, c', _, rfl, Nat.zero_le _, K5, hrm, hmx, by omega, by rw [Nat.mul_one]; exact htk5⟩⟩
    have z45 : W4.drew.heap.size = W4.heap.size := rfl
    clear hb2 hb3 P3 hK hK4 hsz htk P4 I4 K5 b5 but5 HF4 HF2 HF1 b3 hc2 P2
    go_wp2_with fail
    have c4' : W4.drew.cell? ⟨r, 1, none⟩ = some (.slice (some ⟨g, 0, none⟩) (n + 48) c') := c4
    have q1 : ((c' : Int) == (n : Int)) = false := beq_eq_false_iff_ne.2 (by omega)
    refine wp_region_held_drew (S := (fun w' => w'.cell? ⟨r, 1, none⟩ = some (.slice (some ⟨g, 0, none⟩) (n + 48) c'))) (by kernel_rfl) c4' (fun hHeld => ?_)
    refine wpAnyH_take (i := 0) (oi := ({ dst := some 29, op := Op.move (Operand.tmp 0), type := 24, pos := _, after := #[], guard := none } : Oper)) (v := ?_) rfl (by kernel_rfl) (by kernel_rfl) (by kernel_rfl) (fun _ _ _ h => h) (Or.inl ⟨by rfl, ?_⟩) hHeld ?_
    rotate_left
    · (intro w hS; go_simp; try with_reducible rfl)
    try simp only [Act.put, List.setIfInBounds_toArray, List.set_cons_zero, List.set_cons_succ]
    refine wpAnyH_take (i := 1) (oi := ({ dst := some 30, op := Op.nilCheck (Operand.tmp 29), type := 0, pos := _, after := #[{ on := 0, ground := Ground.data }], guard := none } : Oper)) (v := ?_) rfl (by kernel_rfl) (by kernel_rfl) (by kernel_rfl) (fun _ _ _ h => h) (Or.inl ⟨by rfl, ?_⟩) hHeld ?_
    rotate_left
    · (intro w hS; go_simp; try with_reducible rfl)
    try simp only [Act.put, List.setIfInBounds_toArray, List.set_cons_zero, List.set_cons_succ]
    refine wpAnyH_take (i := 2) (oi := ({ dst := some 31, op := Op.fieldAddr 58 (Operand.tmp 30) 1, type := 0, pos := _, after := #[{ on := 1, ground := Ground.data }], guard := none } : Oper)) (v := ?_) rfl (by kernel_rfl) (by kernel_rfl) (by kernel_rfl) (fun _ _ _ h => h) (Or.inl ⟨by rfl, ?_⟩) hHeld ?_
    rotate_left
    · (intro w hS; go_simp; try with_reducible rfl)
    try simp only [Act.put, List.setIfInBounds_toArray, List.set_cons_zero, List.set_cons_succ]
    refine wpAnyH_take (i := 3) (oi := ({ dst := some 32, op := Op.load 32 (Operand.tmp 31), type := 32, pos := _, after := #[{ on := 2, ground := Ground.data }], guard := none } : Oper)) (v := ?_) rfl (by kernel_rfl) (by kernel_rfl) (by kernel_rfl) (fun _ _ _ h => h) (Or.inl ⟨by rfl, ?_⟩) hHeld ?_
    rotate_left
    · (intro w hS; go_simp; try with_reducible rfl)
    try simp only [Act.put, List.setIfInBounds_toArray, List.set_cons_zero, List.set_cons_succ]
    refine wpAnyH_take (i := 4) (oi := ({ dst := some 33, op := Op.move (Operand.tmp 6), type := 3, pos := _, after := #[], guard := none } : Oper)) (v := ?_) rfl (by kernel_rfl) (by kernel_rfl) (by kernel_rfl) (fun _ _ _ h => h) (Or.inl ⟨by rfl, ?_⟩) hHeld ?_
    rotate_left
    · (intro w hS; go_simp; try with_reducible rfl)
    try simp only [Act.put, List.setIfInBounds_toArray, List.set_cons_zero, List.set_cons_succ]
    refine wpAnyH_take (i := 5) (oi := ({ dst := some 34, op := Op.slice 32 (Operand.tmp 32) (some (Operand.tmp 33)) none none, type := 32, pos := _, after := #[{ on := 3, ground := Ground.data }, { on := 4, ground := Ground.data }], guard := none } : Oper)) (v := ?_) rfl (by kernel_rfl) (by kernel_rfl) (by kernel_rfl) (fun _ _ _ h => h) (Or.inl ⟨by rfl, ?_⟩) hHeld ?_
    rotate_left
    · (intro w hS; go_simp; rw [if_pos (by omega : (n : Int) ≤ (n : Int) + 48), if_neg (by omega : ¬ c' = n)])
    try simp only [Act.put, List.setIfInBounds_toArray, List.set_cons_zero, List.set_cons_succ]
    refine wpAnyH_take (i := 6) (oi := ({ dst := some 35, op := Op.slice 28 (Operand.tmp 5) none none none, type := 32, pos := _, after := #[], guard := none } : Oper)) (v := ?_) rfl (by kernel_rfl) (by kernel_rfl) (by kernel_rfl) (fun _ _ _ h => h) (Or.inl ⟨by rfl, ?_⟩) hHeld ?_
    rotate_left
    · (intro w hS; go_simp; try with_reducible rfl)
    try simp only [Act.put, List.setIfInBounds_toArray, List.set_cons_zero, List.set_cons_succ]
    refine wpAnyH_ready (rs := [7]) (by kernel_rfl) (by simp) ?_
    refine AllReadyH.cons (o := ({ dst := some 36, op := Op.call { callee := Callee.builtin Builtin.copy, args := #[Operand.tmp 34, Operand.tmp 35], argTypes := #[32, 32] }, type := 3, pos := _, after := #[{ on := 5, ground := Ground.data }, { on := 6, ground := Ground.data }], guard := none } : Oper)) rfl (fun K hK => ?_) AllReadyH.nil
    refine step_cp hcp _ _ rfl rfl rfl rfl rfl ?_
    refine hK.out _ _ (hb5.cell 1 _ rfl) (fun hHeld => ?_)
    clear hK K
    try simp only [Act.put, List.setIfInBounds_toArray, List.set_cons_zero, List.set_cons_succ]
    refine wpAnyH_done (by kernel_rfl) ?_ _
    go_wp2
    refine bodyPost_end (results_none rfl _ _ _) rfl ?_
    refine ⟨rfl, fun k => F k ∨ k = g, ⟨⟨_, _, _, hb5, ?_, ?_⟩, .inl h1, ?_, HOK.out⟩, HF5.out⟩
    · exact HO5.out
    · rintro y ⟨rfl⟩; exact ⟨.inr rfl, hgr⟩
    · rintro k (hk | rfl)
      · have := h2 k hk; omega
      · have := (HO5.out.lt _ rfl).2; exact this
end Go.Proofs.Ytfmicnjijcmjaaa
