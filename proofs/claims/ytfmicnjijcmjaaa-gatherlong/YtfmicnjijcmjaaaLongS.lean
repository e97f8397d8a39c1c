/- Proved here: what GatherLong answers where it looks at nothing; parts without an end, and a nil gatherer. Conditions: as each theorem states them. -/
import Derived.Test.YtfmicnjijcmjaaaFS
namespace Go.Proofs.Ytfmicnjijcmjaaa
set_option linter.unusedSimpArgs false
set_option linter.unusedVariables false
open Go.RowKit Go.Shelf
attribute [local go_sem] Oper.semAt_some

theorem long_boxes (w : World) (ps : List UInt8) (b : Option Addr) (lb cb : Nat) : BX [(w.heap.size + 1, .slice b lb cb, 32), (w.heap.size + 1 + 1, .bool false, 4)] (((w.alloc (.cells (payV ps) 28)).alloc (.cells #[.slice b lb cb] 32)).alloc (.cells #[.bool false] 4)) ∧
    BK (((w.alloc (.cells (payV ps) 28)).alloc (.cells #[.slice b lb cb] 32)).alloc (.cells #[.bool false] 4)) w.heap.size (payV ps) 28 ∧
    Below w.heap.size w (((w.alloc (.cells (payV ps) 28)).alloc (.cells #[.slice b lb cb] 32)).alloc (.cells #[.bool false] 4)) ∧ (((w.alloc (.cells (payV ps) 28)).alloc (.cells #[.slice b lb cb] 32)).alloc (.cells #[.bool false] 4)).heap.size = w.heap.size + 3 := by
  have k1 := bk_new (w.alloc (.cells (payV ps) 28)) #[.slice b lb cb] 32
  have k2 := bk_new ((w.alloc (.cells (payV ps) 28)).alloc (.cells #[.slice b lb cb] 32)) #[.bool false] 4
  rw [World.size_alloc] at k1
  rw [World.size_alloc, World.size_alloc] at k2
  exact ⟨BX.cons (k1.alloc _) (BX.cons k2 (BX.nil _)), ((bk_new w (payV ps) 28).alloc _).alloc _, (((Below.refl _ w).alloc (Nat.le_refl _) _).alloc (by simp) _).alloc (by simp; omega) _, by simp⟩

set_option maxHeartbeats 2000000 in
set_option maxRecDepth 20000 in
theorem long_skip (ps : List UInt8) (hp : ps.length = 48) (many : Int) (b : Option Addr) (lb cb : Nat) (w : World) (h : ¬ (0 < lb ∧ lb ≤ 1000)) :
    Calls Try.prog 7 #[.agg (payV ps), .int .u8 many, .slice b lb cb] w fun e w' => e = .returned (.bool true) ∧ Below w.heap.size w w' := by
  obtain ⟨M0, P0, B0, _⟩ := long_boxes w ps b lb cb
  by_cases q2 : 1000 < lb
  · have d2 : decide (1000 < (lb : Int)) = true := by simp; omega
    clear h q2
    go_enter Try.func7, Try.ntmps7
    go_wp2_with (first | (with_reducible show wpList _ _ _ (Oper.mk _ (Op.box 28 _) _ _ _ _ :: _) _ _; refine wpList_box rfl rfl rfl ?_; (try simp only [Act.put, List.setIfInBounds_toArray, List.set_cons_zero, List.set_cons_succ, World.size_alloc])) | fail)
    generalize ((w.alloc (.cells (payV ps) 28)).alloc (.cells #[.slice b lb cb] 32)).alloc (.cells #[.bool false] 4) = W0 at *
    refine (awake_calls _).mono ?_
    rintro e w1 ⟨rfl, b1⟩
    have M1 := M0.below b1 (Nat.le_refl _)
    have B1 := B0.trans (b1.mono B0.size)
    have c0 := M1.get (b := w.heap.size + 1) (v := .slice b lb cb) (t := 32) (by simp)
    go_wp2_with fail
    refine (awake_calls _).mono ?_
    rintro e w2 ⟨rfl, b2⟩
    have kr := (M1.below b2 (Nat.le_refl _)).bk (b := w.heap.size + 1 + 1) (v := .bool false) (t := 4) (by simp)
    have B2 := B1.trans (b2.mono B1.size)
    have c2 := kr.cell 0 _ rfl
    have f2 := kr.frozen 0
    have c3 := (kr.set 0 (.bool true)).cell 0 (.bool true) rfl
    clear c0 b1 b2 B0 B1 M0 M1 P0
    go_wp2
    refine bodyPost_ret (v := .bool true) (by simp [results, Try.results7, go_sem, c3]) rfl ?_
    exact ⟨rfl, B2.setCell (p := ⟨w.heap.size + 1 + 1, 0, none⟩) (by show w.heap.size ≤ w.heap.size + 1 + 1; omega) _⟩
  · have d2 : decide (1000 < (lb : Int)) = false := by simp; omega
    have d4 : ((lb : Int) == 0) = true := by rw [beq_iff_eq]; omega
    clear h q2
    go_enter Try.func7, Try.ntmps7
    go_wp2_with (first | (with_reducible show wpList _ _ _ (Oper.mk _ (Op.box 28 _) _ _ _ _ :: _) _ _; refine wpList_box rfl rfl rfl ?_; (try simp only [Act.put, List.setIfInBounds_toArray, List.set_cons_zero, List.set_cons_succ, World.size_alloc])) | fail)
    generalize ((w.alloc (.cells (payV ps) 28)).alloc (.cells #[.slice b lb cb] 32)).alloc (.cells #[.bool false] 4) = W0 at *
    refine (awake_calls _).mono ?_
    rintro e w1 ⟨rfl, b1⟩
    have M1 := M0.below b1 (Nat.le_refl _)
    have B1 := B0.trans (b1.mono B0.size)
    have c0 := M1.get (b := w.heap.size + 1) (v := .slice b lb cb) (t := 32) (by simp)
    go_wp2_with fail
    refine (awake_calls _).mono ?_
    rintro e w2 ⟨rfl, b2⟩
    have kr := (M1.below b2 (Nat.le_refl _)).bk (b := w.heap.size + 1 + 1) (v := .bool false) (t := 4) (by simp)
    have B2 := B1.trans (b2.mono B1.size)
    have c2 := kr.cell 0 _ rfl
    have f2 := kr.frozen 0
    have c3 := (kr.set 0 (.bool true)).cell 0 (.bool true) rfl
    clear c0 b1 b2 B0 B1 M0 M1 P0
    go_wp2
    refine bodyPost_ret (v := .bool true) (by simp [results, Try.results7, go_sem, c3]) rfl ?_
    exact ⟨rfl, B2.setCell (p := ⟨w.heap.size + 1 + 1, 0, none⟩) (by show w.heap.size ≤ w.heap.size + 1 + 1; omega) _⟩

/-! ### Parts without an end -/
structure LongP (i : Nat) (S : Ga) : Prop where
  more : i < 21 → S.k = false ∧ S.xs.length = 48 * i ∧ S.l = 0 ∧ S.f = 0
  full : i = 21 → S.k = true ∧ S.xs = [] ∧ S.l = 1
theorem LongP.next {S : Ga} {i : Nat} (h : LongP i S) (hi : i < 21) (ps : List UInt8) (hp : ps.length = 48) : LongP (i + 1) (S.take 0 ps false).1 ∧ (S.take 0 ps false).2 = ([], 0, if i = 20 then 6 else 2) := by
  obtain ⟨h1, h2, h3, h4⟩ := h.more hi
  have ht : S.tick 0 = S := Ga.tick_none (Ga.late_same h4)
  by_cases e : i = 20
  · have e2 : S.take 0 ps false = ({ (S.add 0 ps).lose with k := true }, ([], 0, 6)) := by unfold Ga.take; rw [ht, Ga.take0_long _ _ _ h1 (by omega)]
    rw [e2, if_pos e]
    exact ⟨⟨fun h => by omega, fun _ => ⟨rfl, rfl, by show S.l + 1 = 1; omega⟩⟩, rfl⟩
  · have e2 : S.take 0 ps false = (S.add 0 ps, ([], 0, 2)) := by unfold Ga.take; rw [ht, Ga.take0_more _ _ _ h1 (by omega)]
    rw [e2, if_neg e]
    exact ⟨⟨fun _ => ⟨h1, by show (S.xs ++ ps).length = _; rw [List.length_append]; omega, h3, by show (if S.xs.length = 0 then 0 else S.f) = 0; rw [h4]; split <;> rfl⟩, fun h => by omega⟩, rfl⟩
theorem skip_take {S : Ga} (h1 : S.k = true) (h2 : S.xs = []) (h3 : S.l = 1) (ps : List UInt8) (last : Bool) : (S.take 0 ps last).1.k = (!last) ∧ (S.take 0 ps last).1.xs = [] ∧ (S.take 0 ps last).1.l = 1 ∧ (S.take 0 ps last).2 = ([], 0, 2) := by
  have ht : S.tick 0 = S := Ga.tick_none (Ga.late_zero 0 (by rw [h2]; rfl))
  have e2 : S.take 0 ps last = ({ S with k := !last }, ([], 0, 2)) := by unfold Ga.take; rw [ht, Ga.take0_two _ _ _ h1]
  rw [e2]
  exact ⟨rfl, h2, h3, rfl⟩

/-! ### Of a nil gatherer there is nothing -/
theorem nil_parts (w : World) : Calls Try.prog 18 #[.pointer none] w fun e w' => e = .returned (.int .i64 0) ∧ w' = w := by
  go_enter Try.func18, Try.ntmps18
  go_wp2
  go_ret
  exact ⟨rfl, rfl⟩
theorem nil_lost (w : World) : Calls Try.prog 19 #[.pointer none] w fun e w' => e = .returned (.int .i64 0) ∧ w' = w := by
  go_enter Try.func19, Try.ntmps19
  go_wp2
  go_ret
  exact ⟨rfl, rfl⟩
set_option maxHeartbeats 1000000 in
theorem nil_tick (t : Int) (w : World) : Calls Try.prog 13 #[.pointer none, .int .i64 t] w fun e w' => e = .returned (.bool false) ∧ w' = w.drew := by
  have HP := nil_parts w.drew
  go_enter Try.func13, Try.ntmps13
  go_wp2_with fail
  refine wp_region_held_drew (S := (fun w' => w' = w.drew)) (by kernel_rfl) rfl (fun hHeld => ?_)
  refine wpAnyH_take (i := 0) (oi := ({ dst := some 5, op := Op.move (Operand.tmp 0), type := 24, pos := _, after := #[], guard := none } : Oper)) (v := ?_) rfl (by kernel_rfl) (by kernel_rfl) (by kernel_rfl) (fun _ _ _ h => h) (Or.inl ⟨by rfl, ?_⟩) hHeld ?_
  rotate_left
  · (intro w hS; go_simp; try with_reducible rfl)
  try simp only [Act.put, List.setIfInBounds_toArray, List.set_cons_zero, List.set_cons_succ]
  refine wpAnyH_ready (rs := [1]) (by kernel_rfl) (by simp) ?_
  refine AllReadyH.cons (o := ({ dst := some 6, op := Op.call { callee := Callee.value (Operand.func 18), args := #[Operand.tmp 5], argTypes := #[24] }, type := 3, pos := _, after := #[{ on := 0, ground := Ground.data }], guard := none } : Oper)) rfl (fun K hK => ?_) AllReadyH.nil
  refine step_call (HP) (enters_of Try.func18 (by kernel_rfl) rfl) _ _ rfl rfl rfl ?_
  rintro e w2 ⟨rfl, rfl⟩
  refine ⟨_, rfl, hK.out _ _ rfl (fun hHeld => ?_)⟩
  clear hK K
  try simp only [Act.put, List.setIfInBounds_toArray, List.set_cons_zero, List.set_cons_succ]
  refine wpAnyH_take (i := 2) (oi := ({ dst := some 7, op := Op.binOp BinOp.eql 3 (Operand.tmp 6) (Operand.const (Value.int IntKind.i64 0)) 3, type := 4, pos := _, after := #[{ on := 1, ground := Ground.data }], guard := none } : Oper)) (v := ?_) rfl (by kernel_rfl) (by kernel_rfl) (by kernel_rfl) (fun _ _ _ h => h) (Or.inl ⟨by rfl, ?_⟩) hHeld ?_
  rotate_left
  · (intro w hS; go_simp; try with_reducible rfl)
  try simp only [Act.put, List.setIfInBounds_toArray, List.set_cons_zero, List.set_cons_succ]
  refine wpAnyH_take (i := 3) (oi := ({ dst := some 8, op := Op.move (Operand.tmp 7), type := 4, pos := _, after := #[{ on := 2, ground := Ground.data }, { on := 1, ground := Ground.chain }], guard := none } : Oper)) (v := ?_) rfl (by kernel_rfl) (by kernel_rfl) (by kernel_rfl) (fun _ _ _ h => h) (Or.inl ⟨by rfl, ?_⟩) hHeld ?_
  rotate_left
  · (intro w hS; go_simp; try with_reducible rfl)
  try simp only [Act.put, List.setIfInBounds_toArray, List.set_cons_zero, List.set_cons_succ]
  refine wpAnyH_take (i := 4) (oi := ({ dst := some 9, op := Op.move (Operand.tmp 0), type := 24, pos := _, after := #[{ on := 3, ground := Ground.guard }], guard := some (3, false) } : Oper)) (v := undef) rfl (by kernel_rfl) (by kernel_rfl) (by kernel_rfl) (fun _ _ _ h => h) (Or.inr ⟨by rfl, rfl⟩) hHeld ?_
  try simp only [Act.put, List.setIfInBounds_toArray, List.set_cons_zero, List.set_cons_succ]
  refine wpAnyH_take (i := 5) (oi := ({ dst := some 10, op := Op.nilCheck (Operand.tmp 9), type := 0, pos := _, after := #[{ on := 4, ground := Ground.data }, { on := 3, ground := Ground.guard }], guard := some (3, false) } : Oper)) (v := undef) rfl (by kernel_rfl) (by kernel_rfl) (by kernel_rfl) (fun _ _ _ h => h) (Or.inr ⟨by rfl, rfl⟩) hHeld ?_
  try simp only [Act.put, List.setIfInBounds_toArray, List.set_cons_zero, List.set_cons_succ]
  refine wpAnyH_take (i := 6) (oi := ({ dst := some 11, op := Op.fieldAddr 58 (Operand.tmp 10) 2, type := 0, pos := _, after := #[{ on := 5, ground := Ground.data }, { on := 3, ground := Ground.guard }], guard := some (3, false) } : Oper)) (v := undef) rfl (by kernel_rfl) (by kernel_rfl) (by kernel_rfl) (fun _ _ _ h => h) (Or.inr ⟨by rfl, rfl⟩) hHeld ?_
  try simp only [Act.put, List.setIfInBounds_toArray, List.set_cons_zero, List.set_cons_succ]
  refine wpAnyH_take (i := 7) (oi := ({ dst := some 12, op := Op.load 3 (Operand.tmp 11), type := 3, pos := _, after := #[{ on := 6, ground := Ground.data }, { on := 3, ground := Ground.guard }], guard := some (3, false) } : Oper)) (v := undef) rfl (by kernel_rfl) (by kernel_rfl) (by kernel_rfl) (fun _ _ _ h => h) (Or.inr ⟨by rfl, rfl⟩) hHeld ?_
  try simp only [Act.put, List.setIfInBounds_toArray, List.set_cons_zero, List.set_cons_succ]
  refine wpAnyH_take (i := 8) (oi := ({ dst := some 13, op := Op.move (Operand.tmp 1), type := 3, pos := _, after := #[{ on := 3, ground := Ground.guard }], guard := some (3, false) } : Oper)) (v := undef) rfl (by kernel_rfl) (by kernel_rfl) (by kernel_rfl) (fun _ _ _ h => h) (Or.inr ⟨by rfl, rfl⟩) hHeld ?_
  try simp only [Act.put, List.setIfInBounds_toArray, List.set_cons_zero, List.set_cons_succ]
  refine wpAnyH_take (i := 9) (oi := ({ dst := some 14, op := Op.move (Operand.tmp 0), type := 24, pos := _, after := #[{ on := 3, ground := Ground.guard }], guard := some (3, false) } : Oper)) (v := undef) rfl (by kernel_rfl) (by kernel_rfl) (by kernel_rfl) (fun _ _ _ h => h) (Or.inr ⟨by rfl, rfl⟩) hHeld ?_
  try simp only [Act.put, List.setIfInBounds_toArray, List.set_cons_zero, List.set_cons_succ]
  refine wpAnyH_take (i := 10) (oi := ({ dst := some 15, op := Op.nilCheck (Operand.tmp 14), type := 0, pos := _, after := #[{ on := 9, ground := Ground.data }, { on := 3, ground := Ground.guard }], guard := some (3, false) } : Oper)) (v := undef) rfl (by kernel_rfl) (by kernel_rfl) (by kernel_rfl) (fun _ _ _ h => h) (Or.inr ⟨by rfl, rfl⟩) hHeld ?_
  try simp only [Act.put, List.setIfInBounds_toArray, List.set_cons_zero, List.set_cons_succ]
  refine wpAnyH_take (i := 11) (oi := ({ dst := some 16, op := Op.fieldAddr 58 (Operand.tmp 15) 0, type := 0, pos := _, after := #[{ on := 10, ground := Ground.data }, { on := 3, ground := Ground.guard }], guard := some (3, false) } : Oper)) (v := undef) rfl (by kernel_rfl) (by kernel_rfl) (by kernel_rfl) (fun _ _ _ h => h) (Or.inr ⟨by rfl, rfl⟩) hHeld ?_
  try simp only [Act.put, List.setIfInBounds_toArray, List.set_cons_zero, List.set_cons_succ]
  refine wpAnyH_take (i := 12) (oi := ({ dst := some 17, op := Op.load 3 (Operand.tmp 16), type := 3, pos := _, after := #[{ on := 11, ground := Ground.data }, { on := 3, ground := Ground.guard }], guard := some (3, false) } : Oper)) (v := undef) rfl (by kernel_rfl) (by kernel_rfl) (by kernel_rfl) (fun _ _ _ h => h) (Or.inr ⟨by rfl, rfl⟩) hHeld ?_
  try simp only [Act.put, List.setIfInBounds_toArray, List.set_cons_zero, List.set_cons_succ]
  refine wpAnyH_take (i := 13) (oi := ({ dst := some 18, op := Op.call { callee := Callee.value (Operand.func 23), args := #[Operand.tmp 12, Operand.tmp 13, Operand.tmp 17], argTypes := #[3, 3, 3] }, type := 4, pos := _, after := #[{ on := 7, ground := Ground.data }, { on := 8, ground := Ground.data }, { on := 12, ground := Ground.data }, { on := 3, ground := Ground.chain }, { on := 3, ground := Ground.guard }], guard := some (3, false) } : Oper)) (v := undef) rfl (by kernel_rfl) (by kernel_rfl) (by kernel_rfl) (fun _ _ _ h => h) (Or.inr ⟨by rfl, rfl⟩) hHeld ?_
  try simp only [Act.put, List.setIfInBounds_toArray, List.set_cons_zero, List.set_cons_succ]
  refine wpAnyH_take (i := 14) (oi := ({ dst := some 19, op := Op.unOp UnOp.not 4 (Operand.tmp 18), type := 4, pos := _, after := #[{ on := 13, ground := Ground.data }, { on := 3, ground := Ground.guard }], guard := some (3, false) } : Oper)) (v := undef) rfl (by kernel_rfl) (by kernel_rfl) (by kernel_rfl) (fun _ _ _ h => h) (Or.inr ⟨by rfl, rfl⟩) hHeld ?_
  try simp only [Act.put, List.setIfInBounds_toArray, List.set_cons_zero, List.set_cons_succ]
  refine wpAnyH_take (i := 15) (oi := ({ dst := some 20, op := Op.pick (Operand.tmp 8) (Operand.const (Value.bool true)) (Operand.tmp 19), type := 4, pos := _, after := #[{ on := 3, ground := Ground.data }, { on := 14, ground := Ground.data }], guard := none } : Oper)) (v := ?_) rfl (by kernel_rfl) (by kernel_rfl) (by kernel_rfl) (fun _ _ _ h => h) (Or.inl ⟨by rfl, ?_⟩) hHeld ?_
  rotate_left
  · (intro w hS; go_simp; try with_reducible rfl)
  try simp only [Act.put, List.setIfInBounds_toArray, List.set_cons_zero, List.set_cons_succ]
  refine wpAnyH_done (by kernel_rfl) ?_ _
  go_wp2
  go_ret
  exact ⟨rfl, rfl⟩
set_option maxHeartbeats 1000000 in
theorem nil_take (t : Int) (ps : List UInt8) (last : Bool) (w : World) : Calls Try.prog 15 #[.pointer none, .int .i64 t, .agg (payV ps), .bool last] w fun e w' => e = .returned (.tuple #[.slice none 0 0, .int .u8 0, .int .i64 2]) ∧ Below w.heap.size w w' := by
  have A1 : Below w.heap.size w (w.alloc (.cells (payV ps) 28)) := (Below.refl _ w).alloc (Nat.le_refl _) _
  go_enter Try.func15, Try.ntmps15
  go_wp2_with (first | (with_reducible show wpList _ _ _ (Oper.mk _ (Op.box 28 _) _ _ _ _ :: _) _ _; refine wpList_box rfl rfl rfl ?_; (try simp only [Act.put, List.setIfInBounds_toArray, List.set_cons_zero, List.set_cons_succ, World.size_alloc])) | fail)
  go_ret3
  exact ⟨rfl, A1⟩
end Go.Proofs.Ytfmicnjijcmjaaa
