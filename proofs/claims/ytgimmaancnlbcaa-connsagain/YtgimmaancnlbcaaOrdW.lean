/- Proved here: the walk of ConnsOrder. Conditions: as each theorem states them. -/
import Derived.Test.YtgimmaancnlbcaaOrdP
namespace Go.Proofs.Ytgimmaancnlbcaa
set_option linter.unusedSimpArgs false
set_option linter.unusedVariables false
open Go.RowKit Go.Shelf
attribute [local go_sem] Oper.semAt_some

theorem all_calls (v : Value) (w : World) (hv : v.oneCell' = true) (hc : v.cells = #[v]) : Calls Try.prog 25 #[v] w fun e w' => e = .returned (.func (.func 31) #[] #[.pointer (some ⟨w.heap.size, 0, none⟩)]) ∧ w' = w.alloc (.cells #[v] 26) :=
  callsIn_wide.1 (all_in 0 v w hv hc)

/-- An end that is no panic. -/
def calm (Q : Exit → Act → World → Prop) : Exit → Act → World → Prop
  | .ret, a, w => Q .ret a w
  | .normal, a, w => Q .normal a w
  | _, _, _ => False
theorem wp_calm {P : Program} {c : Code} {Q : Exit → Act → World → Prop} {a : Act} {w : World} (h : c.wp P (calm Q) a w) : c.wp P Q a w :=
  wp_mono h fun e a w h => by cases e <;> first | exact h | exact h.elim

set_option maxHeartbeats 1000000 in
theorem order_fin (TT : Array Value) (D : Nat) (Z w : World) (hT : TT[10]? = some (.pointer (some ⟨w.heap.size + 1 + 1 + 1 + 1, 0, none⟩))) (hRS : BK Z (w.heap.size + 1 + 1 + 1 + 1) #[.bool false] 4) (hd : Z.heap[D]? = some (.deferred (some []))) (hB : Below w.heap.size w Z) (hDn : w.heap.size + 5 ≤ D) :
    calm (bodyPostM Fence.wide 3 Try.prog Try.f5 (fun e w' => e = .returned (.bool true) ∧ Below w.heap.size w w')) .ret { tmps := TT, defers := [{ target := .collected D, args := #[] }] } (Z.setCell ⟨w.heap.size + 1 + 1 + 1 + 1, 0, none⟩ (.bool true)) := by
  have hd2 : (Z.setCell ⟨w.heap.size + 1 + 1 + 1 + 1, 0, none⟩ (.bool true)).heap[D]? = some (.deferred (some [])) := (Below.heap_setCell _ _ _ _ (by show D ≠ w.heap.size + 1 + 1 + 1 + 1; omega)).trans hd
  have K2 := hRS.set 0 (.bool true)
  have hB2 : Below w.heap.size w (Z.setCell ⟨w.heap.size + 1 + 1 + 1 + 1, 0, none⟩ (.bool true)) := hB.setCell (p := ⟨w.heap.size + 1 + 1 + 1 + 1, 0, none⟩) (by show w.heap.size ≤ w.heap.size + 1 + 1 + 1 + 1; omega) _
  refine ⟨by simp, .inl ⟨D, _, rfl, run_takeDeferred hd2, ?_⟩⟩
  have K3 : BK ((Z.setCell ⟨w.heap.size + 1 + 1 + 1 + 1, 0, none⟩ (.bool true)).putObj D (.deferred none)) (w.heap.size + 1 + 1 + 1 + 1) #[.bool true] 4 := (World.putObj_heap_other (by omega)).trans K2
  have c3 := K3.cell 0 _ rfl
  refine ⟨.bool true, ?_, rfl, hB2.trans ⟨rfl, rfl, rfl, by simp, fun k hk => World.putObj_heap_other (by omega)⟩⟩
  simp [results, Try.results5, go_sem, hT, c3]

set_option maxHeartbeats 8000000 in
set_option maxRecDepth 100000 in
theorem order_in (s : Option Addr) (len cap : Nat) (M : List En) (a b c : Ky) (st : Int) (hs0 : 0 ≤ st) (hs1 : st < 256) (hlen : len ≤ 200) (w : World) (hL : IsE w.heap.size w s len M) :
    CallsIn Fence.wide 3 Try.prog 5 #[.slice s len cap, keyV a, keyV b, keyV c, .int .u8 st] w fun e w' => e = .returned (.bool true) ∧ Below w.heap.size w w' := by
  have q1 : decide (200 < (len : Int)) = false := by simp; omega
  have R64 : roomN 64 = 64 := by decide
  refine callsIn_of_wp_marks Try.func5 rfl trivial ?_ rfl
  refine wpIn_wide.2 (wp_calm ?_)
  simp only [Try.ntmps5, List.size_toArray, List.length_cons, List.length_nil, Nat.reduceAdd, Nat.reduceSub, Array.replicate_succ, Array.replicate_zero, List.push_toArray, List.append_toArray, List.nil_append, List.cons_append]
  have H0 := o5_new a b c st w
  have B0 := below5 (w := w) (.cells #[.int .i64 a.1, .int .i64 a.2.1, .int .i64 a.2.2] 24) (.cells #[.int .i64 b.1, .int .i64 b.2.1, .int .i64 b.2.2] 24) (.cells #[.int .i64 c.1, .int .i64 c.2.1, .int .i64 c.2.2] 24) (.cells #[.int .u8 st] 5) (.cells #[.bool false] 4)
  go_wp2_with fail
  refine (awake_calls _).mono ?_
  rintro x w1 ⟨rfl, b1⟩
  have H1 := H0.below b1 (Nat.le_refl _)
  have B1 := B0.trans (b1.mono B0.size)
  have hn1 : w.heap.size + 5 ≤ w1.heap.size := by have := H1.hrs.lt; omega
  clear H0 B0 b1
  go_wp2_with fail
  refine (new_calls 64 _).mono ?_
  rintro x w2 ⟨rfl, T2, b2⟩
  rw [R64] at T2
  have H2 := H1.below b2 (Nat.le_refl _)
  have B2 := B1.trans (b2.mono B1.size)
  have hr2 := T2.lt
  clear H1 B1 b2 R64
  have hrw : w.heap.size ≤ w1.heap.size := by omega
  generalize w1.heap.size = r at *
  have K3 := bk_new w2 #[.pointer (some ⟨r, 0, none⟩)] 26
  have b3 := below_box w2 (.cells #[.pointer (some ⟨r, 0, none⟩)] 26)
  have H3 := H2.below b3 (Nat.le_refl _)
  have T3 := T2.below b3 T2.lt
  have B3 := B2.trans (b3.mono B2.size)
  go_wp2
  generalize w2.alloc (.cells #[.pointer (some ⟨r, 0, none⟩)] 26) = w3 at *
  generalize w2.heap.size = bt at *
  clear H2 T2 B2 b3
  go_loopw [28] (fun iv wr => ∃ (i : Nat), i ≤ len ∧ iv = .int .i64 i ∧ TB wr r (putsL 64 [] (M.take i)) 64 ∧ BK wr bt #[.pointer (some ⟨r, 0, none⟩)] 26 ∧ O5 w.heap.size a b c st wr ∧ Below w.heap.size w wr) (fun iv _ => len - (intOf iv).toNat)
  case atStart => exact ⟨0, Nat.zero_le _, rfl, T3, K3, H3, B3⟩
  case round =>
    obtain ⟨i, hi, rfl, T4, K4, H4, B4⟩ := hrel
    clear T3 K3 H3 B3
    by_cases hlt : i < len
    · obtain ⟨g, off, x, rfl, hg, hx, hc⟩ := hL.at hlt
      obtain ⟨c0, c1, c2, c3⟩ := hc _ B4
      have HP : Hid (putL (putsL 64 [] (M.take i)) 64 (x.1, x.2) = putsL 64 [] (M.take (i + 1))) := (putsL_take hx).symm
      have k4 := K4.cell 0 _ rfl
      clear hx
      go_wp2
      refine wp_region_held_drew (S := (fun w' => w'.cell? ⟨bt, 0, none⟩ = some (.pointer (some ⟨r, 0, none⟩)) ∧ w'.cell? ⟨g, off + i * 4, none⟩ = some (.int .i64 x.1.1) ∧ w'.cell? ⟨g, off + i * 4 + 1, none⟩ = some (.int .i64 x.1.2.1) ∧ w'.cell? ⟨g, off + i * 4 + 1 + 1, none⟩ = some (.int .i64 x.1.2.2) ∧ w'.cell? ⟨g, off + i * 4 + 1 + 1 + 1, none⟩ = some (.int .i64 x.2))) (by kernel_rfl) ⟨k4, c0, c1, c2, c3⟩ (fun hHeld => ?_)
      refine wpAnyH_take (i := 0) (oi := ({ dst := some 31, op := Op.load 26 (Operand.tmp 11), type := 26, pos := _, after := #[], guard := none } : Oper)) (v := ?_) rfl (by kernel_rfl) (by kernel_rfl) (by kernel_rfl) (fun _ _ _ h => h) (Or.inl ⟨by rfl, ?_⟩) hHeld ?_
      rotate_left
      · (intro w hS; go_simp; try with_reducible rfl)
      try simp only [Act.put, List.setIfInBounds_toArray, List.set_cons_zero, List.set_cons_succ]
      refine wpAnyH_take (i := 1) (oi := ({ dst := some 32, op := Op.move (Operand.tmp 0), type := 22, pos := _, after := #[], guard := none } : Oper)) (v := ?_) rfl (by kernel_rfl) (by kernel_rfl) (by kernel_rfl) (fun _ _ _ h => h) (Or.inl ⟨by rfl, ?_⟩) hHeld ?_
      rotate_left
      · (intro w hS; go_simp; try with_reducible rfl)
      try simp only [Act.put, List.setIfInBounds_toArray, List.set_cons_zero, List.set_cons_succ]
      refine wpAnyH_take (i := 2) (oi := ({ dst := some 33, op := Op.move (Operand.tmp 12), type := 3, pos := _, after := #[], guard := none } : Oper)) (v := ?_) rfl (by kernel_rfl) (by kernel_rfl) (by kernel_rfl) (fun _ _ _ h => h) (Or.inl ⟨by rfl, ?_⟩) hHeld ?_
      rotate_left
      · (intro w hS; go_simp; try with_reducible rfl)
      try simp only [Act.put, List.setIfInBounds_toArray, List.set_cons_zero, List.set_cons_succ]
      refine wpAnyH_take (i := 3) (oi := ({ dst := some 34, op := Op.indexAddr 22 (Operand.tmp 32) (Operand.tmp 33), type := 0, pos := _, after := #[{ on := 1, ground := Ground.data }, { on := 2, ground := Ground.data }], guard := none } : Oper)) (v := ?_) rfl (by kernel_rfl) (by kernel_rfl) (by kernel_rfl) (fun _ _ _ h => h) (Or.inl ⟨by rfl, ?_⟩) hHeld ?_
      rotate_left
      · (intro w hS; go_simp; try with_reducible rfl)
      try simp only [Act.put, List.setIfInBounds_toArray, List.set_cons_zero, List.set_cons_succ]
      refine wpAnyH_take (i := 4) (oi := ({ dst := some 35, op := Op.fieldAddr 31 (Operand.tmp 34) 0, type := 0, pos := _, after := #[{ on := 3, ground := Ground.data }], guard := none } : Oper)) (v := ?_) rfl (by kernel_rfl) (by kernel_rfl) (by kernel_rfl) (fun _ _ _ h => h) (Or.inl ⟨by rfl, ?_⟩) hHeld ?_
      rotate_left
      · (intro w hS; go_simp; try with_reducible rfl)
      try simp only [Act.put, List.setIfInBounds_toArray, List.set_cons_zero, List.set_cons_succ]
      refine wpAnyH_take (i := 5) (oi := ({ dst := some 36, op := Op.load 24 (Operand.tmp 35), type := 24, pos := _, after := #[{ on := 4, ground := Ground.data }], guard := none } : Oper)) (v := ?_) rfl (by kernel_rfl) (by kernel_rfl) (by kernel_rfl) (fun _ _ _ h => h) (Or.inl ⟨by rfl, ?_⟩) hHeld ?_
      rotate_left
      · (intro w hS; go_simp; try with_reducible rfl)
      try simp only [Act.put, List.setIfInBounds_toArray, List.set_cons_zero, List.set_cons_succ]
      refine wpAnyH_take (i := 6) (oi := ({ dst := some 37, op := Op.move (Operand.tmp 0), type := 22, pos := _, after := #[], guard := none } : Oper)) (v := ?_) rfl (by kernel_rfl) (by kernel_rfl) (by kernel_rfl) (fun _ _ _ h => h) (Or.inl ⟨by rfl, ?_⟩) hHeld ?_
      rotate_left
      · (intro w hS; go_simp; try with_reducible rfl)
      try simp only [Act.put, List.setIfInBounds_toArray, List.set_cons_zero, List.set_cons_succ]
      refine wpAnyH_take (i := 7) (oi := ({ dst := some 38, op := Op.move (Operand.tmp 12), type := 3, pos := _, after := #[], guard := none } : Oper)) (v := ?_) rfl (by kernel_rfl) (by kernel_rfl) (by kernel_rfl) (fun _ _ _ h => h) (Or.inl ⟨by rfl, ?_⟩) hHeld ?_
      rotate_left
      · (intro w hS; go_simp; try with_reducible rfl)
      try simp only [Act.put, List.setIfInBounds_toArray, List.set_cons_zero, List.set_cons_succ]
      refine wpAnyH_take (i := 8) (oi := ({ dst := some 39, op := Op.indexAddr 22 (Operand.tmp 37) (Operand.tmp 38), type := 0, pos := _, after := #[{ on := 6, ground := Ground.data }, { on := 7, ground := Ground.data }], guard := none } : Oper)) (v := ?_) rfl (by kernel_rfl) (by kernel_rfl) (by kernel_rfl) (fun _ _ _ h => h) (Or.inl ⟨by rfl, ?_⟩) hHeld ?_
      rotate_left
      · (intro w hS; go_simp; try with_reducible rfl)
      try simp only [Act.put, List.setIfInBounds_toArray, List.set_cons_zero, List.set_cons_succ]
      refine wpAnyH_take (i := 9) (oi := ({ dst := some 40, op := Op.fieldAddr 31 (Operand.tmp 39) 1, type := 0, pos := _, after := #[{ on := 8, ground := Ground.data }], guard := none } : Oper)) (v := ?_) rfl (by kernel_rfl) (by kernel_rfl) (by kernel_rfl) (fun _ _ _ h => h) (Or.inl ⟨by rfl, ?_⟩) hHeld ?_
      rotate_left
      · (intro w hS; go_simp; try with_reducible rfl)
      try simp only [Act.put, List.setIfInBounds_toArray, List.set_cons_zero, List.set_cons_succ]
      refine wpAnyH_take (i := 10) (oi := ({ dst := some 41, op := Op.load 3 (Operand.tmp 40), type := 3, pos := _, after := #[{ on := 9, ground := Ground.data }], guard := none } : Oper)) (v := ?_) rfl (by kernel_rfl) (by kernel_rfl) (by kernel_rfl) (fun _ _ _ h => h) (Or.inl ⟨by rfl, ?_⟩) hHeld ?_
      rotate_left
      · (intro w hS; go_simp; try with_reducible rfl)
      try simp only [Act.put, List.setIfInBounds_toArray, List.set_cons_zero, List.set_cons_succ]
      refine wpAnyH_ready (rs := [11]) (by kernel_rfl) (by simp) ?_
      refine AllReadyH.cons (o := ({ dst := some 42, op := Op.call { callee := Callee.value (Operand.func 12), args := #[Operand.tmp 31, Operand.tmp 36, Operand.tmp 41], argTypes := #[26, 24, 3] }, type := 32, pos := _, after := #[{ on := 0, ground := Ground.data }, { on := 5, ground := Ground.data }, { on := 10, ground := Ground.data }], guard := none } : Oper)) rfl (fun K hK => ?_) AllReadyH.nil
      refine step_call (put_calls T4.drew x.1 x.2) (enters_of Try.func12 (by kernel_rfl) rfl) _ _ rfl rfl rfl ?_
      rintro e w5 ⟨rfl, T5, q5⟩
      rw [HP.out] at T5
      have B5 := But.own B4.drew hrw q5 (Nat.le_refl _)
      have K5 := BK.but (show BK wr.drew _ _ _ from K4) q5 K4.lt (by omega)
      have H5 := O5.but (W := wr.drew) ⟨H4.ka, H4.kb, H4.kc, H4.hst, H4.hrs⟩ q5 (Nat.le_refl _) hn1
      refine ⟨_, rfl, hK.out _ _ ⟨K5.cell 0 _ rfl, hc _ B5⟩ (fun hHeld => ?_)⟩
      clear hK K
      try simp only [Act.put, List.setIfInBounds_toArray, List.set_cons_zero, List.set_cons_succ]
      refine wpAnyH_done (by kernel_rfl) ?_ _
      skip
      clear T4 K4 H4 B4 q5 c0 c1 c2 c3 k4
      go_wp2
      go_roundw
      case rel => exact ⟨i + 1, by omega, by go_num, T5, K5, H5, B5⟩
      case measure => simp [intOf]; omega
    · obtain rfl : i = len := by omega
      generalize putsL 64 [] (M.take i) = L at *
      clear hL
      have k4 := K4.cell 0 _ rfl
      go_wp2_with fail
      refine (len_calls T4).mono ?_
      rintro e w5 ⟨rfl, e5⟩
      rw [e5]
      clear e5
      have b5 := below_box wr (.cells #[.int .i64 0] 3)
      have N5 := bk_new wr #[.int .i64 0] 3
      have b6 := below_box (wr.alloc (.cells #[.int .i64 0] 3)) (.cells #[.int .i64 0, .int .i64 0, .int .i64 0] 24)
      have L6 := bk_new (wr.alloc (.cells #[.int .i64 0] 3)) #[.int .i64 0, .int .i64 0, .int .i64 0] 24
      have T6 := (T4.below b5 T4.lt).below b6 (T4.below b5 T4.lt).lt
      have K6 := (K4.below b5 K4.lt).below b6 (K4.below b5 K4.lt).lt
      have H6 := (H4.below b5 (Nat.le_refl _)).below b6 (Nat.le_refl _)
      have N6 := N5.below b6 N5.lt
      have B6 := (B4.trans (b5.mono B4.size)).trans (b6.mono (B4.trans (b5.mono B4.size)).size)
      have hbt : bt < wr.heap.size := K4.lt
      rw [World.size_alloc] at L6
      have I6 : OI w.heap.size r bt wr.heap.size (wr.heap.size + 1) a b c st ((wr.alloc (.cells #[.int .i64 0] 3)).alloc (.cells #[.int .i64 0, .int .i64 0, .int .i64 0] 24)) L 0 (0, 0, 0) :=
        ⟨T6, K6, N6, L6, H6.ka, H6.kb, H6.kc, H6.hst, H6.hrs, by omega⟩
      have k6 := K6.cell 0 _ rfl
      have b7 := below_box ((wr.alloc (.cells #[.int .i64 0] 3)).alloc (.cells #[.int .i64 0, .int .i64 0, .int .i64 0] 24)) (.cells #[.pointer (some ⟨r, 0, none⟩)] 26)
      have I7 := I6.below b7 (Nat.le_refl _)
      have B7 := B6.trans (b7.mono B6.size)
      have P7 := bk_new ((wr.alloc (.cells #[.int .i64 0] 3)).alloc (.cells #[.int .i64 0, .int .i64 0, .int .i64 0] 24)) #[.pointer (some ⟨r, 0, none⟩)] 26
      have hs7 : (((wr.alloc (.cells #[.int .i64 0] 3)).alloc (.cells #[.int .i64 0, .int .i64 0, .int .i64 0] 24)).alloc (.cells #[.pointer (some ⟨r, 0, none⟩)] 26)).heap.size = wr.heap.size + 3 := by simp
      simp only [World.size_alloc] at P7
      clear b5 b6 b7 N5 L6 T6 K6 H6 N6 B6 T4 K4 H4 B4 I6
      go_wp2_with fail
      refine (all_calls _ _ rfl rfl).mono ?_
      rintro e w8 ⟨rfl, e8⟩
      rw [e8]
      clear e8
      generalize ((wr.alloc (.cells #[.int .i64 0] 3)).alloc (.cells #[.int .i64 0, .int .i64 0, .int .i64 0] 24)).alloc (.cells #[.pointer (some ⟨r, 0, none⟩)] 26) = W0 at *
      go_wp2
      rename_i KK hKK
      have hsrt := I7.tab.ok.srt
      have hsL : L.length ≤ 64 := I7.tab.len
      have TAIL : ∀ (D : Nat) (W : World) (T : List En) (nn : Int) (la : Ky), OI w.heap.size r bt wr.heap.size (wr.heap.size + 1) a b c st W T nn la → nn = min (L.length : Int) (st + 1) → (T.length : Int) = L.length - nn → Below w.heap.size w W → wr.heap.size + 3 ≤ W.heap.size → wr.heap.size + 3 ≤ D → W.heap[D]? = some (.deferred (some [])) →
          KK { tmps := #[.slice s i cap, keyV a, keyV b, keyV c, .int .u8 st, undef, .pointer (some ⟨w.heap.size, 0, none⟩), .pointer (some ⟨w.heap.size + 1, 0, none⟩), .pointer (some ⟨w.heap.size + 1 + 1, 0, none⟩), .pointer (some ⟨w.heap.size + 1 + 1 + 1, 0, none⟩), .pointer (some ⟨w.heap.size + 1 + 1 + 1 + 1, 0, none⟩), .pointer (some ⟨bt, 0, none⟩), u12, .int .i64 (L.length : Int), .pointer (some ⟨wr.heap.size, 0, none⟩), .pointer (some ⟨wr.heap.size + 1, 0, none⟩), undef, .bool true, .bool false, .bool false, .slice s i cap, .int .i64 (i : Int), .bool false, .bool false, undef, .pointer (some ⟨r, 0, none⟩), .slice s i cap, .int .i64 (i : Int), .int .i64 (i : Int), .bool false, u30, u31, u32, u33, u34, u35, u36, u37, u38, u39, u40, u41, u42, u43, .pointer (some ⟨r, 0, none⟩), .int .i64 (L.length : Int), .pointer (some ⟨r, 0, none⟩), .func (.func 31) #[] #[.pointer (some ⟨wr.heap.size + 1 + 1, 0, none⟩)], undef, undef, undef, undef, undef, undef, undef, undef, undef, undef, undef, undef, undef, undef, undef, undef, undef, undef, undef, undef, undef, undef, undef, undef, undef, undef, undef, undef, undef, undef, undef, undef, undef, undef, undef, undef, undef, undef, undef, undef, undef, undef, undef, undef, undef, undef, undef, undef, undef, undef, undef, undef, undef, undef, undef, undef, undef, undef, undef, undef, undef, undef, undef, undef, undef, undef, undef, undef, undef, undef, undef, undef], defers := [{ target := .collected D, args := #[] }] } W := by
        intro D W T nn la I8 hnn hT8 B8 hs8 hD8 hd8
        have hDlt : D < W.heap.size := (Array.getElem?_eq_some_iff.1 hd8).1
        have k8 := I8.hbt.cell 0 _ rfl
        have n8 := I8.hbn.cell 0 _ rfl
        have s8 := I8.hst.cell 0 _ rfl
        have hmin : (if st + 1 < (L.length : Int) then st + 1 else (L.length : Int)) = nn := by rw [hnn]; split <;> omega
        have hw7 : IntKind.i64.wrap st = st := by rw [IntKind.wrap_i64]; omega
        have hw8 : IntKind.i64.wrap (st + 1) = st + 1 := by rw [IntKind.wrap_i64]; omega
        have hw9 : IntKind.i64.wrap ((L.length : Int) - nn) = (L.length : Int) - nn := by rw [IntKind.wrap_i64]; omega
        have hne : (nn != nn) = false := by simp
        have hT8' : Hid ((T.length : Int) = (L.length : Int) - nn) := hT8
        have hne2 : ((L.length : Int) - nn != (L.length : Int) - nn) = false := by simp
        clear hnn hT8 I7 B7 P7 hsrt
        go_wp2
        refine wp_region_held_drew (S := (fun w' => w'.cell? ⟨bt, 0, none⟩ = some (.pointer (some ⟨r, 0, none⟩)) ∧ w'.cell? ⟨wr.heap.size, 0, none⟩ = some (.int .i64 nn) ∧ w'.cell? ⟨w.heap.size + 1 + 1 + 1, 0, none⟩ = some (.int .u8 st))) (by kernel_rfl) ⟨k8, n8, s8⟩ (fun hHeld => ?_)
        refine wpAnyH_take (i := 0) (oi := ({ dst := some 68, op := Op.load 3 (Operand.tmp 14), type := 3, pos := _, after := #[], guard := none } : Oper)) (v := ?_) rfl (by kernel_rfl) (by kernel_rfl) (by kernel_rfl) (fun _ _ _ h => h) (Or.inl ⟨by rfl, ?_⟩) hHeld ?_
        rotate_left
        · (intro w hS; go_simp; try with_reducible rfl)
        try simp only [Act.put, List.setIfInBounds_toArray, List.set_cons_zero, List.set_cons_succ]
        refine wpAnyH_take (i := 1) (oi := ({ dst := some 69, op := Op.move (Operand.tmp 13), type := 3, pos := _, after := #[], guard := none } : Oper)) (v := ?_) rfl (by kernel_rfl) (by kernel_rfl) (by kernel_rfl) (fun _ _ _ h => h) (Or.inl ⟨by rfl, ?_⟩) hHeld ?_
        rotate_left
        · (intro w hS; go_simp; try with_reducible rfl)
        try simp only [Act.put, List.setIfInBounds_toArray, List.set_cons_zero, List.set_cons_succ]
        refine wpAnyH_take (i := 2) (oi := ({ dst := some 70, op := Op.load 5 (Operand.tmp 9), type := 5, pos := _, after := #[], guard := none } : Oper)) (v := ?_) rfl (by kernel_rfl) (by kernel_rfl) (by kernel_rfl) (fun _ _ _ h => h) (Or.inl ⟨by rfl, ?_⟩) hHeld ?_
        rotate_left
        · (intro w hS; go_simp; try with_reducible rfl)
        try simp only [Act.put, List.setIfInBounds_toArray, List.set_cons_zero, List.set_cons_succ]
        refine wpAnyH_take (i := 3) (oi := ({ dst := some 71, op := Op.convert 5 3 (Operand.tmp 70), type := 3, pos := _, after := #[{ on := 2, ground := Ground.data }], guard := none } : Oper)) (v := ?_) rfl (by kernel_rfl) (by kernel_rfl) (by kernel_rfl) (fun _ _ _ h => h) (Or.inl ⟨by rfl, ?_⟩) hHeld ?_
        rotate_left
        · (intro w hS; go_simp; try with_reducible rfl)
        try simp only [Act.put, List.setIfInBounds_toArray, List.set_cons_zero, List.set_cons_succ]
        try rw [hw7]
        refine wpAnyH_take (i := 4) (oi := ({ dst := some 72, op := Op.binOp BinOp.add 3 (Operand.tmp 71) (Operand.const (Value.int IntKind.i64 1)) 3, type := 3, pos := _, after := #[{ on := 3, ground := Ground.data }], guard := none } : Oper)) (v := ?_) rfl (by kernel_rfl) (by kernel_rfl) (by kernel_rfl) (fun _ _ _ h => h) (Or.inl ⟨by rfl, ?_⟩) hHeld ?_
        rotate_left
        · (intro w hS; go_simp; try with_reducible rfl)
        try simp only [Act.put, List.setIfInBounds_toArray, List.set_cons_zero, List.set_cons_succ]
        try rw [hw8]
        refine wpAnyH_take (i := 5) (oi := ({ dst := some 73, op := Op.call { callee := Callee.builtin Builtin.min, args := #[Operand.tmp 69, Operand.tmp 72], argTypes := #[3, 3] }, type := 3, pos := _, after := #[{ on := 1, ground := Ground.data }, { on := 4, ground := Ground.data }], guard := none } : Oper)) (v := ?_) rfl (by kernel_rfl) (by kernel_rfl) (by kernel_rfl) (fun _ _ _ h => h) (Or.inl ⟨by rfl, ?_⟩) hHeld ?_
        rotate_left
        · (intro w hS; go_simp; try with_reducible rfl)
        try simp only [Act.put, List.setIfInBounds_toArray, List.set_cons_zero, List.set_cons_succ]
        try rw [hmin]
        refine wpAnyH_take (i := 6) (oi := ({ dst := some 74, op := Op.binOp BinOp.neq 3 (Operand.tmp 68) (Operand.tmp 73) 3, type := 4, pos := _, after := #[{ on := 0, ground := Ground.data }, { on := 5, ground := Ground.data }], guard := none } : Oper)) (v := ?_) rfl (by kernel_rfl) (by kernel_rfl) (by kernel_rfl) (fun _ _ _ h => h) (Or.inl ⟨by rfl, ?_⟩) hHeld ?_
        rotate_left
        · (intro w hS; go_simp; try with_reducible rfl)
        try simp only [Act.put, List.setIfInBounds_toArray, List.set_cons_zero, List.set_cons_succ]
        try rw [hne]
        refine wpAnyH_take (i := 7) (oi := ({ dst := some 75, op := Op.move (Operand.tmp 74), type := 4, pos := _, after := #[{ on := 6, ground := Ground.data }], guard := none } : Oper)) (v := ?_) rfl (by kernel_rfl) (by kernel_rfl) (by kernel_rfl) (fun _ _ _ h => h) (Or.inl ⟨by rfl, ?_⟩) hHeld ?_
        rotate_left
        · (intro w hS; go_simp; try with_reducible rfl)
        try simp only [Act.put, List.setIfInBounds_toArray, List.set_cons_zero, List.set_cons_succ]
        refine wpAnyH_take (i := 8) (oi := ({ dst := some 76, op := Op.load 26 (Operand.tmp 11), type := 26, pos := _, after := #[{ on := 7, ground := Ground.guard }], guard := some (7, false) } : Oper)) (v := ?_) rfl (by kernel_rfl) (by kernel_rfl) (by kernel_rfl) (fun _ _ _ h => h) (Or.inl ⟨by rfl, ?_⟩) hHeld ?_
        rotate_left
        · (intro w hS; go_simp; try with_reducible rfl)
        try simp only [Act.put, List.setIfInBounds_toArray, List.set_cons_zero, List.set_cons_succ]
        refine wpAnyH_take (i := 10) (oi := ({ dst := some 78, op := Op.move (Operand.tmp 13), type := 3, pos := _, after := #[{ on := 7, ground := Ground.guard }], guard := some (7, false) } : Oper)) (v := ?_) rfl (by kernel_rfl) (by kernel_rfl) (by kernel_rfl) (fun _ _ _ h => h) (Or.inl ⟨by rfl, ?_⟩) hHeld ?_
        rotate_left
        · (intro w hS; go_simp; try with_reducible rfl)
        try simp only [Act.put, List.setIfInBounds_toArray, List.set_cons_zero, List.set_cons_succ]
        refine wpAnyH_take (i := 11) (oi := ({ dst := some 79, op := Op.load 3 (Operand.tmp 14), type := 3, pos := _, after := #[{ on := 7, ground := Ground.guard }], guard := some (7, false) } : Oper)) (v := ?_) rfl (by kernel_rfl) (by kernel_rfl) (by kernel_rfl) (fun _ _ _ h => h) (Or.inl ⟨by rfl, ?_⟩) hHeld ?_
        rotate_left
        · (intro w hS; go_simp; try with_reducible rfl)
        try simp only [Act.put, List.setIfInBounds_toArray, List.set_cons_zero, List.set_cons_succ]
        refine wpAnyH_take (i := 12) (oi := ({ dst := some 80, op := Op.binOp BinOp.sub 3 (Operand.tmp 78) (Operand.tmp 79) 3, type := 3, pos := _, after := #[{ on := 10, ground := Ground.data }, { on := 11, ground := Ground.data }, { on := 7, ground := Ground.guard }], guard := some (7, false) } : Oper)) (v := ?_) rfl (by kernel_rfl) (by kernel_rfl) (by kernel_rfl) (fun _ _ _ h => h) (Or.inl ⟨by rfl, ?_⟩) hHeld ?_
        rotate_left
        · (intro w hS; go_simp; try with_reducible rfl)
        try simp only [Act.put, List.setIfInBounds_toArray, List.set_cons_zero, List.set_cons_succ]
        try rw [hw9]
        refine wpAnyH_ready (rs := [9]) (by kernel_rfl) (by simp) ?_
        refine AllReadyH.cons (o := ({ dst := some 77, op := Op.call { callee := Callee.value (Operand.func 18), args := #[Operand.tmp 76], argTypes := #[26] }, type := 3, pos := _, after := #[{ on := 8, ground := Ground.data }, { on := 7, ground := Ground.chain }, { on := 7, ground := Ground.guard }], guard := some (7, false) } : Oper)) rfl (fun K hK => ?_) AllReadyH.nil
        refine step_call (len_calls I8.tab.drew) (enters_of Try.func18 (by kernel_rfl) rfl) _ _ rfl rfl rfl ?_
        rintro e w9 ⟨rfl, e9⟩
        rw [e9, hT8'.out]
        clear e9
        refine ⟨_, rfl, hK.out _ _ ⟨k8, n8, s8⟩ (fun hHeld => ?_)⟩
        clear hK K
        try simp only [Act.put, List.setIfInBounds_toArray, List.set_cons_zero, List.set_cons_succ]
        refine wpAnyH_take (i := 13) (oi := ({ dst := some 81, op := Op.binOp BinOp.neq 3 (Operand.tmp 77) (Operand.tmp 80) 3, type := 4, pos := _, after := #[{ on := 9, ground := Ground.data }, { on := 12, ground := Ground.data }, { on := 7, ground := Ground.guard }], guard := some (7, false) } : Oper)) (v := ?_) rfl (by kernel_rfl) (by kernel_rfl) (by kernel_rfl) (fun _ _ _ h => h) (Or.inl ⟨by rfl, ?_⟩) hHeld ?_
        rotate_left
        · (intro w hS; go_simp; try with_reducible rfl)
        try simp only [Act.put, List.setIfInBounds_toArray, List.set_cons_zero, List.set_cons_succ]
        try rw [hne2]
        refine wpAnyH_take (i := 14) (oi := ({ dst := some 82, op := Op.pick (Operand.tmp 75) (Operand.const (Value.bool true)) (Operand.tmp 81), type := 4, pos := _, after := #[{ on := 7, ground := Ground.data }, { on := 13, ground := Ground.data }], guard := none } : Oper)) (v := ?_) rfl (by kernel_rfl) (by kernel_rfl) (by kernel_rfl) (fun _ _ _ h => h) (Or.inl ⟨by rfl, ?_⟩) hHeld ?_
        rotate_left
        · (intro w hS; go_simp; try with_reducible rfl)
        try simp only [Act.put, List.setIfInBounds_toArray, List.set_cons_zero, List.set_cons_succ]
        refine wpAnyH_done (by kernel_rfl) ?_ _
        skip
        have I9 : OI w.heap.size r bt wr.heap.size (wr.heap.size + 1) a b c st W.drew T nn la := I8.below (Below.refl W.heap.size W).drew (Nat.le_refl _)
        have B9 := B8.drew
        have hd9 : W.drew.heap[D]? = some (.deferred (some [])) := hd8
        have hDlt9 : D < W.drew.heap.size := hDlt
        have hs9 : wr.heap.size + 3 ≤ W.drew.heap.size := hs8
        generalize W.drew = V at *
        clear I8 B8 k8 n8 s8 hmin hw8 hw9 hne hne2 hT8' hd8 hs8 hDlt
        have key : ∀ X, Below V.heap.size V X → (X.cell? ⟨w.heap.size, 0, none⟩ = some (.int .i64 a.1) ∧ X.cell? ⟨w.heap.size, 1, none⟩ = some (.int .i64 a.2.1) ∧ X.cell? ⟨w.heap.size, 1 + 1, none⟩ = some (.int .i64 a.2.2)) ∧
            (X.cell? ⟨w.heap.size + 1, 0, none⟩ = some (.int .i64 b.1) ∧ X.cell? ⟨w.heap.size + 1, 1, none⟩ = some (.int .i64 b.2.1) ∧ X.cell? ⟨w.heap.size + 1, 1 + 1, none⟩ = some (.int .i64 b.2.2)) ∧
            (X.cell? ⟨w.heap.size + 1 + 1, 0, none⟩ = some (.int .i64 c.1) ∧ X.cell? ⟨w.heap.size + 1 + 1, 1, none⟩ = some (.int .i64 c.2.1) ∧ X.cell? ⟨w.heap.size + 1 + 1, 1 + 1, none⟩ = some (.int .i64 c.2.2)) := fun X hX => by
          have I := I9.below hX (Nat.le_refl _)
          exact ⟨⟨I.ka.cell 0 _ rfl, I.ka.cell 1 _ rfl, I.ka.cell 2 _ rfl⟩, ⟨I.kb.cell 0 _ rfl, I.kb.cell 1 _ rfl, I.kb.cell 2 _ rfl⟩, I.kc.cell 0 _ rfl, I.kc.cell 1 _ rfl, I.kc.cell 2 _ rfl⟩
        go_wp2
        have Z0 : Below V.heap.size V V.drew := (Below.refl V.heap.size V).drew
        -- THREE ways
        rcases bef_tri a b with hab | hab | hab
        · have hab1 : ¬ bef a b := by subst hab; exact bef_irrefl _
          have hab2 : ¬ bef b a := by subst hab; exact bef_irrefl _
          have hEQ : decide (a = b) = true := decide_eq_true hab
          have hq := eql_key a b
          rw [hEQ] at hq
          clear hab
          refine wp_region_held_drew (S := (fun w' => (w'.cell? ⟨w.heap.size, 0, none⟩ = some (.int .i64 a.1) ∧ w'.cell? ⟨w.heap.size, 1, none⟩ = some (.int .i64 a.2.1) ∧ w'.cell? ⟨w.heap.size, 1 + 1, none⟩ = some (.int .i64 a.2.2)) ∧ (w'.cell? ⟨w.heap.size + 1, 0, none⟩ = some (.int .i64 b.1) ∧ w'.cell? ⟨w.heap.size + 1, 1, none⟩ = some (.int .i64 b.2.1) ∧ w'.cell? ⟨w.heap.size + 1, 1 + 1, none⟩ = some (.int .i64 b.2.2)))) (by kernel_rfl) ⟨(key _ Z0).1, (key _ Z0).2.1⟩ (fun hHeld => ?_)
          refine wpAnyH_take (i := 0) (oi := ({ dst := some 83, op := Op.load 24 (Operand.tmp 6), type := 24, pos := _, after := #[], guard := none } : Oper)) (v := ?_) rfl (by kernel_rfl) (by kernel_rfl) (by kernel_rfl) (fun _ _ _ h => h) (Or.inl ⟨by rfl, ?_⟩) hHeld ?_
          rotate_left
          · (intro w hS; go_simp; try with_reducible rfl)
          try simp only [Act.put, List.setIfInBounds_toArray, List.set_cons_zero, List.set_cons_succ]
          refine wpAnyH_take (i := 1) (oi := ({ dst := some 84, op := Op.load 24 (Operand.tmp 7), type := 24, pos := _, after := #[], guard := none } : Oper)) (v := ?_) rfl (by kernel_rfl) (by kernel_rfl) (by kernel_rfl) (fun _ _ _ h => h) (Or.inl ⟨by rfl, ?_⟩) hHeld ?_
          rotate_left
          · (intro w hS; go_simp; try with_reducible rfl)
          try simp only [Act.put, List.setIfInBounds_toArray, List.set_cons_zero, List.set_cons_succ]
          refine wpAnyH_ready (rs := [2]) (by kernel_rfl) (by simp) ?_
          refine AllReadyH.cons (o := ({ dst := some 85, op := Op.call { callee := Callee.value (Operand.func 26), args := #[Operand.tmp 83, Operand.tmp 84], argTypes := #[24, 24] }, type := 4, pos := _, after := #[{ on := 0, ground := Ground.data }, { on := 1, ground := Ground.data }], guard := none } : Oper)) rfl (fun K hK => ?_) AllReadyH.nil
          refine step_call (before_calls a b _) (enters_of Try.func26 (by kernel_rfl) rfl) _ _ rfl rfl rfl ?_
          rintro e y1 ⟨rfl, c1⟩
          rw [decide_eq_false hab1]
          have X1 := Z0.trans (c1.mono Z0.size)
          refine ⟨_, rfl, hK.out _ _ ⟨(key _ X1).1, (key _ X1).2.1⟩ (fun hHeld => ?_)⟩
          clear hK K
          try simp only [Act.put, List.setIfInBounds_toArray, List.set_cons_zero, List.set_cons_succ]
          refine wpAnyH_take (i := 3) (oi := ({ dst := some 86, op := Op.move (Operand.tmp 85), type := 4, pos := _, after := #[{ on := 2, ground := Ground.data }, { on := 2, ground := Ground.chain }], guard := none } : Oper)) (v := ?_) rfl (by kernel_rfl) (by kernel_rfl) (by kernel_rfl) (fun _ _ _ h => h) (Or.inl ⟨by rfl, ?_⟩) hHeld ?_
          rotate_left
          · (intro w hS; go_simp; try with_reducible rfl)
          try simp only [Act.put, List.setIfInBounds_toArray, List.set_cons_zero, List.set_cons_succ]
          refine wpAnyH_take (i := 4) (oi := ({ dst := some 87, op := Op.load 24 (Operand.tmp 7), type := 24, pos := _, after := #[{ on := 3, ground := Ground.guard }], guard := some (3, true) } : Oper)) (v := undef) rfl (by kernel_rfl) (by kernel_rfl) (by kernel_rfl) (fun _ _ _ h => h) (Or.inr ⟨by rfl, rfl⟩) hHeld ?_
          try simp only [Act.put, List.setIfInBounds_toArray, List.set_cons_zero, List.set_cons_succ]
          refine wpAnyH_take (i := 5) (oi := ({ dst := some 88, op := Op.load 24 (Operand.tmp 6), type := 24, pos := _, after := #[{ on := 3, ground := Ground.guard }], guard := some (3, true) } : Oper)) (v := undef) rfl (by kernel_rfl) (by kernel_rfl) (by kernel_rfl) (fun _ _ _ h => h) (Or.inr ⟨by rfl, rfl⟩) hHeld ?_
          try simp only [Act.put, List.setIfInBounds_toArray, List.set_cons_zero, List.set_cons_succ]
          refine wpAnyH_take (i := 6) (oi := ({ dst := some 89, op := Op.call { callee := Callee.value (Operand.func 26), args := #[Operand.tmp 87, Operand.tmp 88], argTypes := #[24, 24] }, type := 4, pos := _, after := #[{ on := 4, ground := Ground.data }, { on := 5, ground := Ground.data }, { on := 3, ground := Ground.chain }, { on := 3, ground := Ground.guard }], guard := some (3, true) } : Oper)) (v := undef) rfl (by kernel_rfl) (by kernel_rfl) (by kernel_rfl) (fun _ _ _ h => h) (Or.inr ⟨by rfl, rfl⟩) hHeld ?_
          try simp only [Act.put, List.setIfInBounds_toArray, List.set_cons_zero, List.set_cons_succ]
          refine wpAnyH_take (i := 7) (oi := ({ dst := some 90, op := Op.pick (Operand.tmp 86) (Operand.tmp 89) (Operand.const (Value.bool false)), type := 4, pos := _, after := #[{ on := 3, ground := Ground.data }, { on := 6, ground := Ground.data }], guard := none } : Oper)) (v := ?_) rfl (by kernel_rfl) (by kernel_rfl) (by kernel_rfl) (fun _ _ _ h => h) (Or.inl ⟨by rfl, ?_⟩) hHeld ?_
          rotate_left
          · (intro w hS; go_simp; try with_reducible rfl)
          try simp only [Act.put, List.setIfInBounds_toArray, List.set_cons_zero, List.set_cons_succ]
          refine wpAnyH_take (i := 8) (oi := ({ dst := some 91, op := Op.move (Operand.tmp 90), type := 4, pos := _, after := #[{ on := 7, ground := Ground.data }, { on := 6, ground := Ground.chain }], guard := none } : Oper)) (v := ?_) rfl (by kernel_rfl) (by kernel_rfl) (by kernel_rfl) (fun _ _ _ h => h) (Or.inl ⟨by rfl, ?_⟩) hHeld ?_
          rotate_left
          · (intro w hS; go_simp; try with_reducible rfl)
          try simp only [Act.put, List.setIfInBounds_toArray, List.set_cons_zero, List.set_cons_succ]
          refine wpAnyH_take (i := 9) (oi := ({ dst := some 92, op := Op.load 24 (Operand.tmp 6), type := 24, pos := _, after := #[{ on := 8, ground := Ground.guard }], guard := some (8, false) } : Oper)) (v := ?_) rfl (by kernel_rfl) (by kernel_rfl) (by kernel_rfl) (fun _ _ _ h => h) (Or.inl ⟨by rfl, ?_⟩) hHeld ?_
          rotate_left
          · (intro w hS; go_simp; try with_reducible rfl)
          try simp only [Act.put, List.setIfInBounds_toArray, List.set_cons_zero, List.set_cons_succ]
          refine wpAnyH_take (i := 10) (oi := ({ dst := some 93, op := Op.load 24 (Operand.tmp 7), type := 24, pos := _, after := #[{ on := 8, ground := Ground.guard }], guard := some (8, false) } : Oper)) (v := ?_) rfl (by kernel_rfl) (by kernel_rfl) (by kernel_rfl) (fun _ _ _ h => h) (Or.inl ⟨by rfl, ?_⟩) hHeld ?_
          rotate_left
          · (intro w hS; go_simp; try with_reducible rfl)
          try simp only [Act.put, List.setIfInBounds_toArray, List.set_cons_zero, List.set_cons_succ]
          refine wpAnyH_take (i := 11) (oi := ({ dst := some 94, op := Op.binOp BinOp.eql 24 (Operand.tmp 92) (Operand.tmp 93) 24, type := 4, pos := _, after := #[{ on := 9, ground := Ground.data }, { on := 10, ground := Ground.data }, { on := 8, ground := Ground.guard }], guard := some (8, false) } : Oper)) (v := ?_) rfl (by kernel_rfl) (by kernel_rfl) (by kernel_rfl) (fun _ _ _ h => h) (Or.inl ⟨by rfl, ?_⟩) hHeld ?_
          rotate_left
          · (intro w hS; go_simp; try with_reducible rfl)
          try simp only [Act.put, List.setIfInBounds_toArray, List.set_cons_zero, List.set_cons_succ]
          try rw [hEQ]
          refine wpAnyH_take (i := 12) (oi := ({ dst := some 95, op := Op.load 24 (Operand.tmp 6), type := 24, pos := _, after := #[{ on := 8, ground := Ground.guard }], guard := some (8, false) } : Oper)) (v := ?_) rfl (by kernel_rfl) (by kernel_rfl) (by kernel_rfl) (fun _ _ _ h => h) (Or.inl ⟨by rfl, ?_⟩) hHeld ?_
          rotate_left
          · (intro w hS; go_simp; try with_reducible rfl)
          try simp only [Act.put, List.setIfInBounds_toArray, List.set_cons_zero, List.set_cons_succ]
          refine wpAnyH_take (i := 13) (oi := ({ dst := some 96, op := Op.load 24 (Operand.tmp 7), type := 24, pos := _, after := #[{ on := 8, ground := Ground.guard }], guard := some (8, false) } : Oper)) (v := ?_) rfl (by kernel_rfl) (by kernel_rfl) (by kernel_rfl) (fun _ _ _ h => h) (Or.inl ⟨by rfl, ?_⟩) hHeld ?_
          rotate_left
          · (intro w hS; go_simp; try with_reducible rfl)
          try simp only [Act.put, List.setIfInBounds_toArray, List.set_cons_zero, List.set_cons_succ]
          refine wpAnyH_ready (rs := [14]) (by kernel_rfl) (by simp) ?_
          refine AllReadyH.cons (o := ({ dst := some 97, op := Op.call { callee := Callee.value (Operand.func 26), args := #[Operand.tmp 95, Operand.tmp 96], argTypes := #[24, 24] }, type := 4, pos := _, after := #[{ on := 12, ground := Ground.data }, { on := 13, ground := Ground.data }, { on := 8, ground := Ground.chain }, { on := 8, ground := Ground.guard }], guard := some (8, false) } : Oper)) rfl (fun K hK => ?_) AllReadyH.nil
          refine step_call (before_calls a b _) (enters_of Try.func26 (by kernel_rfl) rfl) _ _ rfl rfl rfl ?_
          rintro e y3 ⟨rfl, c3⟩
          rw [decide_eq_false hab1]
          have X3 := X1.trans (c3.mono X1.size)
          refine ⟨_, rfl, hK.out _ _ ⟨(key _ X3).1, (key _ X3).2.1⟩ (fun hHeld => ?_)⟩
          clear hK K
          try simp only [Act.put, List.setIfInBounds_toArray, List.set_cons_zero, List.set_cons_succ]
          refine wpAnyH_take (i := 15) (oi := ({ dst := some 98, op := Op.move (Operand.tmp 97), type := 4, pos := _, after := #[{ on := 14, ground := Ground.data }, { on := 14, ground := Ground.chain }, { on := 8, ground := Ground.guard }], guard := some (8, false) } : Oper)) (v := ?_) rfl (by kernel_rfl) (by kernel_rfl) (by kernel_rfl) (fun _ _ _ h => h) (Or.inl ⟨by rfl, ?_⟩) hHeld ?_
          rotate_left
          · (intro w hS; go_simp; try with_reducible rfl)
          try simp only [Act.put, List.setIfInBounds_toArray, List.set_cons_zero, List.set_cons_succ]
          refine wpAnyH_take (i := 16) (oi := ({ dst := some 99, op := Op.load 24 (Operand.tmp 7), type := 24, pos := _, after := #[{ on := 15, ground := Ground.guard }], guard := some (15, false) } : Oper)) (v := ?_) rfl (by kernel_rfl) (by kernel_rfl) (by kernel_rfl) (fun _ _ _ h => h) (Or.inl ⟨by rfl, ?_⟩) hHeld ?_
          rotate_left
          · (intro w hS; go_simp; try with_reducible rfl)
          try simp only [Act.put, List.setIfInBounds_toArray, List.set_cons_zero, List.set_cons_succ]
          refine wpAnyH_take (i := 17) (oi := ({ dst := some 100, op := Op.load 24 (Operand.tmp 6), type := 24, pos := _, after := #[{ on := 15, ground := Ground.guard }], guard := some (15, false) } : Oper)) (v := ?_) rfl (by kernel_rfl) (by kernel_rfl) (by kernel_rfl) (fun _ _ _ h => h) (Or.inl ⟨by rfl, ?_⟩) hHeld ?_
          rotate_left
          · (intro w hS; go_simp; try with_reducible rfl)
          try simp only [Act.put, List.setIfInBounds_toArray, List.set_cons_zero, List.set_cons_succ]
          refine wpAnyH_ready (rs := [18]) (by kernel_rfl) (by simp) ?_
          refine AllReadyH.cons (o := ({ dst := some 101, op := Op.call { callee := Callee.value (Operand.func 26), args := #[Operand.tmp 99, Operand.tmp 100], argTypes := #[24, 24] }, type := 4, pos := _, after := #[{ on := 16, ground := Ground.data }, { on := 17, ground := Ground.data }, { on := 15, ground := Ground.chain }, { on := 15, ground := Ground.guard }], guard := some (15, false) } : Oper)) rfl (fun K hK => ?_) AllReadyH.nil
          refine step_call (before_calls b a _) (enters_of Try.func26 (by kernel_rfl) rfl) _ _ rfl rfl rfl ?_
          rintro e y4 ⟨rfl, c4⟩
          rw [decide_eq_false hab2]
          have X4 := X3.trans (c4.mono X3.size)
          refine ⟨_, rfl, hK.out _ _ ⟨(key _ X4).1, (key _ X4).2.1⟩ (fun hHeld => ?_)⟩
          clear hK K
          try simp only [Act.put, List.setIfInBounds_toArray, List.set_cons_zero, List.set_cons_succ]
          refine wpAnyH_take (i := 19) (oi := ({ dst := some 102, op := Op.pick (Operand.tmp 98) (Operand.const (Value.bool true)) (Operand.tmp 101), type := 4, pos := _, after := #[{ on := 15, ground := Ground.data }, { on := 18, ground := Ground.data }, { on := 8, ground := Ground.guard }], guard := some (8, false) } : Oper)) (v := ?_) rfl (by kernel_rfl) (by kernel_rfl) (by kernel_rfl) (fun _ _ _ h => h) (Or.inl ⟨by rfl, ?_⟩) hHeld ?_
          rotate_left
          · (intro w hS; go_simp; try with_reducible rfl)
          try simp only [Act.put, List.setIfInBounds_toArray, List.set_cons_zero, List.set_cons_succ]
          refine wpAnyH_take (i := 20) (oi := ({ dst := some 103, op := Op.binOp BinOp.eql 4 (Operand.tmp 94) (Operand.tmp 102) 4, type := 4, pos := _, after := #[{ on := 11, ground := Ground.data }, { on := 19, ground := Ground.data }, { on := 8, ground := Ground.guard }], guard := some (8, false) } : Oper)) (v := ?_) rfl (by kernel_rfl) (by kernel_rfl) (by kernel_rfl) (fun _ _ _ h => h) (Or.inl ⟨by rfl, ?_⟩) hHeld ?_
          rotate_left
          · (intro w hS; go_simp; try with_reducible rfl)
          try simp only [Act.put, List.setIfInBounds_toArray, List.set_cons_zero, List.set_cons_succ]
          refine wpAnyH_take (i := 21) (oi := ({ dst := some 104, op := Op.pick (Operand.tmp 91) (Operand.const (Value.bool true)) (Operand.tmp 103), type := 4, pos := _, after := #[{ on := 8, ground := Ground.data }, { on := 20, ground := Ground.data }], guard := none } : Oper)) (v := ?_) rfl (by kernel_rfl) (by kernel_rfl) (by kernel_rfl) (fun _ _ _ h => h) (Or.inl ⟨by rfl, ?_⟩) hHeld ?_
          rotate_left
          · (intro w hS; go_simp; try with_reducible rfl)
          try simp only [Act.put, List.setIfInBounds_toArray, List.set_cons_zero, List.set_cons_succ]
          refine wpAnyH_done (by kernel_rfl) ?_ _
          skip
          obtain ⟨⟨p0, p1, p2⟩, ⟨p3, p4, p5⟩, p6, p7, p8⟩ := key _ X4
          go_wp2_with fail
          refine (before_calls a b _).mono ?_
          rintro e z5 ⟨rfl, d5⟩
          rw [decide_eq_false hab1]
          have Y1 := X4.trans (d5.mono X4.size)
          obtain ⟨⟨p0, p1, p2⟩, ⟨p3, p4, p5⟩, p6, p7, p8⟩ := key _ Y1
          have KR := (I9.below Y1 (Nat.le_refl _)).hrs
          have cr := KR.cell 0 _ rfl
          have fr := KR.frozen 0
          go_wp2
          refine order_fin _ D _ w ?_ ?_ ?_ ?_ ?_
          · rfl
          · exact (I9.below Y1 (Nat.le_refl _)).hrs
          · exact (Y1.block D hDlt9).trans hd9
          · exact B9.trans (Y1.mono B9.size)
          · omega
        · have hab2 : ¬ bef b a := bef_asymm hab
          have hEQ : decide (a = b) = false := decide_eq_false (bef_ne hab)
          have hq := eql_key a b
          rw [hEQ] at hq
          refine wp_region_held_drew (S := (fun w' => (w'.cell? ⟨w.heap.size, 0, none⟩ = some (.int .i64 a.1) ∧ w'.cell? ⟨w.heap.size, 1, none⟩ = some (.int .i64 a.2.1) ∧ w'.cell? ⟨w.heap.size, 1 + 1, none⟩ = some (.int .i64 a.2.2)) ∧ (w'.cell? ⟨w.heap.size + 1, 0, none⟩ = some (.int .i64 b.1) ∧ w'.cell? ⟨w.heap.size + 1, 1, none⟩ = some (.int .i64 b.2.1) ∧ w'.cell? ⟨w.heap.size + 1, 1 + 1, none⟩ = some (.int .i64 b.2.2)))) (by kernel_rfl) ⟨(key _ Z0).1, (key _ Z0).2.1⟩ (fun hHeld => ?_)
          refine wpAnyH_take (i := 0) (oi := ({ dst := some 83, op := Op.load 24 (Operand.tmp 6), type := 24, pos := _, after := #[], guard := none } : Oper)) (v := ?_) rfl (by kernel_rfl) (by kernel_rfl) (by kernel_rfl) (fun _ _ _ h => h) (Or.inl ⟨by rfl, ?_⟩) hHeld ?_
          rotate_left
          · (intro w hS; go_simp; try with_reducible rfl)
          try simp only [Act.put, List.setIfInBounds_toArray, List.set_cons_zero, List.set_cons_succ]
          refine wpAnyH_take (i := 1) (oi := ({ dst := some 84, op := Op.load 24 (Operand.tmp 7), type := 24, pos := _, after := #[], guard := none } : Oper)) (v := ?_) rfl (by kernel_rfl) (by kernel_rfl) (by kernel_rfl) (fun _ _ _ h => h) (Or.inl ⟨by rfl, ?_⟩) hHeld ?_
          rotate_left
          · (intro w hS; go_simp; try with_reducible rfl)
          try simp only [Act.put, List.setIfInBounds_toArray, List.set_cons_zero, List.set_cons_succ]
          refine wpAnyH_ready (rs := [2]) (by kernel_rfl) (by simp) ?_
          refine AllReadyH.cons (o := ({ dst := some 85, op := Op.call { callee := Callee.value (Operand.func 26), args := #[Operand.tmp 83, Operand.tmp 84], argTypes := #[24, 24] }, type := 4, pos := _, after := #[{ on := 0, ground := Ground.data }, { on := 1, ground := Ground.data }], guard := none } : Oper)) rfl (fun K hK => ?_) AllReadyH.nil
          refine step_call (before_calls a b _) (enters_of Try.func26 (by kernel_rfl) rfl) _ _ rfl rfl rfl ?_
          rintro e y1 ⟨rfl, c1⟩
          rw [decide_eq_true hab]
          have X1 := Z0.trans (c1.mono Z0.size)
          refine ⟨_, rfl, hK.out _ _ ⟨(key _ X1).1, (key _ X1).2.1⟩ (fun hHeld => ?_)⟩
          clear hK K
          try simp only [Act.put, List.setIfInBounds_toArray, List.set_cons_zero, List.set_cons_succ]
          refine wpAnyH_take (i := 3) (oi := ({ dst := some 86, op := Op.move (Operand.tmp 85), type := 4, pos := _, after := #[{ on := 2, ground := Ground.data }, { on := 2, ground := Ground.chain }], guard := none } : Oper)) (v := ?_) rfl (by kernel_rfl) (by kernel_rfl) (by kernel_rfl) (fun _ _ _ h => h) (Or.inl ⟨by rfl, ?_⟩) hHeld ?_
          rotate_left
          · (intro w hS; go_simp; try with_reducible rfl)
          try simp only [Act.put, List.setIfInBounds_toArray, List.set_cons_zero, List.set_cons_succ]
          refine wpAnyH_take (i := 4) (oi := ({ dst := some 87, op := Op.load 24 (Operand.tmp 7), type := 24, pos := _, after := #[{ on := 3, ground := Ground.guard }], guard := some (3, true) } : Oper)) (v := ?_) rfl (by kernel_rfl) (by kernel_rfl) (by kernel_rfl) (fun _ _ _ h => h) (Or.inl ⟨by rfl, ?_⟩) hHeld ?_
          rotate_left
          · (intro w hS; go_simp; try with_reducible rfl)
          try simp only [Act.put, List.setIfInBounds_toArray, List.set_cons_zero, List.set_cons_succ]
          refine wpAnyH_take (i := 5) (oi := ({ dst := some 88, op := Op.load 24 (Operand.tmp 6), type := 24, pos := _, after := #[{ on := 3, ground := Ground.guard }], guard := some (3, true) } : Oper)) (v := ?_) rfl (by kernel_rfl) (by kernel_rfl) (by kernel_rfl) (fun _ _ _ h => h) (Or.inl ⟨by rfl, ?_⟩) hHeld ?_
          rotate_left
          · (intro w hS; go_simp; try with_reducible rfl)
          try simp only [Act.put, List.setIfInBounds_toArray, List.set_cons_zero, List.set_cons_succ]
          refine wpAnyH_ready (rs := [6]) (by kernel_rfl) (by simp) ?_
          refine AllReadyH.cons (o := ({ dst := some 89, op := Op.call { callee := Callee.value (Operand.func 26), args := #[Operand.tmp 87, Operand.tmp 88], argTypes := #[24, 24] }, type := 4, pos := _, after := #[{ on := 4, ground := Ground.data }, { on := 5, ground := Ground.data }, { on := 3, ground := Ground.chain }, { on := 3, ground := Ground.guard }], guard := some (3, true) } : Oper)) rfl (fun K hK => ?_) AllReadyH.nil
          refine step_call (before_calls b a _) (enters_of Try.func26 (by kernel_rfl) rfl) _ _ rfl rfl rfl ?_
          rintro e y2 ⟨rfl, c2⟩
          rw [decide_eq_false hab2]
          have X2 := X1.trans (c2.mono X1.size)
          refine ⟨_, rfl, hK.out _ _ ⟨(key _ X2).1, (key _ X2).2.1⟩ (fun hHeld => ?_)⟩
          clear hK K
          try simp only [Act.put, List.setIfInBounds_toArray, List.set_cons_zero, List.set_cons_succ]
          refine wpAnyH_take (i := 7) (oi := ({ dst := some 90, op := Op.pick (Operand.tmp 86) (Operand.tmp 89) (Operand.const (Value.bool false)), type := 4, pos := _, after := #[{ on := 3, ground := Ground.data }, { on := 6, ground := Ground.data }], guard := none } : Oper)) (v := ?_) rfl (by kernel_rfl) (by kernel_rfl) (by kernel_rfl) (fun _ _ _ h => h) (Or.inl ⟨by rfl, ?_⟩) hHeld ?_
          rotate_left
          · (intro w hS; go_simp; try with_reducible rfl)
          try simp only [Act.put, List.setIfInBounds_toArray, List.set_cons_zero, List.set_cons_succ]
          refine wpAnyH_take (i := 8) (oi := ({ dst := some 91, op := Op.move (Operand.tmp 90), type := 4, pos := _, after := #[{ on := 7, ground := Ground.data }, { on := 6, ground := Ground.chain }], guard := none } : Oper)) (v := ?_) rfl (by kernel_rfl) (by kernel_rfl) (by kernel_rfl) (fun _ _ _ h => h) (Or.inl ⟨by rfl, ?_⟩) hHeld ?_
          rotate_left
          · (intro w hS; go_simp; try with_reducible rfl)
          try simp only [Act.put, List.setIfInBounds_toArray, List.set_cons_zero, List.set_cons_succ]
          refine wpAnyH_take (i := 9) (oi := ({ dst := some 92, op := Op.load 24 (Operand.tmp 6), type := 24, pos := _, after := #[{ on := 8, ground := Ground.guard }], guard := some (8, false) } : Oper)) (v := ?_) rfl (by kernel_rfl) (by kernel_rfl) (by kernel_rfl) (fun _ _ _ h => h) (Or.inl ⟨by rfl, ?_⟩) hHeld ?_
          rotate_left
          · (intro w hS; go_simp; try with_reducible rfl)
          try simp only [Act.put, List.setIfInBounds_toArray, List.set_cons_zero, List.set_cons_succ]
          refine wpAnyH_take (i := 10) (oi := ({ dst := some 93, op := Op.load 24 (Operand.tmp 7), type := 24, pos := _, after := #[{ on := 8, ground := Ground.guard }], guard := some (8, false) } : Oper)) (v := ?_) rfl (by kernel_rfl) (by kernel_rfl) (by kernel_rfl) (fun _ _ _ h => h) (Or.inl ⟨by rfl, ?_⟩) hHeld ?_
          rotate_left
          · (intro w hS; go_simp; try with_reducible rfl)
          try simp only [Act.put, List.setIfInBounds_toArray, List.set_cons_zero, List.set_cons_succ]
          refine wpAnyH_take (i := 11) (oi := ({ dst := some 94, op := Op.binOp BinOp.eql 24 (Operand.tmp 92) (Operand.tmp 93) 24, type := 4, pos := _, after := #[{ on := 9, ground := Ground.data }, { on := 10, ground := Ground.data }, { on := 8, ground := Ground.guard }], guard := some (8, false) } : Oper)) (v := ?_) rfl (by kernel_rfl) (by kernel_rfl) (by kernel_rfl) (fun _ _ _ h => h) (Or.inl ⟨by rfl, ?_⟩) hHeld ?_
          rotate_left
          · (intro w hS; go_simp; try with_reducible rfl)
          try simp only [Act.put, List.setIfInBounds_toArray, List.set_cons_zero, List.set_cons_succ]
          try rw [hEQ]
          refine wpAnyH_take (i := 12) (oi := ({ dst := some 95, op := Op.load 24 (Operand.tmp 6), type := 24, pos := _, after := #[{ on := 8, ground := Ground.guard }], guard := some (8, false) } : Oper)) (v := ?_) rfl (by kernel_rfl) (by kernel_rfl) (by kernel_rfl) (fun _ _ _ h => h) (Or.inl ⟨by rfl, ?_⟩) hHeld ?_
          rotate_left
          · (intro w hS; go_simp; try with_reducible rfl)
          try simp only [Act.put, List.setIfInBounds_toArray, List.set_cons_zero, List.set_cons_succ]
          refine wpAnyH_take (i := 13) (oi := ({ dst := some 96, op := Op.load 24 (Operand.tmp 7), type := 24, pos := _, after := #[{ on := 8, ground := Ground.guard }], guard := some (8, false) } : Oper)) (v := ?_) rfl (by kernel_rfl) (by kernel_rfl) (by kernel_rfl) (fun _ _ _ h => h) (Or.inl ⟨by rfl, ?_⟩) hHeld ?_
          rotate_left
          · (intro w hS; go_simp; try with_reducible rfl)
          try simp only [Act.put, List.setIfInBounds_toArray, List.set_cons_zero, List.set_cons_succ]
          refine wpAnyH_ready (rs := [14]) (by kernel_rfl) (by simp) ?_
          refine AllReadyH.cons (o := ({ dst := some 97, op := Op.call { callee := Callee.value (Operand.func 26), args := #[Operand.tmp 95, Operand.tmp 96], argTypes := #[24, 24] }, type := 4, pos := _, after := #[{ on := 12, ground := Ground.data }, { on := 13, ground := Ground.data }, { on := 8, ground := Ground.chain }, { on := 8, ground := Ground.guard }], guard := some (8, false) } : Oper)) rfl (fun K hK => ?_) AllReadyH.nil
          refine step_call (before_calls a b _) (enters_of Try.func26 (by kernel_rfl) rfl) _ _ rfl rfl rfl ?_
          rintro e y3 ⟨rfl, c3⟩
          rw [decide_eq_true hab]
          have X3 := X2.trans (c3.mono X2.size)
          refine ⟨_, rfl, hK.out _ _ ⟨(key _ X3).1, (key _ X3).2.1⟩ (fun hHeld => ?_)⟩
          clear hK K
          try simp only [Act.put, List.setIfInBounds_toArray, List.set_cons_zero, List.set_cons_succ]
          refine wpAnyH_take (i := 15) (oi := ({ dst := some 98, op := Op.move (Operand.tmp 97), type := 4, pos := _, after := #[{ on := 14, ground := Ground.data }, { on := 14, ground := Ground.chain }, { on := 8, ground := Ground.guard }], guard := some (8, false) } : Oper)) (v := ?_) rfl (by kernel_rfl) (by kernel_rfl) (by kernel_rfl) (fun _ _ _ h => h) (Or.inl ⟨by rfl, ?_⟩) hHeld ?_
          rotate_left
          · (intro w hS; go_simp; try with_reducible rfl)
          try simp only [Act.put, List.setIfInBounds_toArray, List.set_cons_zero, List.set_cons_succ]
          refine wpAnyH_take (i := 16) (oi := ({ dst := some 99, op := Op.load 24 (Operand.tmp 7), type := 24, pos := _, after := #[{ on := 15, ground := Ground.guard }], guard := some (15, false) } : Oper)) (v := undef) rfl (by kernel_rfl) (by kernel_rfl) (by kernel_rfl) (fun _ _ _ h => h) (Or.inr ⟨by rfl, rfl⟩) hHeld ?_
          try simp only [Act.put, List.setIfInBounds_toArray, List.set_cons_zero, List.set_cons_succ]
          refine wpAnyH_take (i := 17) (oi := ({ dst := some 100, op := Op.load 24 (Operand.tmp 6), type := 24, pos := _, after := #[{ on := 15, ground := Ground.guard }], guard := some (15, false) } : Oper)) (v := undef) rfl (by kernel_rfl) (by kernel_rfl) (by kernel_rfl) (fun _ _ _ h => h) (Or.inr ⟨by rfl, rfl⟩) hHeld ?_
          try simp only [Act.put, List.setIfInBounds_toArray, List.set_cons_zero, List.set_cons_succ]
          refine wpAnyH_take (i := 18) (oi := ({ dst := some 101, op := Op.call { callee := Callee.value (Operand.func 26), args := #[Operand.tmp 99, Operand.tmp 100], argTypes := #[24, 24] }, type := 4, pos := _, after := #[{ on := 16, ground := Ground.data }, { on := 17, ground := Ground.data }, { on := 15, ground := Ground.chain }, { on := 15, ground := Ground.guard }], guard := some (15, false) } : Oper)) (v := undef) rfl (by kernel_rfl) (by kernel_rfl) (by kernel_rfl) (fun _ _ _ h => h) (Or.inr ⟨by rfl, rfl⟩) hHeld ?_
          try simp only [Act.put, List.setIfInBounds_toArray, List.set_cons_zero, List.set_cons_succ]
          refine wpAnyH_take (i := 19) (oi := ({ dst := some 102, op := Op.pick (Operand.tmp 98) (Operand.const (Value.bool true)) (Operand.tmp 101), type := 4, pos := _, after := #[{ on := 15, ground := Ground.data }, { on := 18, ground := Ground.data }, { on := 8, ground := Ground.guard }], guard := some (8, false) } : Oper)) (v := ?_) rfl (by kernel_rfl) (by kernel_rfl) (by kernel_rfl) (fun _ _ _ h => h) (Or.inl ⟨by rfl, ?_⟩) hHeld ?_
          rotate_left
          · (intro w hS; go_simp; try with_reducible rfl)
          try simp only [Act.put, List.setIfInBounds_toArray, List.set_cons_zero, List.set_cons_succ]
          refine wpAnyH_take (i := 20) (oi := ({ dst := some 103, op := Op.binOp BinOp.eql 4 (Operand.tmp 94) (Operand.tmp 102) 4, type := 4, pos := _, after := #[{ on := 11, ground := Ground.data }, { on := 19, ground := Ground.data }, { on := 8, ground := Ground.guard }], guard := some (8, false) } : Oper)) (v := ?_) rfl (by kernel_rfl) (by kernel_rfl) (by kernel_rfl) (fun _ _ _ h => h) (Or.inl ⟨by rfl, ?_⟩) hHeld ?_
          rotate_left
          · (intro w hS; go_simp; try with_reducible rfl)
          try simp only [Act.put, List.setIfInBounds_toArray, List.set_cons_zero, List.set_cons_succ]
          refine wpAnyH_take (i := 21) (oi := ({ dst := some 104, op := Op.pick (Operand.tmp 91) (Operand.const (Value.bool true)) (Operand.tmp 103), type := 4, pos := _, after := #[{ on := 8, ground := Ground.data }, { on := 20, ground := Ground.data }], guard := none } : Oper)) (v := ?_) rfl (by kernel_rfl) (by kernel_rfl) (by kernel_rfl) (fun _ _ _ h => h) (Or.inl ⟨by rfl, ?_⟩) hHeld ?_
          rotate_left
          · (intro w hS; go_simp; try with_reducible rfl)
          try simp only [Act.put, List.setIfInBounds_toArray, List.set_cons_zero, List.set_cons_succ]
          refine wpAnyH_done (by kernel_rfl) ?_ _
          skip
          obtain ⟨⟨p0, p1, p2⟩, ⟨p3, p4, p5⟩, p6, p7, p8⟩ := key _ X3
          go_wp2_with fail
          refine (before_calls a b _).mono ?_
          rintro e z5 ⟨rfl, d5⟩
          rw [decide_eq_true hab]
          have Y1 := X3.trans (d5.mono X3.size)
          obtain ⟨⟨p0, p1, p2⟩, ⟨p3, p4, p5⟩, p6, p7, p8⟩ := key _ Y1
          by_cases hbc : bef b c
          · have hac : bef a c := bef_trans hab hbc
            go_wp2_with fail
            refine (before_calls b c _).mono ?_
            rintro e z6 ⟨rfl, d6⟩
            rw [decide_eq_true hbc]
            have Y2 := Y1.trans (d6.mono Y1.size)
            obtain ⟨⟨p0, p1, p2⟩, ⟨p3, p4, p5⟩, p6, p7, p8⟩ := key _ Y2
            go_wp2_with fail
            refine (before_calls a c _).mono ?_
            rintro e z7 ⟨rfl, d7⟩
            rw [decide_eq_true hac]
            have Y3 := Y2.trans (d7.mono Y2.size)
            obtain ⟨⟨p0, p1, p2⟩, ⟨p3, p4, p5⟩, p6, p7, p8⟩ := key _ Y3
            have KR := (I9.below Y3 (Nat.le_refl _)).hrs
            have cr := KR.cell 0 _ rfl
            have fr := KR.frozen 0
            go_wp2
            refine order_fin _ D _ w ?_ ?_ ?_ ?_ ?_
            · rfl
            · exact (I9.below Y3 (Nat.le_refl _)).hrs
            · exact (Y3.block D hDlt9).trans hd9
            · exact B9.trans (Y3.mono B9.size)
            · omega
          · skip
            go_wp2_with fail
            refine (before_calls b c _).mono ?_
            rintro e z6 ⟨rfl, d6⟩
            rw [decide_eq_false hbc]
            have Y2 := Y1.trans (d6.mono Y1.size)
            obtain ⟨⟨p0, p1, p2⟩, ⟨p3, p4, p5⟩, p6, p7, p8⟩ := key _ Y2
            have KR := (I9.below Y2 (Nat.le_refl _)).hrs
            have cr := KR.cell 0 _ rfl
            have fr := KR.frozen 0
            go_wp2
            refine order_fin _ D _ w ?_ ?_ ?_ ?_ ?_
            · rfl
            · exact (I9.below Y2 (Nat.le_refl _)).hrs
            · exact (Y2.block D hDlt9).trans hd9
            · exact B9.trans (Y2.mono B9.size)
            · omega
        · have hab1 : ¬ bef a b := bef_asymm hab
          have hEQ : decide (a = b) = false := decide_eq_false (fun e => bef_ne hab e.symm)
          have hq := eql_key a b
          rw [hEQ] at hq
          refine wp_region_held_drew (S := (fun w' => (w'.cell? ⟨w.heap.size, 0, none⟩ = some (.int .i64 a.1) ∧ w'.cell? ⟨w.heap.size, 1, none⟩ = some (.int .i64 a.2.1) ∧ w'.cell? ⟨w.heap.size, 1 + 1, none⟩ = some (.int .i64 a.2.2)) ∧ (w'.cell? ⟨w.heap.size + 1, 0, none⟩ = some (.int .i64 b.1) ∧ w'.cell? ⟨w.heap.size + 1, 1, none⟩ = some (.int .i64 b.2.1) ∧ w'.cell? ⟨w.heap.size + 1, 1 + 1, none⟩ = some (.int .i64 b.2.2)))) (by kernel_rfl) ⟨(key _ Z0).1, (key _ Z0).2.1⟩ (fun hHeld => ?_)
          refine wpAnyH_take (i := 0) (oi := ({ dst := some 83, op := Op.load 24 (Operand.tmp 6), type := 24, pos := _, after := #[], guard := none } : Oper)) (v := ?_) rfl (by kernel_rfl) (by kernel_rfl) (by kernel_rfl) (fun _ _ _ h => h) (Or.inl ⟨by rfl, ?_⟩) hHeld ?_
          rotate_left
          · (intro w hS; go_simp; try with_reducible rfl)
          try simp only [Act.put, List.setIfInBounds_toArray, List.set_cons_zero, List.set_cons_succ]
          refine wpAnyH_take (i := 1) (oi := ({ dst := some 84, op := Op.load 24 (Operand.tmp 7), type := 24, pos := _, after := #[], guard := none } : Oper)) (v := ?_) rfl (by kernel_rfl) (by kernel_rfl) (by kernel_rfl) (fun _ _ _ h => h) (Or.inl ⟨by rfl, ?_⟩) hHeld ?_
          rotate_left
          · (intro w hS; go_simp; try with_reducible rfl)
          try simp only [Act.put, List.setIfInBounds_toArray, List.set_cons_zero, List.set_cons_succ]
          refine wpAnyH_ready (rs := [2]) (by kernel_rfl) (by simp) ?_
          refine AllReadyH.cons (o := ({ dst := some 85, op := Op.call { callee := Callee.value (Operand.func 26), args := #[Operand.tmp 83, Operand.tmp 84], argTypes := #[24, 24] }, type := 4, pos := _, after := #[{ on := 0, ground := Ground.data }, { on := 1, ground := Ground.data }], guard := none } : Oper)) rfl (fun K hK => ?_) AllReadyH.nil
          refine step_call (before_calls a b _) (enters_of Try.func26 (by kernel_rfl) rfl) _ _ rfl rfl rfl ?_
          rintro e y1 ⟨rfl, c1⟩
          rw [decide_eq_false hab1]
          have X1 := Z0.trans (c1.mono Z0.size)
          refine ⟨_, rfl, hK.out _ _ ⟨(key _ X1).1, (key _ X1).2.1⟩ (fun hHeld => ?_)⟩
          clear hK K
          try simp only [Act.put, List.setIfInBounds_toArray, List.set_cons_zero, List.set_cons_succ]
          refine wpAnyH_take (i := 3) (oi := ({ dst := some 86, op := Op.move (Operand.tmp 85), type := 4, pos := _, after := #[{ on := 2, ground := Ground.data }, { on := 2, ground := Ground.chain }], guard := none } : Oper)) (v := ?_) rfl (by kernel_rfl) (by kernel_rfl) (by kernel_rfl) (fun _ _ _ h => h) (Or.inl ⟨by rfl, ?_⟩) hHeld ?_
          rotate_left
          · (intro w hS; go_simp; try with_reducible rfl)
          try simp only [Act.put, List.setIfInBounds_toArray, List.set_cons_zero, List.set_cons_succ]
          refine wpAnyH_take (i := 4) (oi := ({ dst := some 87, op := Op.load 24 (Operand.tmp 7), type := 24, pos := _, after := #[{ on := 3, ground := Ground.guard }], guard := some (3, true) } : Oper)) (v := undef) rfl (by kernel_rfl) (by kernel_rfl) (by kernel_rfl) (fun _ _ _ h => h) (Or.inr ⟨by rfl, rfl⟩) hHeld ?_
          try simp only [Act.put, List.setIfInBounds_toArray, List.set_cons_zero, List.set_cons_succ]
          refine wpAnyH_take (i := 5) (oi := ({ dst := some 88, op := Op.load 24 (Operand.tmp 6), type := 24, pos := _, after := #[{ on := 3, ground := Ground.guard }], guard := some (3, true) } : Oper)) (v := undef) rfl (by kernel_rfl) (by kernel_rfl) (by kernel_rfl) (fun _ _ _ h => h) (Or.inr ⟨by rfl, rfl⟩) hHeld ?_
          try simp only [Act.put, List.setIfInBounds_toArray, List.set_cons_zero, List.set_cons_succ]
          refine wpAnyH_take (i := 6) (oi := ({ dst := some 89, op := Op.call { callee := Callee.value (Operand.func 26), args := #[Operand.tmp 87, Operand.tmp 88], argTypes := #[24, 24] }, type := 4, pos := _, after := #[{ on := 4, ground := Ground.data }, { on := 5, ground := Ground.data }, { on := 3, ground := Ground.chain }, { on := 3, ground := Ground.guard }], guard := some (3, true) } : Oper)) (v := undef) rfl (by kernel_rfl) (by kernel_rfl) (by kernel_rfl) (fun _ _ _ h => h) (Or.inr ⟨by rfl, rfl⟩) hHeld ?_
          try simp only [Act.put, List.setIfInBounds_toArray, List.set_cons_zero, List.set_cons_succ]
          refine wpAnyH_take (i := 7) (oi := ({ dst := some 90, op := Op.pick (Operand.tmp 86) (Operand.tmp 89) (Operand.const (Value.bool false)), type := 4, pos := _, after := #[{ on := 3, ground := Ground.data }, { on := 6, ground := Ground.data }], guard := none } : Oper)) (v := ?_) rfl (by kernel_rfl) (by kernel_rfl) (by kernel_rfl) (fun _ _ _ h => h) (Or.inl ⟨by rfl, ?_⟩) hHeld ?_
          rotate_left
          · (intro w hS; go_simp; try with_reducible rfl)
          try simp only [Act.put, List.setIfInBounds_toArray, List.set_cons_zero, List.set_cons_succ]
          refine wpAnyH_take (i := 8) (oi := ({ dst := some 91, op := Op.move (Operand.tmp 90), type := 4, pos := _, after := #[{ on := 7, ground := Ground.data }, { on := 6, ground := Ground.chain }], guard := none } : Oper)) (v := ?_) rfl (by kernel_rfl) (by kernel_rfl) (by kernel_rfl) (fun _ _ _ h => h) (Or.inl ⟨by rfl, ?_⟩) hHeld ?_
          rotate_left
          · (intro w hS; go_simp; try with_reducible rfl)
          try simp only [Act.put, List.setIfInBounds_toArray, List.set_cons_zero, List.set_cons_succ]
          refine wpAnyH_take (i := 9) (oi := ({ dst := some 92, op := Op.load 24 (Operand.tmp 6), type := 24, pos := _, after := #[{ on := 8, ground := Ground.guard }], guard := some (8, false) } : Oper)) (v := ?_) rfl (by kernel_rfl) (by kernel_rfl) (by kernel_rfl) (fun _ _ _ h => h) (Or.inl ⟨by rfl, ?_⟩) hHeld ?_
          rotate_left
          · (intro w hS; go_simp; try with_reducible rfl)
          try simp only [Act.put, List.setIfInBounds_toArray, List.set_cons_zero, List.set_cons_succ]
          refine wpAnyH_take (i := 10) (oi := ({ dst := some 93, op := Op.load 24 (Operand.tmp 7), type := 24, pos := _, after := #[{ on := 8, ground := Ground.guard }], guard := some (8, false) } : Oper)) (v := ?_) rfl (by kernel_rfl) (by kernel_rfl) (by kernel_rfl) (fun _ _ _ h => h) (Or.inl ⟨by rfl, ?_⟩) hHeld ?_
          rotate_left
          · (intro w hS; go_simp; try with_reducible rfl)
          try simp only [Act.put, List.setIfInBounds_toArray, List.set_cons_zero, List.set_cons_succ]
          refine wpAnyH_take (i := 11) (oi := ({ dst := some 94, op := Op.binOp BinOp.eql 24 (Operand.tmp 92) (Operand.tmp 93) 24, type := 4, pos := _, after := #[{ on := 9, ground := Ground.data }, { on := 10, ground := Ground.data }, { on := 8, ground := Ground.guard }], guard := some (8, false) } : Oper)) (v := ?_) rfl (by kernel_rfl) (by kernel_rfl) (by kernel_rfl) (fun _ _ _ h => h) (Or.inl ⟨by rfl, ?_⟩) hHeld ?_
          rotate_left
          · (intro w hS; go_simp; try with_reducible rfl)
          try simp only [Act.put, List.setIfInBounds_toArray, List.set_cons_zero, List.set_cons_succ]
          try rw [hEQ]
          refine wpAnyH_take (i := 12) (oi := ({ dst := some 95, op := Op.load 24 (Operand.tmp 6), type := 24, pos := _, after := #[{ on := 8, ground := Ground.guard }], guard := some (8, false) } : Oper)) (v := ?_) rfl (by kernel_rfl) (by kernel_rfl) (by kernel_rfl) (fun _ _ _ h => h) (Or.inl ⟨by rfl, ?_⟩) hHeld ?_
          rotate_left
          · (intro w hS; go_simp; try with_reducible rfl)
          try simp only [Act.put, List.setIfInBounds_toArray, List.set_cons_zero, List.set_cons_succ]
          refine wpAnyH_take (i := 13) (oi := ({ dst := some 96, op := Op.load 24 (Operand.tmp 7), type := 24, pos := _, after := #[{ on := 8, ground := Ground.guard }], guard := some (8, false) } : Oper)) (v := ?_) rfl (by kernel_rfl) (by kernel_rfl) (by kernel_rfl) (fun _ _ _ h => h) (Or.inl ⟨by rfl, ?_⟩) hHeld ?_
          rotate_left
          · (intro w hS; go_simp; try with_reducible rfl)
          try simp only [Act.put, List.setIfInBounds_toArray, List.set_cons_zero, List.set_cons_succ]
          refine wpAnyH_ready (rs := [14]) (by kernel_rfl) (by simp) ?_
          refine AllReadyH.cons (o := ({ dst := some 97, op := Op.call { callee := Callee.value (Operand.func 26), args := #[Operand.tmp 95, Operand.tmp 96], argTypes := #[24, 24] }, type := 4, pos := _, after := #[{ on := 12, ground := Ground.data }, { on := 13, ground := Ground.data }, { on := 8, ground := Ground.chain }, { on := 8, ground := Ground.guard }], guard := some (8, false) } : Oper)) rfl (fun K hK => ?_) AllReadyH.nil
          refine step_call (before_calls a b _) (enters_of Try.func26 (by kernel_rfl) rfl) _ _ rfl rfl rfl ?_
          rintro e y3 ⟨rfl, c3⟩
          rw [decide_eq_false hab1]
          have X3 := X1.trans (c3.mono X1.size)
          refine ⟨_, rfl, hK.out _ _ ⟨(key _ X3).1, (key _ X3).2.1⟩ (fun hHeld => ?_)⟩
          clear hK K
          try simp only [Act.put, List.setIfInBounds_toArray, List.set_cons_zero, List.set_cons_succ]
          refine wpAnyH_take (i := 15) (oi := ({ dst := some 98, op := Op.move (Operand.tmp 97), type := 4, pos := _, after := #[{ on := 14, ground := Ground.data }, { on := 14, ground := Ground.chain }, { on := 8, ground := Ground.guard }], guard := some (8, false) } : Oper)) (v := ?_) rfl (by kernel_rfl) (by kernel_rfl) (by kernel_rfl) (fun _ _ _ h => h) (Or.inl ⟨by rfl, ?_⟩) hHeld ?_
          rotate_left
          · (intro w hS; go_simp; try with_reducible rfl)
          try simp only [Act.put, List.setIfInBounds_toArray, List.set_cons_zero, List.set_cons_succ]
          refine wpAnyH_take (i := 16) (oi := ({ dst := some 99, op := Op.load 24 (Operand.tmp 7), type := 24, pos := _, after := #[{ on := 15, ground := Ground.guard }], guard := some (15, false) } : Oper)) (v := ?_) rfl (by kernel_rfl) (by kernel_rfl) (by kernel_rfl) (fun _ _ _ h => h) (Or.inl ⟨by rfl, ?_⟩) hHeld ?_
          rotate_left
          · (intro w hS; go_simp; try with_reducible rfl)
          try simp only [Act.put, List.setIfInBounds_toArray, List.set_cons_zero, List.set_cons_succ]
          refine wpAnyH_take (i := 17) (oi := ({ dst := some 100, op := Op.load 24 (Operand.tmp 6), type := 24, pos := _, after := #[{ on := 15, ground := Ground.guard }], guard := some (15, false) } : Oper)) (v := ?_) rfl (by kernel_rfl) (by kernel_rfl) (by kernel_rfl) (fun _ _ _ h => h) (Or.inl ⟨by rfl, ?_⟩) hHeld ?_
          rotate_left
          · (intro w hS; go_simp; try with_reducible rfl)
          try simp only [Act.put, List.setIfInBounds_toArray, List.set_cons_zero, List.set_cons_succ]
          refine wpAnyH_ready (rs := [18]) (by kernel_rfl) (by simp) ?_
          refine AllReadyH.cons (o := ({ dst := some 101, op := Op.call { callee := Callee.value (Operand.func 26), args := #[Operand.tmp 99, Operand.tmp 100], argTypes := #[24, 24] }, type := 4, pos := _, after := #[{ on := 16, ground := Ground.data }, { on := 17, ground := Ground.data }, { on := 15, ground := Ground.chain }, { on := 15, ground := Ground.guard }], guard := some (15, false) } : Oper)) rfl (fun K hK => ?_) AllReadyH.nil
          refine step_call (before_calls b a _) (enters_of Try.func26 (by kernel_rfl) rfl) _ _ rfl rfl rfl ?_
          rintro e y4 ⟨rfl, c4⟩
          rw [decide_eq_true hab]
          have X4 := X3.trans (c4.mono X3.size)
          refine ⟨_, rfl, hK.out _ _ ⟨(key _ X4).1, (key _ X4).2.1⟩ (fun hHeld => ?_)⟩
          clear hK K
          try simp only [Act.put, List.setIfInBounds_toArray, List.set_cons_zero, List.set_cons_succ]
          refine wpAnyH_take (i := 19) (oi := ({ dst := some 102, op := Op.pick (Operand.tmp 98) (Operand.const (Value.bool true)) (Operand.tmp 101), type := 4, pos := _, after := #[{ on := 15, ground := Ground.data }, { on := 18, ground := Ground.data }, { on := 8, ground := Ground.guard }], guard := some (8, false) } : Oper)) (v := ?_) rfl (by kernel_rfl) (by kernel_rfl) (by kernel_rfl) (fun _ _ _ h => h) (Or.inl ⟨by rfl, ?_⟩) hHeld ?_
          rotate_left
          · (intro w hS; go_simp; try with_reducible rfl)
          try simp only [Act.put, List.setIfInBounds_toArray, List.set_cons_zero, List.set_cons_succ]
          refine wpAnyH_take (i := 20) (oi := ({ dst := some 103, op := Op.binOp BinOp.eql 4 (Operand.tmp 94) (Operand.tmp 102) 4, type := 4, pos := _, after := #[{ on := 11, ground := Ground.data }, { on := 19, ground := Ground.data }, { on := 8, ground := Ground.guard }], guard := some (8, false) } : Oper)) (v := ?_) rfl (by kernel_rfl) (by kernel_rfl) (by kernel_rfl) (fun _ _ _ h => h) (Or.inl ⟨by rfl, ?_⟩) hHeld ?_
          rotate_left
          · (intro w hS; go_simp; try with_reducible rfl)
          try simp only [Act.put, List.setIfInBounds_toArray, List.set_cons_zero, List.set_cons_succ]
          refine wpAnyH_take (i := 21) (oi := ({ dst := some 104, op := Op.pick (Operand.tmp 91) (Operand.const (Value.bool true)) (Operand.tmp 103), type := 4, pos := _, after := #[{ on := 8, ground := Ground.data }, { on := 20, ground := Ground.data }], guard := none } : Oper)) (v := ?_) rfl (by kernel_rfl) (by kernel_rfl) (by kernel_rfl) (fun _ _ _ h => h) (Or.inl ⟨by rfl, ?_⟩) hHeld ?_
          rotate_left
          · (intro w hS; go_simp; try with_reducible rfl)
          try simp only [Act.put, List.setIfInBounds_toArray, List.set_cons_zero, List.set_cons_succ]
          refine wpAnyH_done (by kernel_rfl) ?_ _
          skip
          obtain ⟨⟨p0, p1, p2⟩, ⟨p3, p4, p5⟩, p6, p7, p8⟩ := key _ X4
          go_wp2_with fail
          refine (before_calls a b _).mono ?_
          rintro e z5 ⟨rfl, d5⟩
          rw [decide_eq_false hab1]
          have Y1 := X4.trans (d5.mono X4.size)
          obtain ⟨⟨p0, p1, p2⟩, ⟨p3, p4, p5⟩, p6, p7, p8⟩ := key _ Y1
          have KR := (I9.below Y1 (Nat.le_refl _)).hrs
          have cr := KR.cell 0 _ rfl
          have fr := KR.frozen 0
          go_wp2
          refine order_fin _ D _ w ?_ ?_ ?_ ?_ ?_
          · rfl
          · exact (I9.below Y1 (Nat.le_refl _)).hrs
          · exact (Y1.block D hDlt9).trans hd9
          · exact B9.trans (Y1.mono B9.size)
          · omega
      refine (wpIn_wide (n := 3)).1 ?_
      refine wpIn_rangeFunc_ownH (α := { x : En // x ∈ L }) rfl (by omega) (gf := 31) (lb := #[.pointer (some ⟨wr.heap.size + 1 + 1, 0, none⟩)]) rfl trivial (enters_of Try.func31 (by kernel_rfl) rfl)
        (all_stops (3 - 1) (by omega) (wr.heap.size + 1 + 1) r L 64 W0 (by omega) (P7.cell 0 _ rfl) I7.tab) Kt.trans Kt.put (Below.refl _ _) (fun _ => rfl)
        (fun pre W => OI w.heap.size r bt wr.heap.size (wr.heap.size + 1) a b c st W (dels L (pre.map (·.1))) (pre.length : Int) (lastK (pre.map (·.1))) ∧ (pre.length : Int) ≤ st ∧ Below w.heap.size w W ∧ wr.heap.size + 3 ≤ W.heap.size)
        (fun cd pre W => (cd = .exit 2 ∧ OI w.heap.size r bt wr.heap.size (wr.heap.size + 1) a b c st W (dels L (pre.map (·.1))) (pre.length : Int) (lastK (pre.map (·.1))) ∧ (pre.length : Int) = st + 1 ∧ Below w.heap.size w W ∧ wr.heap.size + 3 ≤ W.heap.size) ∨ (cd = .ret ∧ ¬ Srt (pre.map (·.1))))
        (fun pre X Y row hh hg hr => ⟨hh.1.grown hg (fun r e => (hr r e).2), hh.2.1, (ownFrom_below (β := Unit) (by omega) (Nat.le_refl _)) () X Y row hh.2.2.1 hg hr, Nat.le_trans hh.2.2.2 hg.size⟩)
        (fun cd pre X Y row hh hg hr => by
          rcases hh with ⟨h1, h2, h3, h4, h5⟩ | hh
          · exact .inl ⟨h1, h2.grown hg (fun r e => (hr r e).2), h3, (ownFrom_below (β := Unit) (by omega) (Nat.le_refl _)) () X Y row h4 hg hr, Nat.le_trans h5 hg.size⟩
          · exact .inr hh)
        ⟨I7, by simpa using hs0, B7, by omega⟩
        (fun x a' W => ∃ Bx, wr.heap.size + 3 ≤ Bx ∧ BK W Bx #[.int .i64 x.1.1.1, .int .i64 x.1.1.2.1, .int .i64 x.1.1.2.2] 24 ∧ a' = { tmps := #[.slice s i cap, keyV a, keyV b, keyV c, .int .u8 st, undef, .pointer (some ⟨w.heap.size, 0, none⟩), .pointer (some ⟨w.heap.size + 1, 0, none⟩), .pointer (some ⟨w.heap.size + 1 + 1, 0, none⟩), .pointer (some ⟨w.heap.size + 1 + 1 + 1, 0, none⟩), .pointer (some ⟨w.heap.size + 1 + 1 + 1 + 1, 0, none⟩), .pointer (some ⟨bt, 0, none⟩), u12, .int .i64 (L.length : Int), .pointer (some ⟨wr.heap.size, 0, none⟩), .pointer (some ⟨wr.heap.size + 1, 0, none⟩), .pointer (some ⟨Bx, 0, none⟩), .bool true, .bool false, .bool false, .slice s i cap, .int .i64 (i : Int), .bool false, .bool false, undef, .pointer (some ⟨r, 0, none⟩), .slice s i cap, .int .i64 (i : Int), .int .i64 (i : Int), .bool false, u30, u31, u32, u33, u34, u35, u36, u37, u38, u39, u40, u41, u42, u43, .pointer (some ⟨r, 0, none⟩), .int .i64 (L.length : Int), .pointer (some ⟨r, 0, none⟩), .func (.func 31) #[] #[.pointer (some ⟨wr.heap.size + 1 + 1, 0, none⟩)], keyV x.1.1, .int .i64 x.1.2, undef, undef, undef, undef, undef, undef, undef, undef, undef, undef, undef, undef, undef, undef, undef, undef, undef, undef, undef, undef, undef, undef, undef, undef, undef, undef, undef, undef, undef, undef, undef, undef, undef, undef, undef, undef, undef, undef, undef, undef, undef, undef, undef, undef, undef, undef, undef, undef, undef, undef, undef, undef, undef, undef, undef, undef, undef, undef, undef, undef, undef, undef, undef, undef, undef, undef, undef, undef, undef, undef], defers := [] })
        (fun x a' u X Y row hs hgr hr => by
          obtain ⟨Bx, h1, h2, h3⟩ := hs
          exact ⟨Bx, h1, (Own.from (bk_own (β := Unit) Bx _ (fun _ => _)) _) () X Y row h2 hgr hr, h3⟩) ?assign ?body ?done ?stop
      case assign =>
        rintro l pre x W K ⟨i1, i2, i3, i4⟩ hK
        gi_wp2
        exact hK _ _ ((KeepsOthers.alloc _ _).from _) (Kt.of (below_box W _) (Nat.le_refl _)) ⟨i1.below (below_box W _) (Nat.le_refl _), i2, i3.trans ((below_box W _).mono i3.size), by simp; omega⟩ ⟨W.heap.size, i4, bk_new W _ _, rfl⟩
      case body =>
        rintro l pre x a' W hl _ ⟨i1, i2, i3, i4⟩ ⟨Bx, hBx, bX, rfl⟩ hlt
        have HM : Hid ((pre ++ [x]).map (·.1) = pre.map (·.1) ++ [x.1]) := List.map_append
        have HN : Hid (((pre ++ [x]).length : Int) = (pre.length : Int) + 1) := by show _ = _; simp
        have hN64 : (pre.length : Int) ≤ 64 := by omega
        have hN0 : (0 : Int) ≤ (pre.length : Int) := by omega
        have HZ : Hid ((0 : Int) < (pre.length : Int) → pre.map (·.1) ≠ []) := by
          intro h0 e
          have := congrArg List.length e
          simp at this
          simp [this] at h0
        have HT : Hid (dels L ((pre ++ [x]).map (·.1)) = del (dels L (pre.map (·.1))) x.1.1) := by show _ = _; rw [HM.out, dels_snoc]
        have HLa : Hid (lastK ((pre ++ [x]).map (·.1)) = x.1.1) := by show _ = _; rw [HM.out, lastK_snoc]
        have HSo : Hid (Srt (pre.map (·.1) ++ [x.1]) → pre.map (·.1) ≠ [] → bef (lastK (pre.map (·.1))) x.1.1) := fun h1 h2 => lastK_srt h1 h2
        generalize (pre.length : Int) = N at *
        generalize lastK (pre.map (·.1)) = la at *
        generalize dels L (pre.map (·.1)) = T at *
        obtain ⟨l1, l2, l3, l4⟩ := i1.lt
        have k0 := i1.hbt.cell 0 _ rfl
        have n0 := i1.hbn.cell 0 _ rfl
        have s0 := i1.hst.cell 0 _ rfl
        have la0 := i1.hbl.cell 0 _ rfl
        have la1 := i1.hbl.cell 1 _ rfl
        have la2 := i1.hbl.cell 2 _ rfl
        have x0 := bX.cell 0 _ rfl
        have x1 := bX.cell 1 _ rfl
        have x2 := bX.cell 2 _ rfl
        by_cases h0 : 0 < N
        · have d0 : decide (0 < N) = true := decide_eq_true h0
          by_cases hb : bef la x.1.1
          · have HBf : decide (bef la x.1.1) = true := decide_eq_true hb
            gi_wp2_with fail
            refine ⟨trivial, ?_⟩
            gi_at_call 26
            refine (CallsIn.inRound l (callsIn_wide.2 (before_calls la x.1.1 _))).mono ?_
            rintro e Wb ⟨rfl, bb⟩
            rw [HBf]
            have i5 := i1.below bb (Nat.le_refl _)
            have bX5 := bX.below bb bX.lt
            have KF5 := keepsFrom_below (m := wr.heap.size + 3) bb (Nat.le_refl _)
            have KT5 := Kt.of (m := wr.heap.size + 3) bb (Nat.le_refl _)
            have BB5 := i3.trans (bb.mono i3.size)
            have sz5 := Nat.le_trans i4 bb.size
            clear k0 n0 s0 la0 la1 la2 x0 x1 x2
            have x0 := bX5.cell 0 _ rfl
            have x1 := bX5.cell 1 _ rfl
            have x2 := bX5.cell 2 _ rfl
            have k0 := i5.hbt.cell 0 _ rfl
            have la0 := i5.hbl.cell 0 _ rfl
            have la1 := i5.hbl.cell 1 _ rfl
            have la2 := i5.hbl.cell 2 _ rfl
            have hB1 : But (wr.heap.size + 1) Wb.heap.size Wb (((Wb.setCell ⟨wr.heap.size + 1, 0, none⟩ (.int .i64 x.1.1.1)).setCell ⟨wr.heap.size + 1, 1, none⟩ (.int .i64 x.1.1.2.1)).setCell ⟨wr.heap.size + 1, 2, none⟩ (.int .i64 x.1.1.2.2)) := (((But.refl (wr.heap.size + 1) Wb.heap.size Wb).set (p := ⟨wr.heap.size + 1, 0, none⟩) rfl _).set (p := ⟨wr.heap.size + 1, 1, none⟩) rfl _).set (p := ⟨wr.heap.size + 1, 2, none⟩) rfl _
            have L1 : BK (((Wb.setCell ⟨wr.heap.size + 1, 0, none⟩ (.int .i64 x.1.1.1)).setCell ⟨wr.heap.size + 1, 1, none⟩ (.int .i64 x.1.1.2.1)).setCell ⟨wr.heap.size + 1, 2, none⟩ (.int .i64 x.1.1.2.2)) (wr.heap.size + 1) #[.int .i64 x.1.1.1, .int .i64 x.1.1.2.1, .int .i64 x.1.1.2.2] 24 := ((i5.hbl.set 0 _).set 1 _).set 2 _
            have j1 := i5.setL L1 hB1 (Nat.le_refl _)
            have KF1 := KF5.trans (keepsFrom_but (m := wr.heap.size + 3) hB1 (Nat.le_refl _) i5.hbl)
            have KT1 := KT5.trans (Kt.other (m := wr.heap.size + 3) hB1 (Nat.le_refl _) i5.hbl (by decide))
            have BB1 := BB5.trans (hB1.below BB5.size (by omega))
            have sz1 : wr.heap.size + 3 ≤ (((Wb.setCell ⟨wr.heap.size + 1, 0, none⟩ (.int .i64 x.1.1.1)).setCell ⟨wr.heap.size + 1, 1, none⟩ (.int .i64 x.1.1.2.1)).setCell ⟨wr.heap.size + 1, 2, none⟩ (.int .i64 x.1.1.2.2)).heap.size := Nat.le_trans sz5 hB1.size
            have lt1 := L1.lt
            have k1 := j1.hbt.cell 0 _ rfl
            obtain ⟨SS, _, _, KS⟩ := j1.tab.ex
            have f0 := i5.hbl.frozen 0
            have f1 := i5.hbl.frozen 1
            have f2 := i5.hbl.frozen 2
            have z0 := (BK.but bX5 hB1 bX5.lt (by omega)).cell 0 _ rfl
            have z1 := (BK.but bX5 hB1 bX5.lt (by omega)).cell 1 _ rfl
            have z2 := (BK.but bX5 hB1 bX5.lt (by omega)).cell 2 _ rfl
            have hw3 : IntKind.i64.wrap (N + 1) = N + 1 := by rw [IntKind.wrap_i64]; omega
            have hw7 : IntKind.i64.wrap st = st := by rw [IntKind.wrap_i64]; omega
            have hdrop := drop_calls j1.tab x.1.1
            by_cases hcm : st < N + 1
            · have dc : decide (st < N + 1) = true := decide_eq_true hcm
              gi_wp2_with (refine ⟨trivial, ?_⟩; gi_at_call 14; refine (CallsIn.inRound l (callsIn_wide.2 hdrop)).mono ?_; clear hdrop; rintro e V2 ⟨rfl, T2, q2⟩; have j2 := j1.drop T2 q2 (Nat.le_refl _); have n2 := j2.hbn.cell 0 _ rfl; have g2 := j2.hbn.frozen 0; have s2 := j2.hst.cell 0 _ rfl; have lt2 := j2.hbn.lt)
              have hB3 : But wr.heap.size V2.heap.size V2 (V2.setCell ⟨wr.heap.size, 0, none⟩ (.int .i64 (N + 1))) := (But.refl wr.heap.size V2.heap.size V2).set (p := ⟨wr.heap.size, 0, none⟩) rfl _
              have j3 := j2.setN (j2.hbn.set 0 (.int .i64 (N + 1))) hB3 (Nat.le_refl _)
              have KF3 := (KF1.trans (keepsFrom_but (m := wr.heap.size + 3) q2 (Nat.le_refl _) KS)).trans (keepsFrom_but (m := wr.heap.size + 3) hB3 (Nat.le_refl _) j2.hbn)
              have KT3 := (KT1.trans (Kt.but (m := wr.heap.size + 3) q2 (Nat.le_refl _) (by omega))).trans (Kt.other (m := wr.heap.size + 3) hB3 (Nat.le_refl _) j2.hbn (by decide))
              have BB2 := BB1.trans (q2.below BB1.size (by omega))
              have BB3 := BB2.trans (hB3.below BB2.size (by omega))
              have sz3 : wr.heap.size + 3 ≤ (V2.setCell ⟨wr.heap.size, 0, none⟩ (.int .i64 (N + 1))).heap.size := Nat.le_trans sz1 (Nat.le_trans q2.size hB3.size)
              refine ⟨by rw [hs7]; exact KF3, .inl ⟨rfl, ?_, by rw [HN.out]; omega, BB3, sz3⟩⟩
              rw [HT.out, HN.out, HLa.out]
              exact j3
            · have dc : decide (st < N + 1) = false := decide_eq_false hcm
              gi_wp2_with (refine ⟨trivial, ?_⟩; gi_at_call 14; refine (CallsIn.inRound l (callsIn_wide.2 hdrop)).mono ?_; clear hdrop; rintro e V2 ⟨rfl, T2, q2⟩; have j2 := j1.drop T2 q2 (Nat.le_refl _); have n2 := j2.hbn.cell 0 _ rfl; have g2 := j2.hbn.frozen 0; have s2 := j2.hst.cell 0 _ rfl; have lt2 := j2.hbn.lt)
              have hB3 : But wr.heap.size V2.heap.size V2 (V2.setCell ⟨wr.heap.size, 0, none⟩ (.int .i64 (N + 1))) := (But.refl wr.heap.size V2.heap.size V2).set (p := ⟨wr.heap.size, 0, none⟩) rfl _
              have j3 := j2.setN (j2.hbn.set 0 (.int .i64 (N + 1))) hB3 (Nat.le_refl _)
              have KF3 := (KF1.trans (keepsFrom_but (m := wr.heap.size + 3) q2 (Nat.le_refl _) KS)).trans (keepsFrom_but (m := wr.heap.size + 3) hB3 (Nat.le_refl _) j2.hbn)
              have KT3 := (KT1.trans (Kt.but (m := wr.heap.size + 3) q2 (Nat.le_refl _) (by omega))).trans (Kt.other (m := wr.heap.size + 3) hB3 (Nat.le_refl _) j2.hbn (by decide))
              have BB2 := BB1.trans (q2.below BB1.size (by omega))
              have BB3 := BB2.trans (hB3.below BB2.size (by omega))
              have sz3 : wr.heap.size + 3 ≤ (V2.setCell ⟨wr.heap.size, 0, none⟩ (.int .i64 (N + 1))).heap.size := Nat.le_trans sz1 (Nat.le_trans q2.size hB3.size)
              refine ⟨by rw [hs7]; exact KF3, by rw [hs7]; exact KT3, ?_, by rw [HN.out]; omega, BB3, sz3⟩
              rw [HT.out, HN.out, HLa.out]
              exact j3
          · have HBf : decide (bef la x.1.1) = false := decide_eq_false hb
            gi_wp2_with fail
            refine ⟨trivial, ?_⟩
            gi_at_call 26
            refine (CallsIn.inRound l (callsIn_wide.2 (before_calls la x.1.1 _))).mono ?_
            rintro e Wb ⟨rfl, bb⟩
            rw [HBf]
            have i5 := i1.below bb (Nat.le_refl _)
            have bX5 := bX.below bb bX.lt
            have KF5 := keepsFrom_below (m := wr.heap.size + 3) bb (Nat.le_refl _)
            have KT5 := Kt.of (m := wr.heap.size + 3) bb (Nat.le_refl _)
            have BB5 := i3.trans (bb.mono i3.size)
            have sz5 := Nat.le_trans i4 bb.size
            have c5 := i5.hrs.cell 0 _ rfl
            have f5 := i5.hrs.frozen 0
            gi_wp2
            have hB6 : But (w.heap.size + 1 + 1 + 1 + 1) Wb.heap.size Wb (Wb.setCell ⟨w.heap.size + 1 + 1 + 1 + 1, 0, none⟩ (.bool false)) := (But.refl (w.heap.size + 1 + 1 + 1 + 1) Wb.heap.size Wb).set (p := ⟨w.heap.size + 1 + 1 + 1 + 1, 0, none⟩) rfl _
            refine ⟨by rw [hs7]; exact KF5.trans (keepsFrom_but (m := wr.heap.size + 3) hB6 (Nat.le_refl _) i5.hrs), .inr ⟨rfl, ?_⟩⟩
            rw [HM.out]
            exact fun hsr => hb (HSo.out hsr (HZ.out h0))
        · have d0 : decide (0 < N) = false := decide_eq_false h0
          have hB1 : But (wr.heap.size + 1) W.heap.size W (((W.setCell ⟨wr.heap.size + 1, 0, none⟩ (.int .i64 x.1.1.1)).setCell ⟨wr.heap.size + 1, 1, none⟩ (.int .i64 x.1.1.2.1)).setCell ⟨wr.heap.size + 1, 2, none⟩ (.int .i64 x.1.1.2.2)) := (((But.refl (wr.heap.size + 1) W.heap.size W).set (p := ⟨wr.heap.size + 1, 0, none⟩) rfl _).set (p := ⟨wr.heap.size + 1, 1, none⟩) rfl _).set (p := ⟨wr.heap.size + 1, 2, none⟩) rfl _
          have L1 : BK (((W.setCell ⟨wr.heap.size + 1, 0, none⟩ (.int .i64 x.1.1.1)).setCell ⟨wr.heap.size + 1, 1, none⟩ (.int .i64 x.1.1.2.1)).setCell ⟨wr.heap.size + 1, 2, none⟩ (.int .i64 x.1.1.2.2)) (wr.heap.size + 1) #[.int .i64 x.1.1.1, .int .i64 x.1.1.2.1, .int .i64 x.1.1.2.2] 24 := ((i1.hbl.set 0 _).set 1 _).set 2 _
          have j1 := i1.setL L1 hB1 (Nat.le_refl _)
          have KF1 := (KeepsFrom.refl (wr.heap.size + 3) W).trans (keepsFrom_but (m := wr.heap.size + 3) hB1 (Nat.le_refl _) i1.hbl)
          have KT1 := (Kt.of (m := wr.heap.size + 3) (Below.refl W.heap.size W) (Nat.le_refl _)).trans (Kt.other (m := wr.heap.size + 3) hB1 (Nat.le_refl _) i1.hbl (by decide))
          have BB1 := i3.trans (hB1.below i3.size (by omega))
          have sz1 : wr.heap.size + 3 ≤ (((W.setCell ⟨wr.heap.size + 1, 0, none⟩ (.int .i64 x.1.1.1)).setCell ⟨wr.heap.size + 1, 1, none⟩ (.int .i64 x.1.1.2.1)).setCell ⟨wr.heap.size + 1, 2, none⟩ (.int .i64 x.1.1.2.2)).heap.size := Nat.le_trans i4 hB1.size
          have lt1 := L1.lt
          have k1 := j1.hbt.cell 0 _ rfl
          obtain ⟨SS, _, _, KS⟩ := j1.tab.ex
          have f0 := i1.hbl.frozen 0
          have f1 := i1.hbl.frozen 1
          have f2 := i1.hbl.frozen 2
          have z0 := (BK.but bX hB1 bX.lt (by omega)).cell 0 _ rfl
          have z1 := (BK.but bX hB1 bX.lt (by omega)).cell 1 _ rfl
          have z2 := (BK.but bX hB1 bX.lt (by omega)).cell 2 _ rfl
          have hw3 : IntKind.i64.wrap (N + 1) = N + 1 := by rw [IntKind.wrap_i64]; omega
          have hw7 : IntKind.i64.wrap st = st := by rw [IntKind.wrap_i64]; omega
          have hdrop := drop_calls j1.tab x.1.1
          by_cases hcm : st < N + 1
          · have dc : decide (st < N + 1) = true := decide_eq_true hcm
            gi_wp2_with fail
            refine ⟨trivial, ?_⟩
            gi_wp2_with (refine ⟨trivial, ?_⟩; gi_at_call 14; refine (CallsIn.inRound l (callsIn_wide.2 hdrop)).mono ?_; clear hdrop; rintro e V2 ⟨rfl, T2, q2⟩; have j2 := j1.drop T2 q2 (Nat.le_refl _); have n2 := j2.hbn.cell 0 _ rfl; have g2 := j2.hbn.frozen 0; have s2 := j2.hst.cell 0 _ rfl; have lt2 := j2.hbn.lt)
            have hB3 : But wr.heap.size V2.heap.size V2 (V2.setCell ⟨wr.heap.size, 0, none⟩ (.int .i64 (N + 1))) := (But.refl wr.heap.size V2.heap.size V2).set (p := ⟨wr.heap.size, 0, none⟩) rfl _
            have j3 := j2.setN (j2.hbn.set 0 (.int .i64 (N + 1))) hB3 (Nat.le_refl _)
            have KF3 := (KF1.trans (keepsFrom_but (m := wr.heap.size + 3) q2 (Nat.le_refl _) KS)).trans (keepsFrom_but (m := wr.heap.size + 3) hB3 (Nat.le_refl _) j2.hbn)
            have KT3 := (KT1.trans (Kt.but (m := wr.heap.size + 3) q2 (Nat.le_refl _) (by omega))).trans (Kt.other (m := wr.heap.size + 3) hB3 (Nat.le_refl _) j2.hbn (by decide))
            have BB2 := BB1.trans (q2.below BB1.size (by omega))
            have BB3 := BB2.trans (hB3.below BB2.size (by omega))
            have sz3 : wr.heap.size + 3 ≤ (V2.setCell ⟨wr.heap.size, 0, none⟩ (.int .i64 (N + 1))).heap.size := Nat.le_trans sz1 (Nat.le_trans q2.size hB3.size)
            refine ⟨by rw [hs7]; exact KF3, .inl ⟨rfl, ?_, by rw [HN.out]; omega, BB3, sz3⟩⟩
            rw [HT.out, HN.out, HLa.out]
            exact j3
          · have dc : decide (st < N + 1) = false := decide_eq_false hcm
            gi_wp2_with fail
            refine ⟨trivial, ?_⟩
            gi_wp2_with (refine ⟨trivial, ?_⟩; gi_at_call 14; refine (CallsIn.inRound l (callsIn_wide.2 hdrop)).mono ?_; clear hdrop; rintro e V2 ⟨rfl, T2, q2⟩; have j2 := j1.drop T2 q2 (Nat.le_refl _); have n2 := j2.hbn.cell 0 _ rfl; have g2 := j2.hbn.frozen 0; have s2 := j2.hst.cell 0 _ rfl; have lt2 := j2.hbn.lt)
            have hB3 : But wr.heap.size V2.heap.size V2 (V2.setCell ⟨wr.heap.size, 0, none⟩ (.int .i64 (N + 1))) := (But.refl wr.heap.size V2.heap.size V2).set (p := ⟨wr.heap.size, 0, none⟩) rfl _
            have j3 := j2.setN (j2.hbn.set 0 (.int .i64 (N + 1))) hB3 (Nat.le_refl _)
            have KF3 := (KF1.trans (keepsFrom_but (m := wr.heap.size + 3) q2 (Nat.le_refl _) KS)).trans (keepsFrom_but (m := wr.heap.size + 3) hB3 (Nat.le_refl _) j2.hbn)
            have KT3 := (KT1.trans (Kt.but (m := wr.heap.size + 3) q2 (Nat.le_refl _) (by omega))).trans (Kt.other (m := wr.heap.size + 3) hB3 (Nat.le_refl _) j2.hbn (by decide))
            have BB2 := BB1.trans (q2.below BB1.size (by omega))
            have BB3 := BB2.trans (hB3.below BB2.size (by omega))
            have sz3 : wr.heap.size + 3 ≤ (V2.setCell ⟨wr.heap.size, 0, none⟩ (.int .i64 (N + 1))).heap.size := Nat.le_trans sz1 (Nat.le_trans q2.size hB3.size)
            refine ⟨by rw [hs7]; exact KF3, by rw [hs7]; exact KT3, ?_, by rw [HN.out]; omega, BB3, sz3⟩
            rw [HT.out, HN.out, HLa.out]
            exact j3
      case done =>
        rintro D ys W hD hys ⟨i1, i2, i3, i4⟩ hK
        rw [hys] at i1
        have hyl : ys.length = L.length := by have := congrArg List.length hys; simpa using this
        rw [hyl] at i1 i2
        refine TAIL D W _ _ _ i1 (by omega) ?_ i3 i4 (by omega) hK
        rw [show dels L L = [] by have := dels_take L L.length; rwa [List.take_length, List.drop_length] at this]
        simp
      case stop =>
        rintro D cd pre W hD hpre hix hK
        rcases hix with ⟨rfl, i1, i2, i3, i4⟩ | ⟨_, h2⟩
        · refine wpIn_exit ?_
          have hle : (pre.length : Int) ≤ L.length := by have := hpre.length_le; simp at this; omega
          refine TAIL D W _ _ _ i1 (by omega) ?_ i3 i4 (by omega) hK
          rw [dels_pre hpre, List.length_drop, List.length_map]
          omega
        · exact absurd (List.Pairwise.sublist hpre.sublist hsrt) h2
end Go.Proofs.Ytgimmaancnlbcaa
