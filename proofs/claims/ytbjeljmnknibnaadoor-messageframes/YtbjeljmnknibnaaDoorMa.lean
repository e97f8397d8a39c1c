/- Proved here: the answer to a message, told by the code and by the document. Conditions: as each theorem states them. -/
import Derived.Test.YtbjeljmnknibnaaDoorMf
import Derived.Test.YtbjeljmnknibnaaDoorMUn
import Derived.Test.YtbjeljmnknibnaaDoorCk
import Derived.Laws.Rows
namespace Go.Proofs.YtbjeljmnknibnaaDoor
set_option linter.unusedSimpArgs false
set_option linter.unusedVariables false
set_option maxRecDepth 20000
open Go.RowKit Go.Shelf

/-- What an answer bears: the cause, where it is one. -/
def anL (cause : Int) : List El := if 1 ≤ cause ∧ cause ≤ 127 then [causeE cause.toNat] else []
theorem anL_yes {c : Nat} (h1 : 1 ≤ c) (h2 : c ≤ 127) : anL (c : Int) = [causeE c] := by unfold anL; rw [if_pos (by omega)]; rfl
theorem anL_no {c : Int} (h : ¬ (1 ≤ c ∧ c ≤ 127)) : anL c = [] := by unfold anL; rw [if_neg h]
/-- What Answer answers. -/
def AnAll (r : Int) (b : Bool) (kind cause : Int) (w : World) (e : Ending) (w' : World) : Prop :=
  ∃ (a : Option Addr) (n c : Nat), e = .returned (meV r (!b) kind a n c) ∧ IsI w'.heap.size w' a n (anL cause) ∧ n ≤ 1 ∧ Below w.heap.size w w'
theorem an_no {r : Int} {b : Bool} {kind cause : Int} (h : anL cause = []) {w w' : World} (hb : Below w.heap.size w w') : AnAll r b kind cause w (.returned (meV r (!b) kind none 0 0)) w' :=
  ⟨none, 0, 0, rfl, by rw [h]; exact isI_nil _ _ _, by decide, hb⟩
theorem an_yes {r : Int} {b : Bool} {kind cause : Int} {x : El} (h : anL cause = [x]) {w w' : World} {g l c : Nat} {a : Option Addr} {t : TypeId} (k : BK w' g #[.int .u8 (x.id.toNat : Int), .slice a l c] t) {base : Nat} (o : OwnB base w' a l c x.body) (hb : Below w.heap.size w w') :
    AnAll r b kind cause w (.returned (meV r (!b) kind (some ⟨g, 0, none⟩) 1 1)) w' :=
  ⟨some ⟨g, 0, none⟩, 1, 1, rfl, by rw [h]; exact isI_bk k o.isB.1 o.isB.2.1 o.isB.2.2, Nat.le_refl _, hb⟩
theorem OwnB.but {r base : Nat} {w w' : World} {a : Option Addr} {n c : Nat} {zs : List UInt8} (h : OwnB base w a n c zs) (hb : But r w.heap.size w w') (hr : r < base) : OwnB base w' a n c zs :=
  h.keep fun k hk hk2 => hb.block k hk2 (by omega)
theorem set3_M {w : World} {g : Nat} {r : Int} {b : Bool} {k : Int} {a : Option Addr} {n c : Nat} (h : BK w g (meC r b k a n c) 24) (a2 : Option Addr) (n2 c2 : Nat) : BK (w.setCell ⟨g, 3, none⟩ (.slice a2 n2 c2)) g (meC r b k a2 n2 c2) 24 := h.set 3 _

set_option maxHeartbeats 2000000 in
theorem answer_no (r : Int) (b : Bool) (k : Int) (a : Option Addr) (n c : Nat) (kind cause : Int) (w : World) (h : ¬ (0 ≤ cause ∧ cause ≤ 127)) :
    Calls Tryd.prog 21 #[meV r b k a n c, .int .i64 kind, .int .i64 cause] w (AnAll r b kind cause w) := by
  have B0 : Below w.heap.size w (((w.alloc (.cells (meC r b k a n c) 24)).alloc (.cells (meC 0 false 0 none 0 0) 24)).alloc (.cells (meC r (!b) kind none 0 0) 24)) := (((Below.refl _ w).alloc (Nat.le_refl _) _).alloc (by simp) _).alloc (by simp; omega) _
  have K6 : BK (((w.alloc (.cells (meC r b k a n c) 24)).alloc (.cells (meC 0 false 0 none 0 0) 24)).alloc (.cells (meC r (!b) kind none 0 0) 24)) (w.heap.size + 1) (meC 0 false 0 none 0 0) 24 := by
    have := (bk_new (w.alloc (.cells (meC r b k a n c) 24)) (meC 0 false 0 none 0 0) 24).alloc (.cells (meC r (!b) kind none 0 0) 24)
    rwa [World.size_alloc] at this
  have K7 : BK (((w.alloc (.cells (meC r b k a n c) 24)).alloc (.cells (meC 0 false 0 none 0 0) 24)).alloc (.cells (meC r (!b) kind none 0 0) 24)) (w.heap.size + 2) (meC r (!b) kind none 0 0) 24 := by
    have := bk_new ((w.alloc (.cells (meC r b k a n c) 24)).alloc (.cells (meC 0 false 0 none 0 0) 24)) (meC r (!b) kind none 0 0) 24
    rwa [World.size_alloc, World.size_alloc] at this
  have S0 : w.heap.size + 3 ≤ (((w.alloc (.cells (meC r b k a n c) 24)).alloc (.cells (meC 0 false 0 none 0 0) 24)).alloc (.cells (meC r (!b) kind none 0 0) 24)).heap.size := by simp
  have HA : Hid (anL cause = []) := anL_no (by omega)
  have HC := cause_no cause h (((w.alloc (.cells (meC r b k a n c) 24)).alloc (.cells (meC 0 false 0 none 0 0) 24)).alloc (.cells (meC r (!b) kind none 0 0) 24))
  clear h
  go_enter Tryd.func21, Tryd.ntmps21
  go_wp2_with fail
  refine HC.mono ?_
  rintro e w4 ⟨rfl, b4⟩
  replace K6 := K6.below b4 K6.lt
  replace K7 := K7.below b4 K7.lt
  have B4 := B0.trans (b4.mono B0.size)
  have A5 : Below w4.heap.size w4 (w4.alloc (.cells #[.int .u8 0, .slice none 0 0] 60)) := (Below.refl _ w4).alloc (Nat.le_refl _) _
  replace K6 := K6.below A5 K6.lt
  replace K7 := K7.below A5 K7.lt
  have B5 := B4.trans (A5.mono B4.size)
  clear HC b4 B0 S0 A5 B4
  go_wp2_with (first | (with_reducible show wpList _ _ _ (Oper.mk _ (Op.load 24 _) _ _ _ _ :: _) _ _; refine wpList_ld rfl rfl rfl (run_ldM (by with_reducible assumption)) ?_; (try simp only [Act.put, List.setIfInBounds_toArray, List.set_cons_zero, List.set_cons_succ, World.size_alloc])) | (with_reducible show wpList _ _ _ (Oper.mk _ (Op.store 24 (Operand.tmp 6) _) _ _ _ _ :: _) _ _; refine stop_here ?_))
  refine ⟨?_⟩
  refine wpList_st rfl rfl rfl rfl K6 size_M rfl (by simp [Value.oneCell']) ?_
  intro w9 K9 b9 but9 z9
  go_wp2_with (with_reducible show bodyPost _ _ _ _ _ _; refine stop_here ?_)
  refine ⟨?_⟩
  refine bodyPost_ret (v := meV r (!b) kind none 0 0) (results_cell_row Tryd.results21 _ _ _ _ _ _ _ rfl K9 Tryd.underlying24 rfl size_M) rfl (an_no HA.out (B5.trans (b9 _ (by omega))))

set_option maxHeartbeats 2000000 in
theorem answer_ok (r : Int) (b : Bool) (k : Int) (a : Option Addr) (n c : Nat) (kind cause : Int) (w : World) (cc : Nat) (hcc : cause = cc) (h : cc ≤ 127) :
    Calls Tryd.prog 21 #[meV r b k a n c, .int .i64 kind, .int .i64 cause] w (AnAll r b kind cause w) := by
  have B0 : Below w.heap.size w (((w.alloc (.cells (meC r b k a n c) 24)).alloc (.cells (meC 0 false 0 none 0 0) 24)).alloc (.cells (meC r (!b) kind none 0 0) 24)) := (((Below.refl _ w).alloc (Nat.le_refl _) _).alloc (by simp) _).alloc (by simp; omega) _
  have K6 : BK (((w.alloc (.cells (meC r b k a n c) 24)).alloc (.cells (meC 0 false 0 none 0 0) 24)).alloc (.cells (meC r (!b) kind none 0 0) 24)) (w.heap.size + 1) (meC 0 false 0 none 0 0) 24 := by
    have := (bk_new (w.alloc (.cells (meC r b k a n c) 24)) (meC 0 false 0 none 0 0) 24).alloc (.cells (meC r (!b) kind none 0 0) 24)
    rwa [World.size_alloc] at this
  have K7 : BK (((w.alloc (.cells (meC r b k a n c) 24)).alloc (.cells (meC 0 false 0 none 0 0) 24)).alloc (.cells (meC r (!b) kind none 0 0) 24)) (w.heap.size + 2) (meC r (!b) kind none 0 0) 24 := by
    have := bk_new ((w.alloc (.cells (meC r b k a n c) 24)).alloc (.cells (meC 0 false 0 none 0 0) 24)) (meC r (!b) kind none 0 0) 24
    rwa [World.size_alloc, World.size_alloc] at this
  have S0 : w.heap.size + 3 ≤ (((w.alloc (.cells (meC r b k a n c) 24)).alloc (.cells (meC 0 false 0 none 0 0) 24)).alloc (.cells (meC r (!b) kind none 0 0) 24)).heap.size := by simp
  have HC := cause_ok cc h (((w.alloc (.cells (meC r b k a n c) 24)).alloc (.cells (meC 0 false 0 none 0 0) 24)).alloc (.cells (meC r (!b) kind none 0 0) 24))
  subst hcc
  by_cases h0 : cc = 0
  · subst h0
    have HA : Hid (anL ((0 : Nat) : Int) = []) := anL_no (by omega)
    clear h
    go_enter Tryd.func21, Tryd.ntmps21
    go_wp2_with fail
    refine HC.mono ?_
    rintro e w4 ⟨⟨a5, l5, c5, rfl, o4⟩, b4⟩
    have hid : (causeE 0).id = 8 := rfl
    rw [hid]
    replace K6 := K6.below b4 K6.lt
    replace K7 := K7.below b4 K7.lt
    have B4 := B0.trans (b4.mono B0.size)
    have A5 : Below w4.heap.size w4 (w4.alloc (.cells #[.int .u8 8, .slice a5 l5 c5] 60)) := (Below.refl _ w4).alloc (Nat.le_refl _) _
    replace K6 := K6.below A5 K6.lt
    replace K7 := K7.below A5 K7.lt
    have B5 := B4.trans (A5.mono B4.size)
    clear HC b4 B0 S0 A5 B4 o4 hid
    go_wp2_with (first | (with_reducible show wpList _ _ _ (Oper.mk _ (Op.load 24 _) _ _ _ _ :: _) _ _; refine wpList_ld rfl rfl rfl (run_ldM (by with_reducible assumption)) ?_; (try simp only [Act.put, List.setIfInBounds_toArray, List.set_cons_zero, List.set_cons_succ, World.size_alloc])) | (with_reducible show wpList _ _ _ (Oper.mk _ (Op.store 24 (Operand.tmp 6) _) _ _ _ _ :: _) _ _; refine stop_here ?_))
    refine ⟨?_⟩
    refine wpList_st rfl rfl rfl rfl K6 size_M rfl (by simp [Value.oneCell']) ?_
    intro w9 K9 b9 but9 z9
    go_wp2_with (with_reducible show bodyPost _ _ _ _ _ _; refine stop_here ?_)
    refine ⟨?_⟩
    refine bodyPost_ret (v := meV r (!b) kind none 0 0) (results_cell_row Tryd.results21 _ _ _ _ _ _ _ rfl K9 Tryd.underlying24 rfl size_M) rfl (an_no HA.out (B5.trans (b9 _ (by omega))))
  · have HA : Hid (anL (cc : Int) = [causeE cc]) := anL_yes (by omega) h
    have q1 : (((cc : Nat) : Int) != 0) = true := by simp; omega
    clear h h0
    go_enter Tryd.func21, Tryd.ntmps21
    go_wp2_with fail
    refine HC.mono ?_
    rintro e w4 ⟨⟨a5, l5, c5, rfl, o4⟩, b4⟩
    obtain ⟨x, hx⟩ : ∃ x, causeE cc = x := ⟨_, rfl⟩
    have hid : x.id = 8 := by rw [← hx]; rfl
    rw [hx] at o4 HA
    rw [hx, hid]
    have HD : Hid (x.id = 8) := hid
    clear hid hx
    have S4 : w.heap.size + 3 ≤ w4.heap.size := Nat.le_trans S0 b4.size
    replace o4 := o4.mono S0
    replace K6 := K6.below b4 K6.lt
    replace K7 := K7.below b4 K7.lt
    have B4 := B0.trans (b4.mono B0.size)
    have A5 : Below w4.heap.size w4 (w4.alloc (.cells #[.int .u8 8, .slice a5 l5 c5] 60)) := (Below.refl _ w4).alloc (Nat.le_refl _) _
    have IX : BK (w4.alloc (.cells #[.int .u8 8, .slice a5 l5 c5] 60)) w4.heap.size #[.int .u8 8, .slice a5 l5 c5] 60 := bk_new w4 _ _
    replace K6 := K6.below A5 K6.lt
    replace K7 := K7.below A5 K7.lt
    have B5 := B4.trans (A5.mono B4.size)
    have o5 := o4.below A5 (Nat.le_refl _)
    have S5 : w.heap.size + 3 ≤ (w4.alloc (.cells #[.int .u8 8, .slice a5 l5 c5] 60)).heap.size := Nat.le_trans S4 A5.size
    clear HC b4 B0 S0 A5 B4 o4
    go_wp2_with (first | (with_reducible show wpList _ _ _ (Oper.mk _ (Op.load 60 _) _ _ _ _ :: _) _ _; refine wpList_ld rfl rfl rfl (run_ldI (i := 8) IX) ?_; (try simp only [Act.put, List.setIfInBounds_toArray, List.set_cons_zero, List.set_cons_succ, World.size_alloc])) | with_reducible show wpList _ _ _ (Oper.mk _ (Op.buildSlice 22 _ _) _ _ _ _ :: _) _ _; refine stop_here ?_)
    refine ⟨?_⟩
    generalize w4.alloc (.cells #[.int .u8 8, .slice a5 l5 c5] 60) = w5 at *
    refine wpList_slI (i := 8) (ab := a5) (l := l5) (cb := c5) rfl (by rfl) (by rfl) ?_
    intro b6 w6 hb6 G6 e6
    have o6 := o5.below e6 (Nat.le_refl _)
    replace K6 := K6.below e6 K6.lt
    replace K7 := K7.below e6 K7.lt
    have B6 := B5.trans (e6.mono B5.size)
    have p3 := K7.cell 3 _ rfl
    have z3 := K7.frozen 3
    have kl := K7.lt
    have s6 : w.heap.size + 3 ≤ b6 := by omega
    have K8 := set3_M K7 (some ⟨b6, 0, none⟩) 1 1
    have K5 := K6.setOther (p := ⟨w.heap.size + 2, 3, none⟩) (by show w.heap.size + 1 ≠ w.heap.size + 2; omega) (.slice (some ⟨b6, 0, none⟩) 1 1)
    have G8 := G6.setOther (p := ⟨w.heap.size + 2, 3, none⟩) (by show b6 ≠ w.heap.size + 2; omega) (.slice (some ⟨b6, 0, none⟩) 1 1)
    have o8 := o6.keep (w' := w6.setCell ⟨w.heap.size + 2, 3, none⟩ (.slice (some ⟨b6, 0, none⟩) 1 1)) fun k hk _ => Below.heap_setCell _ _ _ _ (by show k ≠ w.heap.size + 2; omega)
    have B8 := B6.setCell (p := ⟨w.heap.size + 2, 3, none⟩) (by show w.heap.size ≤ w.heap.size + 2; omega) (.slice (some ⟨b6, 0, none⟩) 1 1)
    clear e6 o5 B5 B6 hb6
    go_wp2_with (first | (with_reducible show wpList _ _ _ (Oper.mk _ (Op.load 24 _) _ _ _ _ :: _) _ _; refine wpList_ld rfl rfl rfl (run_ldM (by with_reducible assumption)) ?_; (try simp only [Act.put, List.setIfInBounds_toArray, List.set_cons_zero, List.set_cons_succ, World.size_alloc])) | (with_reducible show wpList _ _ _ (Oper.mk _ (Op.store 24 (Operand.tmp 6) _) _ _ _ _ :: _) _ _; refine stop_here ?_))
    refine ⟨?_⟩
    refine wpList_st rfl rfl rfl rfl K5 size_M rfl (by simp [Value.oneCell']) ?_
    intro w9 K9 b9 but9 z9
    have G9 := G8.but but9 G8.lt (by omega)
    have o9 := o8.but but9 (by omega)
    go_wp2_with (with_reducible show bodyPost _ _ _ _ _ _; refine stop_here ?_)
    refine ⟨?_⟩
    refine bodyPost_ret (v := meV r (!b) kind (some ⟨b6, 0, none⟩) 1 1) (results_cell_row Tryd.results21 _ _ _ _ _ _ _ rfl K9 Tryd.underlying24 rfl size_M) rfl (an_yes HA.out (by rw [HD.out]; exact G9) o9 (B8.trans (b9 _ (by omega))))

theorem answer_calls (r : Int) (b : Bool) (k : Int) (a : Option Addr) (n c : Nat) (kind cause : Int) (w : World) :
    Calls Tryd.prog 21 #[meV r b k a n c, .int .i64 kind, .int .i64 cause] w (AnAll r b kind cause w) := by
  by_cases h : 0 ≤ cause ∧ cause ≤ 127
  · exact answer_ok r b k a n c kind cause w cause.toNat (by omega) (by omega)
  · exact answer_no r b k a n c kind cause w h

set_option maxHeartbeats 2000000 in
theorem refanswer_calls (r : Int) (b : Bool) (k : Int) (a : Option Addr) (n c : Nat) (kind cause : Int) (w : World) :
    Calls Tryd.prog 22 #[meV r b k a n c, .int .i64 kind, .int .i64 cause] w (AnAll r b kind cause w) := by
  have B0 : Below w.heap.size w (((w.alloc (.cells (meC r b k a n c) 24)).alloc (.cells (meC 0 false 0 none 0 0) 24)).alloc (.cells (meC r (!b) kind none 0 0) 24)) := (((Below.refl _ w).alloc (Nat.le_refl _) _).alloc (by simp) _).alloc (by simp; omega) _
  have K6 : BK (((w.alloc (.cells (meC r b k a n c) 24)).alloc (.cells (meC 0 false 0 none 0 0) 24)).alloc (.cells (meC r (!b) kind none 0 0) 24)) (w.heap.size + 1) (meC 0 false 0 none 0 0) 24 := by
    have := (bk_new (w.alloc (.cells (meC r b k a n c) 24)) (meC 0 false 0 none 0 0) 24).alloc (.cells (meC r (!b) kind none 0 0) 24)
    rwa [World.size_alloc] at this
  have K7 : BK (((w.alloc (.cells (meC r b k a n c) 24)).alloc (.cells (meC 0 false 0 none 0 0) 24)).alloc (.cells (meC r (!b) kind none 0 0) 24)) (w.heap.size + 2) (meC r (!b) kind none 0 0) 24 := by
    have := bk_new ((w.alloc (.cells (meC r b k a n c) 24)).alloc (.cells (meC 0 false 0 none 0 0) 24)) (meC r (!b) kind none 0 0) 24
    rwa [World.size_alloc, World.size_alloc] at this
  have S0 : w.heap.size + 3 ≤ (((w.alloc (.cells (meC r b k a n c) 24)).alloc (.cells (meC 0 false 0 none 0 0) 24)).alloc (.cells (meC r (!b) kind none 0 0) 24)).heap.size := by simp
  by_cases h1 : 1 ≤ cause
  · by_cases h2 : cause ≤ 127
    · obtain ⟨cc, rfl⟩ : ∃ cc : Nat, cause = cc := ⟨cause.toNat, by omega⟩
      have HA : Hid (anL (cc : Int) = [causeE cc]) := anL_yes (by omega) (by omega)
      have HW : Hid ((cc : Int) % 256 = ((UInt8.ofNat cc).toNat : Int)) := by show _ = _; rw [byteN]; omega
      have q1 : decide (1 ≤ (cc : Int)) = true := by simpa using h1
      have q2 : decide ((cc : Int) ≤ 127) = true := by simpa using h2
      have HE : Hid (causeE cc = ⟨8, [0, UInt8.ofNat cc]⟩) := rfl
      clear h1 h2
      go_enter Tryd.func22, Tryd.ntmps22
      go_wp2_with (with_reducible show wpList _ _ _ (Oper.mk _ (Op.buildSlice _ _ _) _ _ _ _ :: _) _ _; refine stop_here ?_)
      refine ⟨?_⟩
      rw [HW.out]
      generalize (((w.alloc (.cells (meC r b k a n c) 24)).alloc (.cells (meC 0 false 0 none 0 0) 24)).alloc (.cells (meC r (!b) kind none 0 0) 24)) = w4 at *
      generalize UInt8.ofNat cc = y at *
      refine wpList_slB (zs := [0, y]) (vs := [(0, .int .u8 ((0 : UInt8).toNat : Int)), (1, .int .u8 (y.toNat : Int))]) (by rfl) (w.heap.size + 3) (by rfl) (by rfl) (run_sl2 _ _) rfl (by decide) S0 ?_
      intro b5 w5 hb5 o5 e5
      replace K6 := K6.below e5 K6.lt
      replace K7 := K7.below e5 K7.lt
      have B5 := B0.trans (e5.mono B0.size)
      have S5 := Nat.le_trans S0 e5.size
      clear e5 B0 S0
      go_wp2_with (with_reducible show wpList _ _ _ (Oper.mk _ (Op.buildSlice 22 _ _) _ _ _ _ :: _) _ _; refine stop_here ?_)
      refine ⟨?_⟩
      refine wpList_slI (i := 8) (ab := some ⟨b5, 0, none⟩) (l := 2) (cb := 2) rfl (by rfl) (by rfl) ?_
      intro b6 w6 hb6 G6 e6
      have o6 := o5.below e6 (Nat.le_refl _)
      replace K6 := K6.below e6 K6.lt
      replace K7 := K7.below e6 K7.lt
      have B6 := B5.trans (e6.mono B5.size)
      have p3 := K7.cell 3 _ rfl
      have z3 := K7.frozen 3
      have kl := K7.lt
      have s6 : w.heap.size + 3 ≤ b6 := by omega
      have K8 := set3_M K7 (some ⟨b6, 0, none⟩) 1 1
      have K5 := K6.setOther (p := ⟨w.heap.size + 2, 3, none⟩) (by show w.heap.size + 1 ≠ w.heap.size + 2; omega) (.slice (some ⟨b6, 0, none⟩) 1 1)
      have G8 := G6.setOther (p := ⟨w.heap.size + 2, 3, none⟩) (by show b6 ≠ w.heap.size + 2; omega) (.slice (some ⟨b6, 0, none⟩) 1 1)
      have o8 := o6.keep (w' := w6.setCell ⟨w.heap.size + 2, 3, none⟩ (.slice (some ⟨b6, 0, none⟩) 1 1)) fun k hk _ => Below.heap_setCell _ _ _ _ (by show k ≠ w.heap.size + 2; omega)
      have B8 := B6.setCell (p := ⟨w.heap.size + 2, 3, none⟩) (by show w.heap.size ≤ w.heap.size + 2; omega) (.slice (some ⟨b6, 0, none⟩) 1 1)
      clear e6 o5 B5 B6 hb6
      go_wp2_with (first | (with_reducible show wpList _ _ _ (Oper.mk _ (Op.load 24 _) _ _ _ _ :: _) _ _; refine wpList_ld rfl rfl rfl (run_ldM (by with_reducible assumption)) ?_; (try simp only [Act.put, List.setIfInBounds_toArray, List.set_cons_zero, List.set_cons_succ, World.size_alloc])) | (with_reducible show wpList _ _ _ (Oper.mk _ (Op.store 24 (Operand.tmp 6) _) _ _ _ _ :: _) _ _; refine stop_here ?_))
      refine ⟨?_⟩
      refine wpList_st rfl rfl rfl rfl K5 size_M rfl (by simp [Value.oneCell']) ?_
      intro w9 K9 b9 but9 z9
      have G9 := G8.but but9 G8.lt (by omega)
      have o9 := o8.but but9 (by omega)
      go_wp2_with (with_reducible show bodyPost _ _ _ _ _ _; refine stop_here ?_)
      refine ⟨?_⟩
      refine bodyPost_ret (v := meV r (!b) kind (some ⟨b6, 0, none⟩) 1 1) (results_cell_row Tryd.results22 _ _ _ _ _ _ _ rfl K9 Tryd.underlying24 rfl size_M) rfl (an_yes (HA.out.trans (by rw [HE.out])) G9 o9 (B8.trans (b9 _ (by omega))))
    · have HA : Hid (anL cause = []) := anL_no (by omega)
      have q1 : decide (1 ≤ cause) = true := by simpa using h1
      have q2 : decide (cause ≤ 127) = false := by simpa using h2
      clear h1 h2
      go_enter Tryd.func22, Tryd.ntmps22
      go_wp2_with (first | (with_reducible show wpList _ _ _ (Oper.mk _ (Op.load 24 _) _ _ _ _ :: _) _ _; refine wpList_ld rfl rfl rfl (run_ldM (by with_reducible assumption)) ?_; (try simp only [Act.put, List.setIfInBounds_toArray, List.set_cons_zero, List.set_cons_succ, World.size_alloc])) | (with_reducible show wpList _ _ _ (Oper.mk _ (Op.store 24 (Operand.tmp 6) _) _ _ _ _ :: _) _ _; refine stop_here ?_))
      refine ⟨?_⟩
      refine wpList_st rfl rfl rfl rfl K6 size_M rfl (by simp [Value.oneCell']) ?_
      intro w9 K9 b9 but9 z9
      go_wp2_with (with_reducible show bodyPost _ _ _ _ _ _; refine stop_here ?_)
      refine ⟨?_⟩
      refine bodyPost_ret (v := meV r (!b) kind none 0 0) (results_cell_row Tryd.results22 _ _ _ _ _ _ _ rfl K9 Tryd.underlying24 rfl size_M) rfl (an_no HA.out (B0.trans (b9 _ (by omega))))
  · have HA : Hid (anL cause = []) := anL_no (by omega)
    have q1 : decide (1 ≤ cause) = false := by simpa using h1
    clear h1
    go_enter Tryd.func22, Tryd.ntmps22
    go_wp2_with (first | (with_reducible show wpList _ _ _ (Oper.mk _ (Op.load 24 _) _ _ _ _ :: _) _ _; refine wpList_ld rfl rfl rfl (run_ldM (by with_reducible assumption)) ?_; (try simp only [Act.put, List.setIfInBounds_toArray, List.set_cons_zero, List.set_cons_succ, World.size_alloc])) | (with_reducible show wpList _ _ _ (Oper.mk _ (Op.store 24 (Operand.tmp 6) _) _ _ _ _ :: _) _ _; refine stop_here ?_))
    refine ⟨?_⟩
    refine wpList_st rfl rfl rfl rfl K6 size_M rfl (by simp [Value.oneCell']) ?_
    intro w9 K9 b9 but9 z9
    go_wp2_with (with_reducible show bodyPost _ _ _ _ _ _; refine stop_here ?_)
    refine ⟨?_⟩
    refine bodyPost_ret (v := meV r (!b) kind none 0 0) (results_cell_row Tryd.results22 _ _ _ _ _ _ _ rfl K9 Tryd.underlying24 rfl size_M) rfl (an_no HA.out (B0.trans (b9 _ (by omega))))
end Go.Proofs.YtbjeljmnknibnaaDoor
