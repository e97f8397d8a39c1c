/- Proved here: how a ledger lies in memory, and what package ledger's functions answer of it. Conditions: as each theorem states them. -/
import Derived.Deep.QuietTactic
import Derived.Deep.RegionHeldLaw
import Derived.Test.YtpljpndegadckaaMk
import Derived.Test.YtpljpndegadckaaSh
namespace Go.Proofs.Ytpljpndegadckaa
set_option linter.unusedSimpArgs false
set_option linter.unusedVariables false
open Go.RowKit Go.Shelf

/-- Below n all but blocks r and q is as it was. -/
structure But2 (r q n : Nat) (w w' : World) : Prop where
  os : w'.os = w.os
  tape : w'.tape = w.tape
  output : w'.output = w.output
  size : w.heap.size ≤ w'.heap.size
  block : ∀ k, k < n → k ≠ r → k ≠ q → w'.heap[k]? = w.heap[k]?
theorem But2.of {r q n : Nat} {w w' : World} (h : Below n w w') : But2 r q n w w' := ⟨h.os, h.tape, h.output, h.size, fun k hk _ _ => h.block k hk⟩
theorem But2.refl (r q n : Nat) (w : World) : But2 r q n w w := But2.of (Below.refl n w)
theorem But2.trans {r q n : Nat} {a b c : World} (h : But2 r q n a b) (k : But2 r q n b c) : But2 r q n a c :=
  ⟨k.os.trans h.os, k.tape.trans h.tape, k.output.trans h.output, Nat.le_trans h.size k.size, fun i hi hr hq => (k.block i hi hr hq).trans (h.block i hi hr hq)⟩
theorem But2.mono {r q n m : Nat} {w w' : World} (h : But2 r q n w w') (hm : m ≤ n) : But2 r q m w w' := ⟨h.os, h.tape, h.output, h.size, fun k hk => h.block k (by omega)⟩
theorem But2.below {r q n m : Nat} {w w' : World} (h : But2 r q n w w') (hm : m ≤ n) (hr : m ≤ r) (hq : m ≤ q) : Below m w w' := ⟨h.os, h.tape, h.output, h.size, fun k hk => h.block k (by omega) (by omega) (by omega)⟩
theorem But2.left {r q n : Nat} {w w' : World} (h : But r n w w') : But2 r q n w w' := ⟨h.os, h.tape, h.output, h.size, fun k hk hr _ => h.block k hk hr⟩
theorem But2.right {r q n : Nat} {w w' : World} (h : But q n w w') : But2 r q n w w' := ⟨h.os, h.tape, h.output, h.size, fun k hk _ hq => h.block k hk hq⟩
theorem but_grown {w w' : World} {b : Nat} (hg : w.grownBy w' (some b)) : But b w.heap.size w w' := ⟨hg.os, hg.tape, hg.output, hg.size, fun k hk hr => hg.block k hk (fun e => hr (Option.some.inj e))⟩
theorem BK.but2 {r q n b : Nat} {w w' : World} {vs : Array Value} {t : TypeId} (h : BK w b vs t) (hb : But2 r q n w w') (hn : b < n) (hr : b ≠ r) (hq : b ≠ q) : BK w' b vs t := (hb.block b hn hr hq).trans h

theorem below_drewN' {n k : Nat} {a w : World} (h : Below n a w) : Below n a (w.drewN k) := ⟨h.os, h.tape, h.output, h.size, h.block⟩

/-- A ledger in block b, its map in block mb. -/
structure XV (w : World) (b mb : Nat) (L : List En) (room : Int) (n : Nat) : Prop where
  bk : BK w b #[.map (some mb), .int .i64 (sumL L), .int .i64 room] 56
  map : ∃ D, MB w mb n D ∧ MR D L
  ok : Ok L room
theorem XV.lt {w : World} {b mb n : Nat} {L : List En} {room : Int} (h : XV w b mb L room n) : b < w.heap.size := h.bk.lt
theorem XV.mlt {w : World} {b mb n : Nat} {L : List En} {room : Int} (h : XV w b mb L room n) : mb < w.heap.size := by obtain ⟨D, h1, _⟩ := h.map; exact h1.lt
theorem XV.ne {w : World} {b mb n : Nat} {L : List En} {room : Int} (h : XV w b mb L room n) : b ≠ mb := by
  obtain ⟨D, ⟨es, c, h1, _⟩, _⟩ := h.map
  intro e
  subst e
  have := h.bk
  rw [show w.heap[b]? = some (.cells _ _ (0, 0)) from this] at h1
  cases h1
theorem XV.same {w w' : World} {b mb n : Nat} {L : List En} {room : Int} (h : XV w b mb L room n) (h1 : w'.heap[b]? = w.heap[b]?) (h2 : w'.heap[mb]? = w.heap[mb]?) : XV w' b mb L room n := by
  obtain ⟨D, h3, h4⟩ := h.map
  exact ⟨h1.trans h.bk, ⟨D, map_same h3 h2, h4⟩, h.ok⟩
theorem XV.below {w w' : World} {b mb n m : Nat} {L : List En} {room : Int} (h : XV w b mb L room n) (hb : Below m w w') (hm : w.heap.size ≤ m) : XV w' b mb L room n :=
  h.same (hb.block b (by have := h.lt; omega)) (hb.block mb (by have := h.mlt; omega))
theorem XV.alloc {w : World} {b mb n : Nat} {L : List En} {room : Int} (h : XV w b mb L room n) (o : Obj) : XV (w.alloc o) b mb L room n := h.below ((Below.refl _ w).alloc (Nat.le_refl _) o) (Nat.le_refl _)
theorem XV.drew {w : World} {b mb n : Nat} {L : List En} {room : Int} (h : XV w b mb L room n) : XV w.drew b mb L room n := h.same rfl rfl
theorem XV.mono {w : World} {b mb n n' : Nat} {L : List En} {room : Int} (h : XV w b mb L room n) (hn : n ≤ n') : XV w b mb L room n' := by
  obtain ⟨D, h3, h4⟩ := h.map
  exact ⟨h.bk, ⟨D, h3.mono hn, h4⟩, h.ok⟩
theorem XV.cells {w : World} {b mb n : Nat} {L : List En} {room : Int} (h : XV w b mb L room n) :
    w.cell? ⟨b, 0, none⟩ = some (.map (some mb)) ∧ w.cell? ⟨b, 1, none⟩ = some (.int .i64 (sumL L)) ∧ w.cell? ⟨b, 2, none⟩ = some (.int .i64 room) ∧ w.frozen? ⟨b, 0, none⟩ = false ∧ w.frozen? ⟨b, 1, none⟩ = false :=
  ⟨h.bk.cell 0 _ rfl, h.bk.cell 1 _ rfl, h.bk.cell 2 _ rfl, h.bk.frozen 0, h.bk.frozen 1⟩
theorem XV.look {w : World} {b mb n : Nat} {L : List En} {room : Int} (h : XV w b mb L room n) {k : Int} (hk : okI k) :
    (Instr.lookup 54 (.map (some mb)) (.int .i64 k) true).run Try.prog w = .ok (.tuple #[.int .i64 (getN L k), .bool (getB L k)]) w := by
  obtain ⟨D, h3, h4⟩ := h.map
  exact look_run h3 h4 hk
theorem XV.at' {w : World} {b mb n : Nat} {L : List En} {room : Int} (h : XV w b mb L room n) {k : Int} (hk : okI k) :
    (Instr.lookup 54 (.map (some mb)) (.int .i64 k) false).run Try.prog w = .ok (.int .i64 (getN L k)) w := by
  obtain ⟨D, h3, h4⟩ := h.map
  exact at_run h3 h4 hk
/-- A need laid into the map, and then the sum. -/
theorem XV.store {w : World} {b mb n : Nat} {L : List En} {room : Int} (h : XV w b mb L room n) {k x : Int} (hk : okI k) (hx : okI x) (hn : n ≤ 1000) (h0 : 0 ≤ x) (hf : x ≤ room - (sumL L - getN L k)) :
    ∃ V, (Instr.mapUpdate 54 (.map (some mb)) (.int .i64 k) (.int .i64 x)).run Try.prog w = .ok () V ∧ BK V b #[.map (some mb), .int .i64 (sumL L), .int .i64 room] 56 ∧
      XV (V.setCell ⟨b, 1, none⟩ (.int .i64 (sumL L - getN L k + x))) b mb (put L k x) room (n + 1) ∧ But2 b mb w.heap.size w (V.setCell ⟨b, 1, none⟩ (.int .i64 (sumL L - getN L k + x))) := by
  obtain ⟨D, h3, h4⟩ := h.map
  obtain ⟨V, hrun, h5, h6⟩ := h3.store mkeyed Try.underlying54 (by unfold maxLen; omega) (keyOf_k hk) (plainElem_int Try.underlying3 hx)
  have hg := but_grown h6.grown
  have hne := h.ne
  have K := h.bk.but hg h.lt hne
  have e : sumL (put L k x) = sumL L - getN L k + x := sum_put h.ok.srt k x
  refine ⟨V, hrun, K, ⟨?_, ⟨_, map_same h5 (Below.heap_setCell _ _ _ _ (fun e => hne e.symm)), h4.put (h3.tidy mkeyed) hk⟩, h.ok.put h0 hf⟩, (But2.right hg).trans (But2.left ((But.refl b _ V).set rfl _))⟩
  rw [e]
  exact K.set 1 _
/-- A number struck out of the map, and then off the sum. -/
theorem XV.drop {w : World} {b mb n : Nat} {L : List En} {room : Int} (h : XV w b mb L room n) {k : Int} (hk : okI k) (ty : TypeId) :
    ∃ V, (Builtin.delete_ #[54, 3] ty #[.map (some mb), .int .i64 k]).run Try.prog w = .ok (.tuple #[]) V ∧ BK V b #[.map (some mb), .int .i64 (sumL L), .int .i64 room] 56 ∧
      XV (V.setCell ⟨b, 1, none⟩ (.int .i64 (sumL L - getN L k))) b mb (del L k) room n ∧ But2 b mb w.heap.size w (V.setCell ⟨b, 1, none⟩ (.int .i64 (sumL L - getN L k))) := by
  obtain ⟨D, h3, h4⟩ := h.map
  obtain ⟨V, hrun, h5, h6⟩ := h3.drop mkeyed Try.underlying54 (keyOf_k hk) ty
  have hg := but_grown h6.grown
  have hne := h.ne
  have K := h.bk.but hg h.lt hne
  have e : sumL (del L k) = sumL L - getN L k := sum_del h.ok.srt k
  refine ⟨V, hrun, K, ⟨?_, ⟨_, map_same h5 (Below.heap_setCell _ _ _ _ (fun e => hne e.symm)), h4.del k⟩, h.ok.del k⟩, (But2.right hg).trans (But2.left ((But.refl b _ V).set rfl _))⟩
  rw [e]
  exact K.set 1 _

theorem run_mkmap (w : World) : (Instr.makeMap 54 none).run Try.prog w = .ok (.map (some w.heap.size)) (w.alloc (.map #[] 0)) := by
  simp [Instr.makeMap, go_sem]

set_option maxHeartbeats 800000 in
theorem new_calls (r : Int) (w : World) : Calls Try.prog 10 #[.int .i64 r] w fun e w' => e = .returned (.pointer (some ⟨w.heap.size + 1, 0, none⟩)) ∧ XV w' (w.heap.size + 1) w.heap.size [] (roomN r) 0 ∧ Below w.heap.size w w' := by
  have hmk := run_mkmap w
  go_enter Try.func10, Try.ntmps10
  go_wp2
  go_ret
  have hB := (Below.refl w.heap.size w).alloc (Nat.le_refl _) (.map #[] 0)
  have K := bk_new (w.alloc (.map #[] 0)) #[.map (some w.heap.size), .int .i64 0, .int .i64 (roomN r)] 56
  rw [World.size_alloc] at K
  refine ⟨by first | rfl | simp, ⟨K, ⟨.map [], map_same (World.ownsMap_made w _ _ _) (Below.heap_alloc _ _ _ (by simp)), mr_nil⟩, ok_nil (roomN_bounds r)⟩, hB.alloc (by simp) _⟩

set_option maxHeartbeats 800000 in
theorem get_calls {w : World} {b mb n : Nat} {L : List En} {room : Int} (h : XV w b mb L room n) {k : Int} (hk : okI k) :
    Calls Try.prog 16 #[.pointer (some ⟨b, 0, none⟩), .int .i64 k] w fun e w' => e = .returned (.tuple #[.int .i64 (getN L k), .bool (getB L k)]) ∧ w' = w := by
  obtain ⟨c0, c1, c2, f0, f1⟩ := h.cells
  have hl := h.look hk
  go_enter Try.func16, Try.ntmps16
  go_wp2
  go_returns
  exact ⟨rfl, rfl⟩
set_option maxHeartbeats 800000 in
theorem get_nil (k : Int) (w : World) :
    Calls Try.prog 16 #[.pointer none, .int .i64 k] w fun e w' => e = .returned (.tuple #[.int .i64 0, .bool false]) ∧ w' = w := by
  go_enter Try.func16, Try.ntmps16
  go_wp2
  go_returns
  exact ⟨rfl, rfl⟩
set_option maxHeartbeats 800000 in
theorem used_calls {w : World} {b mb n : Nat} {L : List En} {room : Int} (h : XV w b mb L room n) :
    Calls Try.prog 18 #[.pointer (some ⟨b, 0, none⟩)] w fun e w' => e = .returned (.int .i64 (sumL L)) ∧ w' = w := by
  obtain ⟨c0, c1, c2, f0, f1⟩ := h.cells
  go_enter Try.func18, Try.ntmps18
  go_wp2
  go_ret
  exact ⟨rfl, rfl⟩
set_option maxHeartbeats 800000 in
theorem used_nil (w : World) : Calls Try.prog 18 #[.pointer none] w fun e w' => e = .returned (.int .i64 0) ∧ w' = w := by
  go_enter Try.func18, Try.ntmps18
  go_wp2
  go_ret
  exact ⟨rfl, rfl⟩
set_option maxHeartbeats 800000 in
theorem left_nil (w : World) : Calls Try.prog 20 #[.pointer none] w fun e w' => e = .returned (.int .i64 0) ∧ w' = w := by
  go_enter Try.func20, Try.ntmps20
  go_wp2
  go_ret
  exact ⟨rfl, rfl⟩
set_option maxHeartbeats 800000 in
theorem left_calls {w : World} {b mb n : Nat} {L : List En} {room : Int} (h : XV w b mb L room n) :
    Calls Try.prog 20 #[.pointer (some ⟨b, 0, none⟩)] w fun e w' => e = .returned (.int .i64 (room - sumL L)) ∧ Below w.heap.size w w' := by
  obtain ⟨c0, c1, c2, f0, f1⟩ := h.cells
  obtain ⟨r0, r1⟩ := h.ok.room
  have s0 := h.ok.nn
  have s1 := h.ok.sum
  have hw : IntKind.i64.wrap (room - sumL L) = room - sumL L := by rw [IntKind.wrap_i64]; omega
  go_enter Try.func20, Try.ntmps20
  go_wp2_with fail
  go_quiet (fail)
  go_wp2
  go_ret
  exact ⟨by first | rfl | rw [hw], below_drewN' (Below.refl _ _)⟩

/-- What set answers, and what is booked then. -/
def setE (L : List En) (room id n : Int) : Int := if n > room - (sumL L - getN L id) then 9 else 0
def setL (L : List En) (room id n : Int) : List En := if n > room - (sumL L - getN L id) then L else put L id n
set_option maxHeartbeats 1600000 in
theorem set_calls {w : World} {b mb n : Nat} {L : List En} {room : Int} (h : XV w b mb L room n) (hn : n ≤ 1000) {k x : Int} (hk : okI k) (hx : okI x) (h0 : 0 ≤ x) :
    Calls Try.prog 34 #[.pointer (some ⟨b, 0, none⟩), .int .i64 k, .int .i64 x] w fun e w' => e = .returned (.int .i64 (setE L room k x)) ∧ XV w' b mb (setL L room k x) room (n + 1) ∧ But2 b mb w.heap.size w w' := by
  obtain ⟨c0, c1, c2, f0, f1⟩ := h.cells
  obtain ⟨r0, r1⟩ := h.ok.room
  have s0 := h.ok.nn
  have s1 := h.ok.sum
  obtain ⟨g0, g1⟩ := h.ok.get k
  have hat := h.at' hk
  have hw1 : IntKind.i64.wrap (sumL L - getN L k) = sumL L - getN L k := by rw [IntKind.wrap_i64]; omega
  have hw2 : IntKind.i64.wrap (room - (sumL L - getN L k)) = room - (sumL L - getN L k) := by rw [IntKind.wrap_i64]; omega
  by_cases hf : x > room - (sumL L - getN L k)
  · have q : decide (room - (sumL L - getN L k) < x) = true := decide_eq_true hf
    have e1 : Hid (setE L room k x = 9 ∧ setL L room k x = L) := ⟨if_pos hf, if_pos hf⟩
    have HX : Hid (XV w b mb L room n) := h
    have HS : Hid (XV w.drew b mb L room n) := h.drew
    clear h hf
    go_enter Try.func34, Try.ntmps34
    go_wp2_with fail
    refine wp_region_held_drew (S := (fun w' => XV w' b mb L room n)) (by kernel_rfl) HS.out (fun hHeld => ?_)
    refine wpAnyH_take (i := 0) (oi := ({ dst := some 8, op := Op.move (Operand.tmp 0), type := 24, pos := _, after := #[], guard := none } : Oper)) (v := ?_) rfl (by kernel_rfl) (by kernel_rfl) (by kernel_rfl) (fun _ _ _ h => h) (Or.inl ⟨by rfl, ?_⟩) hHeld ?_
    rotate_left
    · (intro w hS; go_simp; try with_reducible rfl)
    try simp only [Act.put, List.setIfInBounds_toArray, List.set_cons_zero, List.set_cons_succ]
    refine wpAnyH_take (i := 1) (oi := ({ dst := some 9, op := Op.nilCheck (Operand.tmp 8), type := 0, pos := _, after := #[{ on := 0, ground := Ground.data }], guard := none } : Oper)) (v := ?_) rfl (by kernel_rfl) (by kernel_rfl) (by kernel_rfl) (fun _ _ _ h => h) (Or.inl ⟨by rfl, ?_⟩) hHeld ?_
    rotate_left
    · (intro w hS; go_simp; try with_reducible rfl)
    try simp only [Act.put, List.setIfInBounds_toArray, List.set_cons_zero, List.set_cons_succ]
    refine wpAnyH_take (i := 2) (oi := ({ dst := some 10, op := Op.fieldAddr 56 (Operand.tmp 9) 1, type := 0, pos := _, after := #[{ on := 1, ground := Ground.data }], guard := none } : Oper)) (v := ?_) rfl (by kernel_rfl) (by kernel_rfl) (by kernel_rfl) (fun _ _ _ h => h) (Or.inl ⟨by rfl, ?_⟩) hHeld ?_
    rotate_left
    · (intro w hS; go_simp; try with_reducible rfl)
    try simp only [Act.put, List.setIfInBounds_toArray, List.set_cons_zero, List.set_cons_succ]
    refine wpAnyH_take (i := 3) (oi := ({ dst := some 11, op := Op.load 3 (Operand.tmp 10), type := 3, pos := _, after := #[{ on := 2, ground := Ground.data }], guard := none } : Oper)) (v := ?_) rfl (by kernel_rfl) (by kernel_rfl) (by kernel_rfl) (fun _ _ _ h => h) (Or.inl ⟨by rfl, ?_⟩) hHeld ?_
    rotate_left
    · (intro w hS; have h1 := (XV.cells hS).2.1; go_simp; try with_reducible rfl)
    try simp only [Act.put, List.setIfInBounds_toArray, List.set_cons_zero, List.set_cons_succ]
    refine wpAnyH_take (i := 4) (oi := ({ dst := some 12, op := Op.move (Operand.tmp 0), type := 24, pos := _, after := #[], guard := none } : Oper)) (v := ?_) rfl (by kernel_rfl) (by kernel_rfl) (by kernel_rfl) (fun _ _ _ h => h) (Or.inl ⟨by rfl, ?_⟩) hHeld ?_
    rotate_left
    · (intro w hS; go_simp; try with_reducible rfl)
    try simp only [Act.put, List.setIfInBounds_toArray, List.set_cons_zero, List.set_cons_succ]
    refine wpAnyH_take (i := 5) (oi := ({ dst := some 13, op := Op.nilCheck (Operand.tmp 12), type := 0, pos := _, after := #[{ on := 4, ground := Ground.data }], guard := none } : Oper)) (v := ?_) rfl (by kernel_rfl) (by kernel_rfl) (by kernel_rfl) (fun _ _ _ h => h) (Or.inl ⟨by rfl, ?_⟩) hHeld ?_
    rotate_left
    · (intro w hS; go_simp; try with_reducible rfl)
    try simp only [Act.put, List.setIfInBounds_toArray, List.set_cons_zero, List.set_cons_succ]
    refine wpAnyH_take (i := 6) (oi := ({ dst := some 14, op := Op.fieldAddr 56 (Operand.tmp 13) 0, type := 0, pos := _, after := #[{ on := 5, ground := Ground.data }], guard := none } : Oper)) (v := ?_) rfl (by kernel_rfl) (by kernel_rfl) (by kernel_rfl) (fun _ _ _ h => h) (Or.inl ⟨by rfl, ?_⟩) hHeld ?_
    rotate_left
    · (intro w hS; go_simp; try with_reducible rfl)
    try simp only [Act.put, List.setIfInBounds_toArray, List.set_cons_zero, List.set_cons_succ]
    refine wpAnyH_take (i := 7) (oi := ({ dst := some 15, op := Op.load 54 (Operand.tmp 14), type := 54, pos := _, after := #[{ on := 6, ground := Ground.data }], guard := none } : Oper)) (v := ?_) rfl (by kernel_rfl) (by kernel_rfl) (by kernel_rfl) (fun _ _ _ h => h) (Or.inl ⟨by rfl, ?_⟩) hHeld ?_
    rotate_left
    · (intro w hS; have h1 := (XV.cells hS).1; go_simp; try with_reducible rfl)
    try simp only [Act.put, List.setIfInBounds_toArray, List.set_cons_zero, List.set_cons_succ]
    refine wpAnyH_take (i := 8) (oi := ({ dst := some 16, op := Op.move (Operand.tmp 1), type := 3, pos := _, after := #[], guard := none } : Oper)) (v := ?_) rfl (by kernel_rfl) (by kernel_rfl) (by kernel_rfl) (fun _ _ _ h => h) (Or.inl ⟨by rfl, ?_⟩) hHeld ?_
    rotate_left
    · (intro w hS; go_simp; try with_reducible rfl)
    try simp only [Act.put, List.setIfInBounds_toArray, List.set_cons_zero, List.set_cons_succ]
    refine wpAnyH_take (i := 9) (oi := ({ dst := some 17, op := Op.lookup 54 (Operand.tmp 15) (Operand.tmp 16) false, type := 3, pos := _, after := #[{ on := 7, ground := Ground.data }, { on := 8, ground := Ground.data }], guard := none } : Oper)) (v := ?_) rfl (by kernel_rfl) (by kernel_rfl) (by kernel_rfl) (fun _ _ _ h => h) (Or.inl ⟨by rfl, ?_⟩) hHeld ?_
    rotate_left
    · (intro w hS; have h1 := XV.at' hS hk; go_simp; try with_reducible rfl)
    try simp only [Act.put, List.setIfInBounds_toArray, List.set_cons_zero, List.set_cons_succ]
    refine wpAnyH_take (i := 10) (oi := ({ dst := some 18, op := Op.binOp BinOp.sub 3 (Operand.tmp 11) (Operand.tmp 17) 3, type := 3, pos := _, after := #[{ on := 3, ground := Ground.data }, { on := 9, ground := Ground.data }], guard := none } : Oper)) (v := ?_) rfl (by kernel_rfl) (by kernel_rfl) (by kernel_rfl) (fun _ _ _ h => h) (Or.inl ⟨by rfl, ?_⟩) hHeld ?_
    rotate_left
    · (intro w hS; go_simp; try with_reducible rfl)
    try simp only [Act.put, List.setIfInBounds_toArray, List.set_cons_zero, List.set_cons_succ]
    refine wpAnyH_take (i := 11) (oi := ({ dst := some 7, op := Op.assign (Operand.tmp 18), type := 3, pos := _, after := #[{ on := 10, ground := Ground.data }, { on := 0, ground := Ground.phase }, { on := 1, ground := Ground.phase }, { on := 2, ground := Ground.phase }, { on := 3, ground := Ground.phase }, { on := 4, ground := Ground.phase }, { on := 5, ground := Ground.phase }, { on := 6, ground := Ground.phase }, { on := 7, ground := Ground.phase }, { on := 8, ground := Ground.phase }, { on := 9, ground := Ground.phase }, { on := 10, ground := Ground.phase }], guard := none } : Oper)) (v := ?_) rfl (by kernel_rfl) (by kernel_rfl) (by kernel_rfl) (fun _ _ _ h => h) (Or.inl ⟨by rfl, ?_⟩) hHeld ?_
    rotate_left
    · (intro w hS; go_simp; try with_reducible rfl)
    try simp only [Act.put, List.setIfInBounds_toArray, List.set_cons_zero, List.set_cons_succ]
    refine wpAnyH_done (by kernel_rfl) ?_ _
    skip
    go_wp2
    go_ret
    rw [e1.out.1, e1.out.2]
    exact ⟨rfl, HX.out.drew.mono (by omega), But2.of (Below.refl w.heap.size w).drew⟩
  · have q : decide (room - (sumL L - getN L k) < x) = false := decide_eq_false hf
    have e1 : Hid (setE L room k x = 0 ∧ setL L room k x = put L k x) := ⟨if_neg hf, if_neg hf⟩
    obtain ⟨V, hrun, hK, hX, hB⟩ := h.drew.store hk hx hn h0 (by omega)
    have HS : Hid (XV w.drew b mb L room n) := h.drew
    have hq : ∀ w, (binOp .eql 54 (.map (some mb)) (.map none)).run Try.prog w = .ok (.bool false) w := fun w => run_eql_map_nil_sl w 54 _ _ (some mb) Try.underlying54
    have v0 := hK.cell 0 _ rfl
    have v1 := hK.cell 1 _ rfl
    have u1 := hK.frozen 1
    have hw3 : IntKind.i64.wrap (sumL L - getN L k + x) = sumL L - getN L k + x := by rw [IntKind.wrap_i64]; omega
    have HX : Hid (XV (V.setCell ⟨b, 1, none⟩ (.int .i64 (sumL L - getN L k + x))) b mb (put L k x) room (n + 1) ∧ But2 b mb w.drew.heap.size w.drew (V.setCell ⟨b, 1, none⟩ (.int .i64 (sumL L - getN L k + x)))) := ⟨hX, hB⟩
    clear h hf hX hB hK
    go_enter Try.func34, Try.ntmps34
    go_wp2_with fail
    refine wp_region_held_drew (S := (fun w' => XV w' b mb L room n)) (by kernel_rfl) HS.out (fun hHeld => ?_)
    refine wpAnyH_take (i := 0) (oi := ({ dst := some 8, op := Op.move (Operand.tmp 0), type := 24, pos := _, after := #[], guard := none } : Oper)) (v := ?_) rfl (by kernel_rfl) (by kernel_rfl) (by kernel_rfl) (fun _ _ _ h => h) (Or.inl ⟨by rfl, ?_⟩) hHeld ?_
    rotate_left
    · (intro w hS; go_simp; try with_reducible rfl)
    try simp only [Act.put, List.setIfInBounds_toArray, List.set_cons_zero, List.set_cons_succ]
    refine wpAnyH_take (i := 1) (oi := ({ dst := some 9, op := Op.nilCheck (Operand.tmp 8), type := 0, pos := _, after := #[{ on := 0, ground := Ground.data }], guard := none } : Oper)) (v := ?_) rfl (by kernel_rfl) (by kernel_rfl) (by kernel_rfl) (fun _ _ _ h => h) (Or.inl ⟨by rfl, ?_⟩) hHeld ?_
    rotate_left
    · (intro w hS; go_simp; try with_reducible rfl)
    try simp only [Act.put, List.setIfInBounds_toArray, List.set_cons_zero, List.set_cons_succ]
    refine wpAnyH_take (i := 2) (oi := ({ dst := some 10, op := Op.fieldAddr 56 (Operand.tmp 9) 1, type := 0, pos := _, after := #[{ on := 1, ground := Ground.data }], guard := none } : Oper)) (v := ?_) rfl (by kernel_rfl) (by kernel_rfl) (by kernel_rfl) (fun _ _ _ h => h) (Or.inl ⟨by rfl, ?_⟩) hHeld ?_
    rotate_left
    · (intro w hS; go_simp; try with_reducible rfl)
    try simp only [Act.put, List.setIfInBounds_toArray, List.set_cons_zero, List.set_cons_succ]
    refine wpAnyH_take (i := 3) (oi := ({ dst := some 11, op := Op.load 3 (Operand.tmp 10), type := 3, pos := _, after := #[{ on := 2, ground := Ground.data }], guard := none } : Oper)) (v := ?_) rfl (by kernel_rfl) (by kernel_rfl) (by kernel_rfl) (fun _ _ _ h => h) (Or.inl ⟨by rfl, ?_⟩) hHeld ?_
    rotate_left
    · (intro w hS; have h1 := (XV.cells hS).2.1; go_simp; try with_reducible rfl)
    try simp only [Act.put, List.setIfInBounds_toArray, List.set_cons_zero, List.set_cons_succ]
    refine wpAnyH_take (i := 4) (oi := ({ dst := some 12, op := Op.move (Operand.tmp 0), type := 24, pos := _, after := #[], guard := none } : Oper)) (v := ?_) rfl (by kernel_rfl) (by kernel_rfl) (by kernel_rfl) (fun _ _ _ h => h) (Or.inl ⟨by rfl, ?_⟩) hHeld ?_
    rotate_left
    · (intro w hS; go_simp; try with_reducible rfl)
    try simp only [Act.put, List.setIfInBounds_toArray, List.set_cons_zero, List.set_cons_succ]
    refine wpAnyH_take (i := 5) (oi := ({ dst := some 13, op := Op.nilCheck (Operand.tmp 12), type := 0, pos := _, after := #[{ on := 4, ground := Ground.data }], guard := none } : Oper)) (v := ?_) rfl (by kernel_rfl) (by kernel_rfl) (by kernel_rfl) (fun _ _ _ h => h) (Or.inl ⟨by rfl, ?_⟩) hHeld ?_
    rotate_left
    · (intro w hS; go_simp; try with_reducible rfl)
    try simp only [Act.put, List.setIfInBounds_toArray, List.set_cons_zero, List.set_cons_succ]
    refine wpAnyH_take (i := 6) (oi := ({ dst := some 14, op := Op.fieldAddr 56 (Operand.tmp 13) 0, type := 0, pos := _, after := #[{ on := 5, ground := Ground.data }], guard := none } : Oper)) (v := ?_) rfl (by kernel_rfl) (by kernel_rfl) (by kernel_rfl) (fun _ _ _ h => h) (Or.inl ⟨by rfl, ?_⟩) hHeld ?_
    rotate_left
    · (intro w hS; go_simp; try with_reducible rfl)
    try simp only [Act.put, List.setIfInBounds_toArray, List.set_cons_zero, List.set_cons_succ]
    refine wpAnyH_take (i := 7) (oi := ({ dst := some 15, op := Op.load 54 (Operand.tmp 14), type := 54, pos := _, after := #[{ on := 6, ground := Ground.data }], guard := none } : Oper)) (v := ?_) rfl (by kernel_rfl) (by kernel_rfl) (by kernel_rfl) (fun _ _ _ h => h) (Or.inl ⟨by rfl, ?_⟩) hHeld ?_
    rotate_left
    · (intro w hS; have h1 := (XV.cells hS).1; go_simp; try with_reducible rfl)
    try simp only [Act.put, List.setIfInBounds_toArray, List.set_cons_zero, List.set_cons_succ]
    refine wpAnyH_take (i := 8) (oi := ({ dst := some 16, op := Op.move (Operand.tmp 1), type := 3, pos := _, after := #[], guard := none } : Oper)) (v := ?_) rfl (by kernel_rfl) (by kernel_rfl) (by kernel_rfl) (fun _ _ _ h => h) (Or.inl ⟨by rfl, ?_⟩) hHeld ?_
    rotate_left
    · (intro w hS; go_simp; try with_reducible rfl)
    try simp only [Act.put, List.setIfInBounds_toArray, List.set_cons_zero, List.set_cons_succ]
    refine wpAnyH_take (i := 9) (oi := ({ dst := some 17, op := Op.lookup 54 (Operand.tmp 15) (Operand.tmp 16) false, type := 3, pos := _, after := #[{ on := 7, ground := Ground.data }, { on := 8, ground := Ground.data }], guard := none } : Oper)) (v := ?_) rfl (by kernel_rfl) (by kernel_rfl) (by kernel_rfl) (fun _ _ _ h => h) (Or.inl ⟨by rfl, ?_⟩) hHeld ?_
    rotate_left
    · (intro w hS; have h1 := XV.at' hS hk; go_simp; try with_reducible rfl)
    try simp only [Act.put, List.setIfInBounds_toArray, List.set_cons_zero, List.set_cons_succ]
    refine wpAnyH_take (i := 10) (oi := ({ dst := some 18, op := Op.binOp BinOp.sub 3 (Operand.tmp 11) (Operand.tmp 17) 3, type := 3, pos := _, after := #[{ on := 3, ground := Ground.data }, { on := 9, ground := Ground.data }], guard := none } : Oper)) (v := ?_) rfl (by kernel_rfl) (by kernel_rfl) (by kernel_rfl) (fun _ _ _ h => h) (Or.inl ⟨by rfl, ?_⟩) hHeld ?_
    rotate_left
    · (intro w hS; go_simp; try with_reducible rfl)
    try simp only [Act.put, List.setIfInBounds_toArray, List.set_cons_zero, List.set_cons_succ]
    refine wpAnyH_take (i := 11) (oi := ({ dst := some 7, op := Op.assign (Operand.tmp 18), type := 3, pos := _, after := #[{ on := 10, ground := Ground.data }, { on := 0, ground := Ground.phase }, { on := 1, ground := Ground.phase }, { on := 2, ground := Ground.phase }, { on := 3, ground := Ground.phase }, { on := 4, ground := Ground.phase }, { on := 5, ground := Ground.phase }, { on := 6, ground := Ground.phase }, { on := 7, ground := Ground.phase }, { on := 8, ground := Ground.phase }, { on := 9, ground := Ground.phase }, { on := 10, ground := Ground.phase }], guard := none } : Oper)) (v := ?_) rfl (by kernel_rfl) (by kernel_rfl) (by kernel_rfl) (fun _ _ _ h => h) (Or.inl ⟨by rfl, ?_⟩) hHeld ?_
    rotate_left
    · (intro w hS; go_simp; try with_reducible rfl)
    try simp only [Act.put, List.setIfInBounds_toArray, List.set_cons_zero, List.set_cons_succ]
    refine wpAnyH_done (by kernel_rfl) ?_ _
    skip
    go_wp2
    go_ret
    rw [e1.out.1, e1.out.2]
    exact ⟨rfl, HX.out.1, (But2.of (Below.refl w.heap.size w).drew).trans HX.out.2⟩

theorem book_set {L : List En} {room k x : Int} (h0 : 0 ≤ x) (hb : getB L k = false) : setE L room k x = bookE L room k x ∧ setL L room k x = bookL L room k x := by
  have e : bookE L room k x = setE L room k x := by
    unfold bookE setE
    rw [getN_none hb, if_neg (by omega : ¬ x < 0), if_neg (by rw [hb]; decide), Int.sub_zero]
  refine ⟨e.symm, ?_⟩
  unfold bookL
  rw [e]
  unfold setE setL
  split
  · rw [if_neg (by decide)]
  · rw [if_pos rfl]
theorem chg_set {L : List En} {room k x : Int} (h0 : 0 ≤ x) (hb : getB L k = true) : setE L room k x = chgE L room k x ∧ setL L room k x = chgL L room k x := by
  have e : chgE L room k x = setE L room k x := by
    unfold chgE setE
    rw [if_neg (by omega : ¬ x < 0), if_neg (by rw [hb]; decide)]
  refine ⟨e.symm, ?_⟩
  unfold chgL
  rw [e]
  unfold setE setL
  split
  · rw [if_neg (by decide)]
  · rw [if_pos rfl]

set_option maxHeartbeats 1600000 in
theorem book_calls {w : World} {b mb n : Nat} {L : List En} {room : Int} (h : XV w b mb L room n) (hn : n ≤ 1000) {k x : Int} (hk : okI k) (hx : okI x) :
    Calls Try.prog 24 #[.pointer (some ⟨b, 0, none⟩), .int .i64 k, .int .i64 x] w fun e w' => e = .returned (.int .i64 (bookE L room k x)) ∧ XV w' b mb (bookL L room k x) room (n + 1) ∧ But2 b mb w.heap.size w w' := by
  have hg := get_calls h hk
  by_cases h0 : x < 0
  · have d0 : decide (x < 0) = true := decide_eq_true h0
    have e1 : bookE L room k x = 1 := if_pos h0
    have e2 : bookL L room k x = L := by unfold bookL; rw [if_neg (by omega)]
    have HE : Hid (bookE L room k x = 1 ∧ XV w b mb (bookL L room k x) room (n + 1)) := ⟨e1, by rw [e2]; exact h.mono (by omega)⟩
    clear h e1 e2 h0
    go_enter Try.func24, Try.ntmps24
    go_wp2_with fail
    refine hg.mono ?_
    rintro e w1 ⟨rfl, rfl⟩
    go_wp2
    go_ret
    exact ⟨by rw [HE.out.1]; rfl, HE.out.2, But2.refl _ _ _ _⟩
  · have d0 : decide (x < 0) = false := decide_eq_false h0
    cases hb : getB L k with
    | true =>
      have e1 : bookE L room k x = 7 := by unfold bookE; rw [if_neg h0, if_pos hb]
      have e2 : bookL L room k x = L := by unfold bookL; rw [if_neg (by omega)]
      have HE : Hid (bookE L room k x = 7 ∧ XV w b mb (bookL L room k x) room (n + 1)) := ⟨e1, by rw [e2]; exact h.mono (by omega)⟩
      clear h e1 e2 h0
      rw [hb] at hg
      go_enter Try.func24, Try.ntmps24
      go_wp2_with fail
      refine hg.mono ?_
      rintro e w1 ⟨rfl, rfl⟩
      go_wp2
      go_ret
      exact ⟨by rw [HE.out.1]; rfl, HE.out.2, But2.refl _ _ _ _⟩
    | false =>
      obtain ⟨e1, e2⟩ := book_set (room := room) (x := x) (by omega) hb
      have hs := set_calls h hn hk hx (by omega)
      rw [e1, e2] at hs
      clear h e1 e2 h0
      rw [hb] at hg
      go_enter Try.func24, Try.ntmps24
      go_wp2_with fail
      refine hg.mono ?_
      rintro e w1 ⟨rfl, rfl⟩
      go_wp2_with fail
      refine hs.mono ?_
      rintro e w1 ⟨rfl, X1, b1⟩
      go_wp2
      go_ret
      exact ⟨rfl, X1, b1⟩
set_option maxHeartbeats 1600000 in
theorem chg_calls {w : World} {b mb n : Nat} {L : List En} {room : Int} (h : XV w b mb L room n) (hn : n ≤ 1000) {k x : Int} (hk : okI k) (hx : okI x) :
    Calls Try.prog 25 #[.pointer (some ⟨b, 0, none⟩), .int .i64 k, .int .i64 x] w fun e w' => e = .returned (.int .i64 (chgE L room k x)) ∧ XV w' b mb (chgL L room k x) room (n + 1) ∧ But2 b mb w.heap.size w w' := by
  have hg := get_calls h hk
  by_cases h0 : x < 0
  · have d0 : decide (x < 0) = true := decide_eq_true h0
    have e1 : chgE L room k x = 1 := if_pos h0
    have e2 : chgL L room k x = L := by unfold chgL; rw [if_neg (by omega)]
    have HE : Hid (chgE L room k x = 1 ∧ XV w b mb (chgL L room k x) room (n + 1)) := ⟨e1, by rw [e2]; exact h.mono (by omega)⟩
    clear h e1 e2 h0
    go_enter Try.func25, Try.ntmps25
    go_wp2_with fail
    refine hg.mono ?_
    rintro e w1 ⟨rfl, rfl⟩
    go_wp2
    go_ret
    exact ⟨by rw [HE.out.1]; rfl, HE.out.2, But2.refl _ _ _ _⟩
  · have d0 : decide (x < 0) = false := decide_eq_false h0
    cases hb : getB L k with
    | false =>
      have e1 : chgE L room k x = 8 := by unfold chgE; rw [if_neg h0, if_pos hb]
      have e2 : chgL L room k x = L := by unfold chgL; rw [if_neg (by omega)]
      have HE : Hid (chgE L room k x = 8 ∧ XV w b mb (chgL L room k x) room (n + 1)) := ⟨e1, by rw [e2]; exact h.mono (by omega)⟩
      clear h e1 e2 h0
      rw [hb] at hg
      go_enter Try.func25, Try.ntmps25
      go_wp2_with fail
      refine hg.mono ?_
      rintro e w1 ⟨rfl, rfl⟩
      go_wp2
      go_ret
      exact ⟨by rw [HE.out.1]; rfl, HE.out.2, But2.refl _ _ _ _⟩
    | true =>
      obtain ⟨e1, e2⟩ := chg_set (room := room) (x := x) (by omega) hb
      have hs := set_calls h hn hk hx (by omega)
      rw [e1, e2] at hs
      clear h e1 e2 h0
      rw [hb] at hg
      go_enter Try.func25, Try.ntmps25
      go_wp2_with fail
      refine hg.mono ?_
      rintro e w1 ⟨rfl, rfl⟩
      go_wp2_with fail
      refine hs.mono ?_
      rintro e w1 ⟨rfl, X1, b1⟩
      go_wp2
      go_ret
      exact ⟨rfl, X1, b1⟩
set_option maxHeartbeats 1600000 in
theorem free_calls {w : World} {b mb n : Nat} {L : List En} {room : Int} (h : XV w b mb L room n) {k : Int} (hk : okI k) :
    Calls Try.prog 26 #[.pointer (some ⟨b, 0, none⟩), .int .i64 k] w fun e w' => e = .returned (.tuple #[.int .i64 (getN L k), .bool (getB L k)]) ∧ XV w' b mb (del L k) room n ∧ But2 b mb w.heap.size w w' := by
  have hg := get_calls h hk
  cases hb : getB L k with
  | false =>
    have HE : Hid (getN L k = 0 ∧ XV w b mb (del L k) room n) := ⟨getN_none hb, by rw [del_none hb]; exact h⟩
    rw [hb] at hg
    clear h
    go_enter Try.func26, Try.ntmps26
    go_wp2_with fail
    refine hg.mono ?_
    rintro e w1 ⟨rfl, rfl⟩
    go_wp2
    go_returns
    exact ⟨by rw [HE.out.1]; rfl, HE.out.2, But2.refl _ _ _ _⟩
  | true =>
    rw [hb] at hg
    obtain ⟨c0, c1, c2, f0, f1⟩ := h.cells
    have s0 := h.ok.nn
    have s1 := h.ok.sum
    obtain ⟨r0, r1⟩ := h.ok.room
    obtain ⟨g0, g1⟩ := h.ok.get k
    have hw1 : IntKind.i64.wrap (sumL L - getN L k) = sumL L - getN L k := by rw [IntKind.wrap_i64]; omega
    obtain ⟨V, hrun, hK, hX, hB⟩ := h.drop hk 0
    have v0 := hK.cell 0 _ rfl
    have v1 := hK.cell 1 _ rfl
    have u1 := hK.frozen 1
    have HX : Hid (XV (V.setCell ⟨b, 1, none⟩ (.int .i64 (sumL L - getN L k))) b mb (del L k) room n ∧ But2 b mb w.heap.size w (V.setCell ⟨b, 1, none⟩ (.int .i64 (sumL L - getN L k)))) := ⟨hX, hB⟩
    clear h hX hB hK r0 r1 s0 s1 g0 g1
    go_enter Try.func26, Try.ntmps26
    go_wp2_with fail
    refine hg.mono ?_
    rintro e w1 ⟨rfl, rfl⟩
    go_wp2
    go_returns
    exact ⟨rfl, HX.out.1, HX.out.2⟩
set_option maxHeartbeats 800000 in
theorem book_nil (k x : Int) (w : World) : Calls Try.prog 24 #[.pointer none, .int .i64 k, .int .i64 x] w fun e w' => e = .returned (.int .i64 9) ∧ w' = w := by
  go_enter Try.func24, Try.ntmps24
  go_wp2_with fail
  refine (get_nil k w).mono ?_
  rintro e w1 ⟨rfl, rfl⟩
  go_wp2
  go_ret
  exact ⟨rfl, rfl⟩
set_option maxHeartbeats 800000 in
theorem chg_nil (k x : Int) (w : World) : Calls Try.prog 25 #[.pointer none, .int .i64 k, .int .i64 x] w fun e w' => e = .returned (.int .i64 9) ∧ w' = w := by
  go_enter Try.func25, Try.ntmps25
  go_wp2_with fail
  refine (get_nil k w).mono ?_
  rintro e w1 ⟨rfl, rfl⟩
  go_wp2
  go_ret
  exact ⟨rfl, rfl⟩
set_option maxHeartbeats 800000 in
theorem free_nil (k : Int) (w : World) : Calls Try.prog 26 #[.pointer none, .int .i64 k] w fun e w' => e = .returned (.tuple #[.int .i64 0, .bool false]) ∧ w' = w := by
  go_enter Try.func26, Try.ntmps26
  go_wp2_with fail
  refine (get_nil k w).mono ?_
  rintro e w1 ⟨rfl, rfl⟩
  go_wp2
  go_returns
  exact ⟨rfl, rfl⟩
end Go.Proofs.Ytpljpndegadckaa
