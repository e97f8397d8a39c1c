/- Proved here: how a shaper lies in memory, and what shaper.New, Step, Waiting answer. Conditions: as each theorem states them. -/
import Derived.Test.YtcenipihbmifpaaSrt
import Derived.Test.YtcenipihbmifpaaDelW
import Derived.Deep.RegionHeldLaw
namespace Go.Proofs.Ytcenipihbmifpaa
set_option linter.unusedSimpArgs false
set_option linter.unusedVariables false
open Go.RowKit Go.Shelf

theorem sret_int {a b : Int} (h : a = b) : Ending.returned (.int .i64 a) = .returned (.int .i64 b) := by rw [h]
theorem sret_bool {a b : Bool} (h : a = b) : Ending.returned (.bool a) = .returned (.bool b) := by rw [h]
theorem swrap_id {x : Int} (h0 : -9223372036854775808 ≤ x) (h1 : x ≤ 9223372036854775807) : IntKind.i64.wrap x = x := by rw [IntKind.wrap_i64]; omega

/-- A shaper in block r, of the blocks F. -/
structure SV (w : World) (F : Nat → Prop) (r : Nat) (S : Sh) : Prop where
  ex : ∃ a n c, BK w r #[.int .i64 S.s, .int .i64 S.e, .int .i64 S.slow, .int .i64 S.quick, .slice a n c, .int .i64 S.T] 59 ∧ CS 64 0 w a n c S.L ∧ (∀ y, a = some y → F y.block ∧ y.block ≠ r)
  hr : F r
  lt : ∀ k, F k → k < w.heap.size
  ok : S.Ok
/-- All but the blocks F is as it was; the blocks F' are of these, or new. -/
structure Ft (F F' : Nat → Prop) (w w' : World) : Prop where
  os : w'.os = w.os
  tape : w'.tape = w.tape
  output : w'.output = w.output
  size : w.heap.size ≤ w'.heap.size
  block : ∀ k, k < w.heap.size → ¬ F k → w'.heap[k]? = w.heap[k]?
  new : ∀ k, F' k → F k ∨ w.heap.size ≤ k
theorem Ft.of {F : Nat → Prop} {w w' : World} {m : Nat} (h : Below m w w') (hm : w.heap.size ≤ m) : Ft F F w w' := ⟨h.os, h.tape, h.output, h.size, fun k hk _ => h.block k (by omega), fun _ hk => .inl hk⟩
theorem Ft.refl (F : Nat → Prop) (w : World) : Ft F F w w := Ft.of (Below.refl w.heap.size w) (Nat.le_refl _)
theorem Ft.gb {F : Nat → Prop} {w w' : World} {row : Option Nat} (h : w.grownBy w' row) (hr : ∀ k, row = some k → F k) : Ft F F w w' := ⟨h.os, h.tape, h.output, h.size, fun k hk hF => h.block k hk (fun e => hF (hr k e.symm)), fun _ hk => .inl hk⟩
theorem Ft.set {F : Nat → Prop} (w : World) {p : Addr} (hp : F p.block) (u : Value) : Ft F F w (w.setCell p u) := Ft.gb (gb_set w rfl u) (fun k e => by cases e; exact hp)
theorem Ft.trans {F G H : Nat → Prop} {a b c : World} (h : Ft F G a b) (k : Ft G H b c) : Ft F H a c :=
  ⟨k.os.trans h.os, k.tape.trans h.tape, k.output.trans h.output, Nat.le_trans h.size k.size, fun i hi hF => (k.block i (Nat.lt_of_lt_of_le hi h.size) (fun hG => by rcases h.new i hG with h1 | h1; exact hF h1; omega)).trans (h.block i hi hF),
    fun i hi => by
      rcases k.new i hi with h1 | h1
      · exact h.new i h1
      · exact .inr (Nat.le_trans h.size h1)⟩
theorem Ft.wide {F G : Nat → Prop} {w w' : World} (h : Ft F F w w') {p : Nat} (hp : w.heap.size ≤ p ∨ F p) : Ft F (fun k => F k ∨ k = p) w w' := ⟨h.os, h.tape, h.output, h.size, h.block, fun k hk => by
  rcases hk with h1 | rfl
  · exact .inl h1
  · exact hp.symm⟩
theorem Ft.below {F F' : Nat → Prop} {w w' : World} (h : Ft F F' w w') {n : Nat} (hF : ∀ k, F k → n ≤ k) (hn : n ≤ w.heap.size) : Below n w w' := ⟨h.os, h.tape, h.output, h.size, fun k hk => h.block k (by omega) (fun e => by have := hF k e; omega)⟩
theorem Ft.from {F F' : Nat → Prop} {w w' : World} (h : Ft F F' w w') {n : Nat} (hF : ∀ k, F k → n ≤ k) (hn : n ≤ w.heap.size) : ∀ k, F' k → n ≤ k := fun k hk => by
  rcases h.new k hk with h1 | h1
  · exact hF k h1
  · omega
theorem Ft.sep {F F' G : Nat → Prop} {w w' : World} (h : Ft F F' w w') (hs : ∀ k, F k → ¬ G k) (hl : ∀ k, G k → k < w.heap.size) : ∀ k, F' k → ¬ G k := fun k hk hG => by
  rcases h.new k hk with h1 | h1
  · exact hs k h1 hG
  · have := hl k hG; omega
/-- A shaper beside what changed. -/
theorem SV.frame {F F' G : Nat → Prop} {w w' : World} {r : Nat} {S : Sh} (h : SV w G r S) (k : Ft F F' w w') (hs : ∀ k, F k → ¬ G k) : SV w' G r S := by
  obtain ⟨⟨a, n, c, hb, hc, hy⟩, h1, h2, h3⟩ := h
  have key : ∀ j, G j → w'.heap[j]? = w.heap[j]? := fun j hj => k.block j (h2 j hj) (fun hF => hs j hF hj)
  exact ⟨⟨a, n, c, (key r h1).trans hb, hc.keep (fun y e => key _ (hy y e).1), hy⟩, h1, fun j hj => Nat.lt_of_lt_of_le (h2 j hj) k.size, h3⟩
theorem SV.below {G : Nat → Prop} {w w' : World} {r : Nat} {S : Sh} (h : SV w G r S) {m : Nat} (hb : Below m w w') (hm : w.heap.size ≤ m) : SV w' G r S := h.frame (F := fun _ => False) (F' := fun _ => False) (Ft.of hb hm) (fun _ h => h.elim)

set_option maxHeartbeats 400000 in
theorem sheld_calls (x lo hi : Int) (w : World) : Calls Try.prog 21 #[.int .i64 x, .int .i64 lo, .int .i64 hi] w fun e w' => e = .returned (.int .i64 (min (max x lo) hi)) ∧ w' = w := by
  go_enter Try.func21, Try.ntmps21
  go_wp2 <;> (go_ret; exact ⟨sret_int (by omega), rfl⟩)
set_option maxHeartbeats 400000 in
theorem smoment_calls (x : Int) (w : World) : Calls Try.prog 24 #[.int .i64 x] w fun e w' => e = .returned (.int .i64 (hM x)) ∧ w' = w := by
  go_enter Try.func24, Try.ntmps24
  go_wp2_with fail
  refine (sheld_calls x 0 1152921504606846976 _).mono ?_
  rintro e w1 ⟨rfl, rfl⟩
  go_wp2
  go_ret
  exact ⟨rfl, rfl⟩

set_option maxHeartbeats 800000 in
theorem snew_calls (s e wl q : Int) (w : World) : Calls Try.prog 10 #[.int .i64 s, .int .i64 e, .int .i64 wl, .int .i64 q] w fun x w' => x = .returned (.pointer (some ⟨w.heap.size, 0, none⟩)) ∧ SV w' (fun k => k = w.heap.size) w.heap.size (Sh.mk0 s e wl q) ∧ Below w.heap.size w w' := by
  have HO : Hid ((Sh.mk0 s e wl q).Ok) := Sh.mk0_ok s e wl q
  have HQ : Hid (min (max q 0) (min (max wl 0) 1152921504606846976) = (Sh.mk0 s e wl q).quick) := by show _ = min (hM q) (hM wl); unfold hM; omega
  go_enter Try.func10, Try.ntmps10
  go_wp2_with fail
  refine (sheld_calls wl 0 1152921504606846976 _).mono ?_
  rintro x w1 ⟨rfl, rfl⟩
  go_wp2_with fail
  refine (sheld_calls s 1 1152921504606846976 _).mono ?_
  rintro x w1 ⟨rfl, rfl⟩
  go_wp2_with fail
  refine (sheld_calls e 0 1152921504606846976 _).mono ?_
  rintro x w1 ⟨rfl, rfl⟩
  go_wp2_with fail
  refine (sheld_calls q 0 _ _).mono ?_
  rintro x w1 ⟨rfl, rfl⟩
  rw [HQ.out]
  go_wp2
  go_ret
  exact ⟨rfl, ⟨⟨none, 0, 0, bk_new _ _ _, cs_nil _ _ _, fun y e => by cases e⟩, rfl, fun k e => by subst e; simp, HO.out⟩, (Below.refl _ _).alloc (Nat.le_refl _) _⟩

theorem swait_calls {w : World} {F : Nat → Prop} {r : Nat} {S : Sh} (h : SV w F r S) : Calls Try.prog 17 #[.pointer (some ⟨r, 0, none⟩)] w fun x w' => x = .returned (.int .i64 (S.L.length : Int)) ∧ w' = w := by
  obtain ⟨⟨a, n, c, hb, hc, hy⟩, h1, h2, h3⟩ := h
  have c4 := hb.cell 4 _ rfl
  have Hn : Hid (n = S.L.length) := hc.1
  go_enter Try.func17, Try.ntmps17
  go_wp2
  go_ret
  exact ⟨sret_int (congrArg Nat.cast Hn.out), rfl⟩

set_option maxHeartbeats 1000000 in
theorem sstep_calls {w : World} {F : Nat → Prop} {r : Nat} {S : Sh} (h : SV w F r S) (t : Int) : Calls Try.prog 18 #[.pointer (some ⟨r, 0, none⟩), .int .i64 t] w fun x w' => x = .returned (.int .i64 (stN S.s S.L (hM t))) ∧ Below w.heap.size w w' := by
  obtain ⟨⟨a, n, c, hb, hc, hy⟩, h1, h2, h3⟩ := h
  have c0 := hb.cell 0 _ rfl
  have c4 := hb.cell 4 _ rfl
  have hn8 : n ≤ 8 := by rw [hc.1]; exact h3.len
  have hs0 := h3.s0
  have hmx : (if 1 < S.s then S.s else 1) = S.s := by split <;> omega
  have HW : Hid ((walkC (S.s, -1) (hM t) (sortC S.L)).1 = stN S.s S.L (hM t)) := stN_walk (fun y hy => (h3.L0 y hy).2.2.1)
  obtain ⟨A, hA⟩ : ∃ A, sortC S.L = A := ⟨_, rfl⟩
  have HSo := fun w' (hc' : CS 64 0 w' a n c S.L) => sorted_calls w' a n c S.L hc' hn8
  rw [hA] at HW HSo
  clear hA hy h1 h2 h3
  go_enter Try.func18, Try.ntmps18
  go_wp2_with fail
  refine (HSo _ hc).mono ?_
  rintro x w1 ⟨a', c', rfl, o1, b1⟩
  have hnA : Hid (n = A.length) := o1.1
  clear c0 c4 hb hc HSo hs0 hmx
  go_wp2
  go_loopw [5, 21] (fun sv iv wr => ∃ (k : Nat) (q : Int × Int), k ≤ n ∧ iv = .int .i64 k ∧ sv = .int .i64 q.1 ∧ walkC q (hM t) (A.drop k) = walkC (S.s, -1) (hM t) A ∧ Below w1.heap.size w1 wr) (fun _ iv _ => n - (intOf iv).toNat)
  case atStart => exact ⟨0, (S.s, -1), Nat.zero_le _, rfl, rfl, rfl, Below.refl _ _⟩
  case round =>
    obtain ⟨k, q, hk, rfl, rfl, hq, b2⟩ := hrel
    have HQ : Hid (walkC q (hM t) (A.drop k) = walkC (S.s, -1) (hM t) A) := hq
    clear hq
    by_cases hlt : k < n
    · obtain ⟨x, hx⟩ : ∃ x, A[k]? = some x := ⟨_, List.getElem?_eq_getElem (by have := hnA.out; omega)⟩
      have HD : Hid (A.drop k = x :: A.drop (k + 1)) := by show A.drop k = _; rw [List.drop_eq_getElem_cons (by have := hnA.out; omega)]; congr 1; exact (List.getElem?_eq_some_iff.1 hx).2
      obtain ⟨g, rfl, d1, d2⟩ := (o1.below b2 (Nat.le_refl _)).cell hx
      obtain ⟨m, hm⟩ : ∃ m, hM t = m := ⟨_, rfl⟩
      have HM : Hid (hM t = m) := hm
      clear hx hm
      go_wp2
      have e1 := (bk_new wr #[.int .i64 x.1, .int .i64 x.2] 64).cell 1 _ rfl
      have e0 := (bk_new wr #[.int .i64 x.1, .int .i64 x.2] 64).cell 0 _ rfl
      refine wp_region_held_drew (S := (fun w' => w'.cell? ⟨wr.heap.size, 1, none⟩ = some (.int .i64 x.2))) (by kernel_rfl) e1 (fun hHeld => ?_)
      refine wpAnyH_take (i := 0) (oi := ({ dst := some 25, op := Op.fieldAddr 64 (Operand.tmp 7) 1, type := 0, pos := _, after := #[], guard := none } : Oper)) (v := ?_) rfl (by kernel_rfl) (by kernel_rfl) (by kernel_rfl) (fun _ _ _ h => h) (Or.inl ⟨by rfl, ?_⟩) hHeld ?_
      rotate_left
      · (intro w hS; go_simp; try with_reducible rfl)
      try simp only [Act.put, List.setIfInBounds_toArray, List.set_cons_zero, List.set_cons_succ]
      refine wpAnyH_take (i := 1) (oi := ({ dst := some 26, op := Op.load 3 (Operand.tmp 25), type := 3, pos := _, after := #[{ on := 0, ground := Ground.data }], guard := none } : Oper)) (v := ?_) rfl (by kernel_rfl) (by kernel_rfl) (by kernel_rfl) (fun _ _ _ h => h) (Or.inl ⟨by rfl, ?_⟩) hHeld ?_
      rotate_left
      · (intro w hS; go_simp; try with_reducible rfl)
      try simp only [Act.put, List.setIfInBounds_toArray, List.set_cons_zero, List.set_cons_succ]
      refine wpAnyH_take (i := 2) (oi := ({ dst := some 27, op := Op.move (Operand.tmp 1), type := 3, pos := _, after := #[], guard := none } : Oper)) (v := ?_) rfl (by kernel_rfl) (by kernel_rfl) (by kernel_rfl) (fun _ _ _ h => h) (Or.inl ⟨by rfl, ?_⟩) hHeld ?_
      rotate_left
      · (intro w hS; go_simp; try with_reducible rfl)
      try simp only [Act.put, List.setIfInBounds_toArray, List.set_cons_zero, List.set_cons_succ]
      refine wpAnyH_ready (rs := [3]) (by kernel_rfl) (by simp) ?_
      refine AllReadyH.cons (o := ({ dst := some 28, op := Op.call { callee := Callee.value (Operand.func 24), args := #[Operand.tmp 27], argTypes := #[3] }, type := 3, pos := _, after := #[{ on := 2, ground := Ground.data }], guard := none } : Oper)) rfl (fun K hK => ?_) AllReadyH.nil
      refine step_call (smoment_calls t _) (enters_of Try.func24 (by kernel_rfl) rfl) _ _ rfl rfl rfl ?_
      rintro e w2 ⟨rfl, rfl⟩
      rw [HM.out]
      refine ⟨_, rfl, hK.out _ _ e1 (fun hHeld => ?_)⟩
      clear hK K
      try simp only [Act.put, List.setIfInBounds_toArray, List.set_cons_zero, List.set_cons_succ]
      refine wpAnyH_take (i := 4) (oi := ({ dst := some 29, op := Op.binOp BinOp.gtr 3 (Operand.tmp 26) (Operand.tmp 28) 3, type := 4, pos := _, after := #[{ on := 1, ground := Ground.data }, { on := 3, ground := Ground.data }], guard := none } : Oper)) (v := ?_) rfl (by kernel_rfl) (by kernel_rfl) (by kernel_rfl) (fun _ _ _ h => h) (Or.inl ⟨by rfl, ?_⟩) hHeld ?_
      rotate_left
      · (intro w hS; go_simp; try with_reducible rfl)
      try simp only [Act.put, List.setIfInBounds_toArray, List.set_cons_zero, List.set_cons_succ]
      refine wpAnyH_done (by kernel_rfl) ?_ _
      skip
      by_cases hxt : m < x.2
      · have hdx : decide (m < x.2) = true := decide_eq_true hxt
        have HT : Hid (m < x.2) := hxt
        clear hxt
        rw [hdx]
        go_wp2
        go_ret
        refine ⟨sret_int ?_, b1.trans ((b2.mono b1.size).alloc (Nat.le_trans b1.size b2.size) _).drew⟩
        have h := HQ.out
        rw [HD.out, walkC, HM.out, if_pos HT.out] at h
        rw [← HW.out, HM.out, ← h]
      · have hdx : decide (m < x.2) = false := decide_eq_false hxt
        have HT : Hid (¬ m < x.2) := hxt
        clear hxt
        rw [hdx]
        go_wp2
        go_roundw
        case rel => exact ⟨k + 1, x, by omega, by go_num, rfl, by have h := HQ.out; rw [HD.out, walkC, HM.out, if_neg HT.out] at h; rw [HM.out]; exact h, (b2.alloc b2.size _).drew⟩
        case measure => simp [intOf]; omega
    · obtain rfl : k = n := by omega
      go_wp2
      go_ret
      refine ⟨sret_int ?_, b1.trans (b2.mono b1.size)⟩
      have h := HQ.out
      rw [List.drop_eq_nil_of_le (by have := hnA.out; omega)] at h
      rw [← HW.out, ← h]
      rfl
end Go.Proofs.Ytcenipihbmifpaa
