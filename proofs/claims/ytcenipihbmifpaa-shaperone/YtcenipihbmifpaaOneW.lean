/- Proved here: the walk of ShaperOne. Conditions: as each theorem states them. -/
import Derived.Test.YtcenipihbmifpaaAwk
import Derived.Test.YtcenipihbmifpaaStepT
namespace Go.Proofs.Ytcenipihbmifpaa
set_option linter.unusedSimpArgs false
set_option linter.unusedVariables false
open Go.RowKit Go.Shelf

theorem ft_but {b n : Nat} {w w' : World} (h : But b n w w') (hn : w.heap.size ≤ n) : Ft (fun k => k = b) (fun k => k = b) w w' := ⟨h.os, h.tape, h.output, h.size, fun k hk hb => h.block k (by omega) hb, fun _ hk => .inl hk⟩
theorem BK.ft {F F' : Nat → Prop} {w w' : World} {b : Nat} {vs : Array Value} {t : TypeId} (h : BK w b vs t) (k : Ft F F' w w') (hb : ¬ F b) : BK w' b vs t := (k.block b h.lt hb).trans h

/-- A shaper without changes. -/
def one (s e wl q T : Int) : Sh := { Sh.mk0 s e wl q with T := T }
theorem one_fit (s e wl q T t : Int) : (one s e wl q T).fit (hM t) = fitN e T t := rfl
theorem one_take (s e wl q T t : Int) : (one s e wl q T).take (hM t) = one s e wl q (stepT s e T t) := by
  unfold Sh.take
  cases h : fitN e T t with
  | true =>
    have h' : ((one s e wl q T).come (hM t)).fit (hM t) = true := h
    rw [if_pos h', stepT_yes h]
    rfl
  | false =>
    have h' : ¬ ((one s e wl q T).come (hM t)).fit (hM t) = true := by show ¬ fitN e T t = true; rw [h]; decide
    rw [if_neg h', stepT_no h]
    rfl
/-- A shaper and a bucket, both of blocks from n on. -/
structure OneI (n : Nat) (w : World) (r b : Nat) (s e wl q T T' : Int) : Prop where
  ex : ∃ F, SV w F r (one s e wl q T) ∧ ¬ F b ∧ ∀ k, F k → n ≤ k
  bc : BC w b s e T'
  lo : n ≤ b
  t0 : 0 ≤ T'
  t1 : T' ≤ 3458764513820540928
theorem OneI.drew {n : Nat} {w : World} {r b : Nat} {s e wl q T T' : Int} (h : OneI n w r b s e wl q T T') : OneI n w.drew r b s e wl q T T' := by
  obtain ⟨⟨F, h1, h2⟩, hb, hl, t0, t1⟩ := h
  exact ⟨⟨F, h1.below (Below.refl w.heap.size w).drew (Nat.le_refl _), h2⟩, hb, hl, t0, t1⟩
theorem OneI.take {n : Nat} {w : World} {r b : Nat} {s e wl q T T' : Int} (h : OneI n w r b s e wl q T T') (x : Int) : Calls Try.prog 14 #[.pointer (some ⟨r, 0, none⟩), .int .i64 x] w fun y w' => y = .returned (.bool (fitN e T x)) ∧ OneI n w' r b s e wl q (stepT s e T x) T' ∧ Below n w w' := by
  obtain ⟨⟨F, h1, h2, h3⟩, hb, hl, t0, t1⟩ := h
  refine (stake_calls h1 x).mono ?_
  rintro y w' ⟨rfl, h4, g4⟩
  rw [one_take] at h4
  exact ⟨rfl, ⟨⟨F, h4, h2, h3⟩, BK.ft hb g4 h2, hl, t0, t1⟩, g4.below h3 (Nat.le_trans hl (Nat.le_of_lt hb.lt))⟩
theorem OneI.bucket {n : Nat} {w : World} {r b : Nat} {s e wl q T T' : Int} (h : OneI n w r b s e wl q T T') (x : Int) : Calls Try.prog 20 #[.pointer (some ⟨b, 0, none⟩), .int .i64 x] w fun y w' => y = .returned (.bool (fitN e T' x)) ∧ OneI n w' r b s e wl q T (stepT s e T' x) ∧ Below n w w' := by
  obtain ⟨⟨F, h1, h2, h3⟩, hb, hl, t0, t1⟩ := h
  refine (take_calls b s e T' x w hb t0 t1).mono ?_
  rintro y w' ⟨rfl, h4, g4⟩
  have ⟨u0, u1⟩ := stepT_bound (s := s) (e := e) (t := x) t0 t1
  exact ⟨rfl, ⟨⟨F, h1.frame (ft_but g4 (Nat.le_refl _)) (fun k e => by subst e; exact h2), h2, h3⟩, h4, hl, u0, u1⟩, g4.below (Nat.le_trans hl (Nat.le_of_lt hb.lt)) hl⟩

set_option maxHeartbeats 2000000 in
theorem one_walk (s e wl q : Int) (a : Option Addr) (len cap : Nat) (zs : List Int) (w : World) (hL : IsR .i64 w.heap.size w a len zs) :
    Calls Try.prog 4 #[.int .i64 s, .int .i64 e, .int .i64 wl, .int .i64 q, .slice a len cap] w fun e w' => e = .returned (.bool true) ∧ Below w.heap.size w w' := by
  by_cases hl1 : 200 < len
  · have q1 : decide (200 < (len : Int)) = true := by simp; omega
    clear hL
    go_enter Try.func4, Try.ntmps4
    go_wp2_with fail
    refine (awake_calls _).mono ?_
    rintro e w1 ⟨rfl, b1⟩
    go_wp2_with fail
    refine (awake_calls _).mono ?_
    rintro e w2 ⟨rfl, b2⟩
    go_wp2
    go_ret
    exact ⟨rfl, b1.trans (b2.mono b1.size)⟩
  · have q1 : decide (200 < (len : Int)) = false := by simp; omega
    have Hl : Hid (len = zs.length) := hL.1
    go_enter Try.func4, Try.ntmps4
    go_wp2_with fail
    refine (awake_calls _).mono ?_
    rintro e w1 ⟨rfl, b1⟩
    go_wp2_with fail
    refine (snew_calls s e wl q _).mono ?_
    rintro x w2 ⟨rfl, h2, b2⟩
    have B2 := b1.trans (b2.mono b1.size)
    go_wp2_with fail
    refine (new_calls s e _).mono ?_
    rintro x w3 ⟨rfl, k3, b3⟩
    have I3 : OneI w.heap.size w3 w1.heap.size w2.heap.size s e wl q 0 0 := ⟨⟨_, h2.below b3 (Nat.le_refl _), by have := h2.lt _ rfl; omega, fun k hk => by have := b1.size; omega⟩, k3, B2.size, Int.le_refl _, by decide⟩
    have B3 := B2.trans (b3.mono B2.size)
    have hl200 : len ≤ 200 := by omega
    clear b1 h2 b2 B2 k3 b3 q1 hl1
    generalize w1.heap.size = r at *
    generalize w2.heap.size = b at *
    go_wp2
    go_loopw [32] (fun iv wr => ∃ (i : Nat) (T : Int), i ≤ len ∧ iv = .int .i64 i ∧ OneI w.heap.size wr r b s e wl q T T ∧ Below w.heap.size w wr) (fun iv _ => len - (intOf iv).toNat)
    case atStart => exact ⟨0, 0, Nat.zero_le _, rfl, I3, B3⟩
    case round =>
      obtain ⟨i, T, hi, rfl, I4, b4⟩ := hrel
      clear I3 B3
      by_cases hlt : i < len
      · obtain ⟨x, hx⟩ : ∃ x, zs[i]? = some x := ⟨_, List.getElem?_eq_getElem (by have := Hl.out; omega)⟩
        obtain ⟨g, off, rfl, hg, hcx⟩ := hL.cell hx
        have hc := fun w' (hb : Below w.heap.size w w') => (hb.cell (p := ⟨g, off + i, none⟩) hg).trans (hcx i x hx)
        clear hx hcx
        have c4 := hc _ b4
        obtain ⟨f, hf⟩ : ∃ f, fitN e T x = f := ⟨_, rfl⟩
        have HF : Hid (fitN e T x = f) := hf
        have hbn : (f != f) = false := by simp
        clear hf
        go_wp2
        refine wp_region_held_drew (S := (fun w' => w'.cell? ⟨g, off + i, none⟩ = some (.int .i64 x))) (by kernel_rfl) c4 (fun hHeld => ?_)
        refine wpAnyH_take (i := 0) (oi := ({ dst := some 35, op := Op.move (Operand.tmp 11), type := 24, pos := _, after := #[], guard := none } : Oper)) (v := ?_) rfl (by kernel_rfl) (by kernel_rfl) (by kernel_rfl) (fun _ _ _ h => h) (Or.inl ⟨by rfl, ?_⟩) hHeld ?_
        rotate_left
        · (intro w hS; go_simp; try with_reducible rfl)
        try simp only [Act.put, List.setIfInBounds_toArray, List.set_cons_zero, List.set_cons_succ]
        refine wpAnyH_take (i := 1) (oi := ({ dst := some 36, op := Op.move (Operand.tmp 4), type := 44, pos := _, after := #[], guard := none } : Oper)) (v := ?_) rfl (by kernel_rfl) (by kernel_rfl) (by kernel_rfl) (fun _ _ _ h => h) (Or.inl ⟨by rfl, ?_⟩) hHeld ?_
        rotate_left
        · (intro w hS; go_simp; try with_reducible rfl)
        try simp only [Act.put, List.setIfInBounds_toArray, List.set_cons_zero, List.set_cons_succ]
        refine wpAnyH_take (i := 2) (oi := ({ dst := some 37, op := Op.move (Operand.tmp 13), type := 3, pos := _, after := #[], guard := none } : Oper)) (v := ?_) rfl (by kernel_rfl) (by kernel_rfl) (by kernel_rfl) (fun _ _ _ h => h) (Or.inl ⟨by rfl, ?_⟩) hHeld ?_
        rotate_left
        · (intro w hS; go_simp; try with_reducible rfl)
        try simp only [Act.put, List.setIfInBounds_toArray, List.set_cons_zero, List.set_cons_succ]
        refine wpAnyH_take (i := 3) (oi := ({ dst := some 38, op := Op.indexAddr 44 (Operand.tmp 36) (Operand.tmp 37), type := 0, pos := _, after := #[{ on := 1, ground := Ground.data }, { on := 2, ground := Ground.data }], guard := none } : Oper)) (v := ?_) rfl (by kernel_rfl) (by kernel_rfl) (by kernel_rfl) (fun _ _ _ h => h) (Or.inl ⟨by rfl, ?_⟩) hHeld ?_
        rotate_left
        · (intro w hS; go_simp; try with_reducible rfl)
        try simp only [Act.put, List.setIfInBounds_toArray, List.set_cons_zero, List.set_cons_succ]
        refine wpAnyH_take (i := 4) (oi := ({ dst := some 39, op := Op.load 3 (Operand.tmp 38), type := 3, pos := _, after := #[{ on := 3, ground := Ground.data }], guard := none } : Oper)) (v := ?_) rfl (by kernel_rfl) (by kernel_rfl) (by kernel_rfl) (fun _ _ _ h => h) (Or.inl ⟨by rfl, ?_⟩) hHeld ?_
        rotate_left
        · (intro w hS; go_simp; try with_reducible rfl)
        try simp only [Act.put, List.setIfInBounds_toArray, List.set_cons_zero, List.set_cons_succ]
        refine wpAnyH_take (i := 6) (oi := ({ dst := some 41, op := Op.move (Operand.tmp 12), type := 45, pos := _, after := #[], guard := none } : Oper)) (v := ?_) rfl (by kernel_rfl) (by kernel_rfl) (by kernel_rfl) (fun _ _ _ h => h) (Or.inl ⟨by rfl, ?_⟩) hHeld ?_
        rotate_left
        · (intro w hS; go_simp; try with_reducible rfl)
        try simp only [Act.put, List.setIfInBounds_toArray, List.set_cons_zero, List.set_cons_succ]
        refine wpAnyH_take (i := 7) (oi := ({ dst := some 42, op := Op.move (Operand.tmp 4), type := 44, pos := _, after := #[], guard := none } : Oper)) (v := ?_) rfl (by kernel_rfl) (by kernel_rfl) (by kernel_rfl) (fun _ _ _ h => h) (Or.inl ⟨by rfl, ?_⟩) hHeld ?_
        rotate_left
        · (intro w hS; go_simp; try with_reducible rfl)
        try simp only [Act.put, List.setIfInBounds_toArray, List.set_cons_zero, List.set_cons_succ]
        refine wpAnyH_take (i := 8) (oi := ({ dst := some 43, op := Op.move (Operand.tmp 13), type := 3, pos := _, after := #[], guard := none } : Oper)) (v := ?_) rfl (by kernel_rfl) (by kernel_rfl) (by kernel_rfl) (fun _ _ _ h => h) (Or.inl ⟨by rfl, ?_⟩) hHeld ?_
        rotate_left
        · (intro w hS; go_simp; try with_reducible rfl)
        try simp only [Act.put, List.setIfInBounds_toArray, List.set_cons_zero, List.set_cons_succ]
        refine wpAnyH_take (i := 9) (oi := ({ dst := some 44, op := Op.indexAddr 44 (Operand.tmp 42) (Operand.tmp 43), type := 0, pos := _, after := #[{ on := 7, ground := Ground.data }, { on := 8, ground := Ground.data }], guard := none } : Oper)) (v := ?_) rfl (by kernel_rfl) (by kernel_rfl) (by kernel_rfl) (fun _ _ _ h => h) (Or.inl ⟨by rfl, ?_⟩) hHeld ?_
        rotate_left
        · (intro w hS; go_simp; try with_reducible rfl)
        try simp only [Act.put, List.setIfInBounds_toArray, List.set_cons_zero, List.set_cons_succ]
        refine wpAnyH_take (i := 10) (oi := ({ dst := some 45, op := Op.load 3 (Operand.tmp 44), type := 3, pos := _, after := #[{ on := 9, ground := Ground.data }], guard := none } : Oper)) (v := ?_) rfl (by kernel_rfl) (by kernel_rfl) (by kernel_rfl) (fun _ _ _ h => h) (Or.inl ⟨by rfl, ?_⟩) hHeld ?_
        rotate_left
        · (intro w hS; go_simp; try with_reducible rfl)
        try simp only [Act.put, List.setIfInBounds_toArray, List.set_cons_zero, List.set_cons_succ]
        refine wpAnyH_ready (rs := [5]) (by kernel_rfl) (by simp) ?_
        refine AllReadyH.cons (o := ({ dst := some 40, op := Op.call { callee := Callee.value (Operand.func 14), args := #[Operand.tmp 35, Operand.tmp 39], argTypes := #[24, 3] }, type := 4, pos := _, after := #[{ on := 0, ground := Ground.data }, { on := 4, ground := Ground.data }], guard := none } : Oper)) rfl (fun K hK => ?_) AllReadyH.nil
        refine step_call (I4.drew.take x) (enters_of Try.func14 (by kernel_rfl) rfl) _ _ rfl rfl rfl ?_
        rintro y w5 ⟨rfl, I5, b5⟩
        rw [HF.out]
        have B5 := b4.drew.trans b5
        refine ⟨_, rfl, hK.out _ _ (hc _ B5) (fun hHeld => ?_)⟩
        clear hK K
        try simp only [Act.put, List.setIfInBounds_toArray, List.set_cons_zero, List.set_cons_succ]
        refine wpAnyH_ready (rs := [11]) (by kernel_rfl) (by simp) ?_
        refine AllReadyH.cons (o := ({ dst := some 46, op := Op.call { callee := Callee.value (Operand.func 20), args := #[Operand.tmp 41, Operand.tmp 45], argTypes := #[45, 3] }, type := 4, pos := _, after := #[{ on := 6, ground := Ground.data }, { on := 10, ground := Ground.data }, { on := 5, ground := Ground.chain }], guard := none } : Oper)) rfl (fun K hK => ?_) AllReadyH.nil
        refine step_call (I5.bucket x) (enters_of Try.func20 (by kernel_rfl) rfl) _ _ rfl rfl rfl ?_
        rintro y w6 ⟨rfl, I6, b6⟩
        rw [HF.out]
        have B6 := B5.trans b6
        refine ⟨_, rfl, hK.out _ _ (hc _ B6) (fun hHeld => ?_)⟩
        clear hK K
        try simp only [Act.put, List.setIfInBounds_toArray, List.set_cons_zero, List.set_cons_succ]
        refine wpAnyH_take (i := 12) (oi := ({ dst := some 47, op := Op.binOp BinOp.neq 4 (Operand.tmp 40) (Operand.tmp 46) 4, type := 4, pos := _, after := #[{ on := 5, ground := Ground.data }, { on := 11, ground := Ground.data }], guard := none } : Oper)) (v := ?_) rfl (by kernel_rfl) (by kernel_rfl) (by kernel_rfl) (fun _ _ _ h => h) (Or.inl ⟨by rfl, ?_⟩) hHeld ?_
        rotate_left
        · (intro w hS; go_simp; try with_reducible rfl)
        try simp only [Act.put, List.setIfInBounds_toArray, List.set_cons_zero, List.set_cons_succ]
        refine wpAnyH_done (by kernel_rfl) ?_ _
        clear c4
        go_wp2
        go_roundw
        case rel => exact ⟨i + 1, _, by omega, by go_num, I6, B6⟩
        case measure => simp [intOf]; omega
      · obtain rfl : i = len := by omega
        obtain ⟨F, h5, _⟩ := I4.ex
        go_wp2_with fail
        refine (swait_calls h5).mono ?_
        rintro e w5 ⟨rfl, rfl⟩
        go_wp2
        go_ret
        exact ⟨rfl, b4⟩
end Go.Proofs.Ytcenipihbmifpaa
