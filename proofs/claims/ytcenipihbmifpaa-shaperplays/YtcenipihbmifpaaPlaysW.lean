/- Proved here: the walk of ShaperPlays. Conditions: as each theorem states them. -/
import Derived.Test.YtcenipihbmifpaaRefN
import Derived.Test.YtcenipihbmifpaaOps
namespace Go.Proofs.Ytcenipihbmifpaa
set_option linter.unusedSimpArgs false
set_option linter.unusedVariables false
open Go.RowKit Go.Shelf

/-- A shaper and the document's, side by side, of blocks from n on. -/
structure PI (n : Nat) (w : World) (r q : Nat) (S Z : Sh) : Prop where
  ex : ∃ F G, SV w F r S ∧ RV w G q Z ∧ (∀ k, F k → ¬ G k) ∧ (∀ k, F k → n ≤ k) ∧ (∀ k, G k → n ≤ k)
theorem sv_size {w : World} {F : Nat → Prop} {r : Nat} {S : Sh} (h : SV w F r S) {n : Nat} (hF : ∀ k, F k → n ≤ k) : n ≤ w.heap.size := by have := h.lt r h.hr; have := hF r h.hr; omega
theorem sep_symm {F G : Nat → Prop} (h : ∀ k, F k → ¬ G k) : ∀ k, G k → ¬ F k := fun k hG hF => h k hF hG
theorem PI.below {n : Nat} {w w' : World} {r q : Nat} {S Z : Sh} (h : PI n w r q S Z) {m : Nat} (b : Below m w w') (hm : w.heap.size ≤ m) : PI n w' r q S Z := by
  obtain ⟨F, G, h1, h2, h3⟩ := h.ex
  exact ⟨F, G, h1.below b hm, h2.below b hm, h3⟩
theorem PI.drew {n : Nat} {w : World} {r q : Nat} {S Z : Sh} (h : PI n w r q S Z) : PI n w.drew r q S Z := h.below (Below.refl w.heap.size w).drew (Nat.le_refl _)
theorem PI.set {n : Nat} {w : World} {r q : Nat} {S Z : Sh} (h : PI n w r q S Z) (t st : Int) : Calls Try.prog 12 #[.pointer (some ⟨r, 0, none⟩), .int .i64 t, .int .i64 st] w fun y w' => y = .returned (.int .i64 (S.setE (hM t))) ∧ PI n w' r q (S.set (hM t) (hS st)) Z ∧ Below n w w' := by
  obtain ⟨F, G, h1, h2, h3, h4, h5⟩ := h.ex
  refine (sset_calls h1 t st).mono ?_
  rintro y w' ⟨rfl, F', h6, g6⟩
  exact ⟨rfl, ⟨F', G, h6, h2.frame g6 h3, g6.sep h3 h2.lt, g6.from h4 (sv_size h1 h4), h5⟩, g6.below h4 (sv_size h1 h4)⟩
theorem PI.rset {n : Nat} {w : World} {r q : Nat} {S Z : Sh} (h : PI n w r q S Z) (t st : Int) : Calls Try.prog 13 #[.pointer (some ⟨q, 0, none⟩), .int .i64 t, .int .i64 st] w fun y w' => y = .returned (.int .i64 (Z.setE (hM t))) ∧ PI n w' r q S (Z.set (hM t) (hS st)) ∧ Below n w w' := by
  obtain ⟨F, G, h1, h2, h3, h4, h5⟩ := h.ex
  refine (rset_calls h2 t st).mono ?_
  rintro y w' ⟨rfl, G', h6, g6⟩
  exact ⟨rfl, ⟨F, G', h1.frame g6 (sep_symm h3), h6, sep_symm (g6.sep (sep_symm h3) h1.lt), h4, g6.from h5 (sv_size h1 h4)⟩, g6.below h5 (sv_size h1 h4)⟩
theorem PI.take {n : Nat} {w : World} {r q : Nat} {S Z : Sh} (h : PI n w r q S Z) (t : Int) : Calls Try.prog 14 #[.pointer (some ⟨r, 0, none⟩), .int .i64 t] w fun y w' => y = .returned (.bool (S.fit (hM t))) ∧ PI n w' r q (S.take (hM t)) Z ∧ Below n w w' := by
  obtain ⟨F, G, h1, h2, h3, h4, h5⟩ := h.ex
  refine (stake_calls h1 t).mono ?_
  rintro y w' ⟨rfl, h6, g6⟩
  exact ⟨rfl, ⟨F, G, h6, h2.frame g6 h3, h3, h4, h5⟩, g6.below h4 (sv_size h1 h4)⟩
theorem PI.rtake {n : Nat} {w : World} {r q : Nat} {S Z : Sh} (h : PI n w r q S Z) (t : Int) : Calls Try.prog 15 #[.pointer (some ⟨q, 0, none⟩), .int .i64 t] w fun y w' => y = .returned (.bool (Z.fit (hM t))) ∧ PI n w' r q S (Z.take (hM t)) ∧ Below n w w' := by
  obtain ⟨F, G, h1, h2, h3, h4, h5⟩ := h.ex
  refine (rtake_calls h2 t).mono ?_
  rintro y w' ⟨rfl, G', h6, g6⟩
  exact ⟨rfl, ⟨F, G', h1.frame g6 (sep_symm h3), h6, sep_symm (g6.sep (sep_symm h3) h1.lt), h4, g6.from h5 (sv_size h1 h4)⟩, g6.below h5 (sv_size h1 h4)⟩
theorem PI.come {n : Nat} {w : World} {r q : Nat} {S Z : Sh} (h : PI n w r q S Z) (t : Int) : Calls Try.prog 16 #[.pointer (some ⟨q, 0, none⟩), .int .i64 t] w fun y w' => (∃ a m c, y = .returned (.tuple #[.int .i64 (stN Z.s Z.L (hM t)), .slice a m c])) ∧ PI n w' r q S Z ∧ Below n w w' := by
  obtain ⟨F, G, h1, h2, h3, h4, h5⟩ := h.ex
  refine (rcome_calls h2 t).mono ?_
  rintro y w' ⟨a, m, c, rfl, _, b6⟩
  exact ⟨⟨a, m, c, rfl⟩, h.below b6 (Nat.le_refl _), b6.mono (sv_size h1 h4)⟩
theorem PI.step {n : Nat} {w : World} {r q : Nat} {S Z : Sh} (h : PI n w r q S Z) (t : Int) : Calls Try.prog 18 #[.pointer (some ⟨r, 0, none⟩), .int .i64 t] w fun y w' => y = .returned (.int .i64 (stN S.s S.L (hM t))) ∧ PI n w' r q S Z ∧ Below n w w' ∧ ∀ k, w'.cell? ⟨q, k, none⟩ = w.cell? ⟨q, k, none⟩ := by
  obtain ⟨F, G, h1, h2, h3, h4, h5⟩ := h.ex
  refine (sstep_calls h1 t).mono ?_
  rintro y w' ⟨rfl, b6⟩
  exact ⟨rfl, h.below b6 (Nat.le_refl _), b6.mono (sv_size h1 h4), fun k => b6.cell (p := ⟨q, k, none⟩) (h2.lt q h2.hr)⟩
theorem PI.wait {n : Nat} {w : World} {r q : Nat} {S Z : Sh} (h : PI n w r q S Z) : Calls Try.prog 17 #[.pointer (some ⟨r, 0, none⟩)] w fun y w' => y = .returned (.int .i64 (S.L.length : Int)) ∧ w' = w := by
  obtain ⟨F, G, h1, _⟩ := h.ex
  exact swait_calls h1
theorem PI.slice {n : Nat} {w : World} {r q : Nat} {S Z : Sh} (h : PI n w r q S Z) : ∃ a c, w.cell? ⟨q, 7, none⟩ = some (.slice a Z.L.length c) := by
  obtain ⟨F, G, _, ⟨⟨X, A, y, a, m, c, hb, hc, _⟩, _⟩, _⟩ := h.ex
  exact ⟨a, c, by rw [← hc.1]; exact hb.cell 7 _ rfl⟩

set_option maxHeartbeats 4000000 in
set_option maxRecDepth 20000 in
theorem plays_walk (s e wl p t : Int) (a : Option Addr) (len cap : Nat) (L : List (Int × Int)) (w : World) (hL : IsO w.heap.size w a len L) :
    Calls Try.prog 3 #[.int .i64 s, .int .i64 e, .int .i64 wl, .int .i64 p, .slice a len cap, .int .i64 t] w fun e w' => e = .returned (.bool true) ∧ Below w.heap.size w w' := by
  by_cases hl1 : 200 < len
  · have q1 : decide (200 < (len : Int)) = true := by simp; omega
    clear hL
    go_enter Try.func3, Try.ntmps3
    go_wp2_with fail
    refine (awake_calls _).mono ?_
    rintro e w1 ⟨rfl, b1⟩
    go_wp2_with fail
    refine (awake_calls _).mono ?_
    rintro e w2 ⟨rfl, b2⟩
    go_wp2
    go_ret
    exact ⟨rfl, b1.trans (b2.mono b1.size)⟩
  · have q1 : decide (200 < (len : Int)) = false := by simp; omega
    go_enter Try.func3, Try.ntmps3
    go_wp2_with fail
    refine (awake_calls _).mono ?_
    rintro x w1 ⟨rfl, b1⟩
    go_wp2_with fail
    refine (snew_calls s e wl p _).mono ?_
    rintro x w2 ⟨rfl, h2, b2⟩
    have B2 := b1.trans (b2.mono b1.size)
    go_wp2_with fail
    refine (rnew_calls s e wl p _).mono ?_
    rintro x w3 ⟨q, rfl, hq, k3, b3⟩
    have I3 : PI w.heap.size w3 w1.heap.size q (Sh.mk0 s e wl p) (Sh.mk0 s e wl p) := ⟨_, _, h2.below b3 (Nat.le_refl _), k3, fun k e => by have := h2.lt _ e; omega, fun k e => by have := b1.size; omega, fun k e => by have := B2.size; omega⟩
    have B3 := B2.trans (b3.mono B2.size)
    have hl200 : len ≤ 200 := by omega
    clear b1 h2 b2 B2 k3 b3 q1 hl1 hq
    generalize Sh.mk0 s e wl p = S0 at I3
    generalize w1.heap.size = r at *
    go_wp2
    go_loopw [40] (fun iv wr => ∃ (i : Nat) (S : Sh), i ≤ len ∧ iv = .int .i64 i ∧ PI w.heap.size wr r q S S ∧ Below w.heap.size w wr) (fun iv _ => len - (intOf iv).toNat)
    case atStart => exact ⟨0, S0, Nat.zero_le _, rfl, I3, B3⟩
    case round =>
      obtain ⟨i, S, hi, rfl, I4, b4⟩ := hrel
      clear I3 B3
      by_cases hlt : i < len
      · obtain ⟨g, off, x, rfl, hg, hx, hc⟩ := hL.at hlt
        have c4 := hc _ b4
        obtain ⟨c41, c42⟩ := c4
        clear hx
        by_cases hst : 0 < x.2
        · have hd : decide (0 < x.2) = true := decide_eq_true hst
          obtain ⟨E, hE⟩ : ∃ E, S.setE (hM x.1) = E := ⟨_, rfl⟩
          have HE : Hid (S.setE (hM x.1) = E) := hE
          have hEE : (E != E) = false := by simp
          clear hst hE
          go_wp2
          refine wp_region_held_drew (S := (fun w' => w'.cell? ⟨g, off + i * 2, none⟩ = some (.int .i64 x.1) ∧ w'.cell? ⟨g, off + i * 2 + 1, none⟩ = some (.int .i64 x.2))) (by kernel_rfl) ⟨c41, c42⟩ (fun hHeld => ?_)
          refine wpAnyH_take (i := 0) (oi := ({ dst := some 49, op := Op.move (Operand.tmp 13), type := 24, pos := _, after := #[], guard := none } : Oper)) (v := ?_) rfl (by kernel_rfl) (by kernel_rfl) (by kernel_rfl) (fun _ _ _ h => h) (Or.inl ⟨by rfl, ?_⟩) hHeld ?_
          rotate_left
          · (intro w hS; go_simp; try with_reducible rfl)
          try simp only [Act.put, List.setIfInBounds_toArray, List.set_cons_zero, List.set_cons_succ]
          refine wpAnyH_take (i := 1) (oi := ({ dst := some 50, op := Op.move (Operand.tmp 4), type := 22, pos := _, after := #[], guard := none } : Oper)) (v := ?_) rfl (by kernel_rfl) (by kernel_rfl) (by kernel_rfl) (fun _ _ _ h => h) (Or.inl ⟨by rfl, ?_⟩) hHeld ?_
          rotate_left
          · (intro w hS; go_simp; try with_reducible rfl)
          try simp only [Act.put, List.setIfInBounds_toArray, List.set_cons_zero, List.set_cons_succ]
          refine wpAnyH_take (i := 2) (oi := ({ dst := some 51, op := Op.move (Operand.tmp 15), type := 3, pos := _, after := #[], guard := none } : Oper)) (v := ?_) rfl (by kernel_rfl) (by kernel_rfl) (by kernel_rfl) (fun _ _ _ h => h) (Or.inl ⟨by rfl, ?_⟩) hHeld ?_
          rotate_left
          · (intro w hS; go_simp; try with_reducible rfl)
          try simp only [Act.put, List.setIfInBounds_toArray, List.set_cons_zero, List.set_cons_succ]
          refine wpAnyH_take (i := 3) (oi := ({ dst := some 52, op := Op.indexAddr 22 (Operand.tmp 50) (Operand.tmp 51), type := 0, pos := _, after := #[{ on := 1, ground := Ground.data }, { on := 2, ground := Ground.data }], guard := none } : Oper)) (v := ?_) rfl (by kernel_rfl) (by kernel_rfl) (by kernel_rfl) (fun _ _ _ h => h) (Or.inl ⟨by rfl, ?_⟩) hHeld ?_
          rotate_left
          · (intro w hS; go_simp; try with_reducible rfl)
          try simp only [Act.put, List.setIfInBounds_toArray, List.set_cons_zero, List.set_cons_succ]
          refine wpAnyH_take (i := 4) (oi := ({ dst := some 53, op := Op.fieldAddr 29 (Operand.tmp 52) 0, type := 0, pos := _, after := #[{ on := 3, ground := Ground.data }], guard := none } : Oper)) (v := ?_) rfl (by kernel_rfl) (by kernel_rfl) (by kernel_rfl) (fun _ _ _ h => h) (Or.inl ⟨by rfl, ?_⟩) hHeld ?_
          rotate_left
          · (intro w hS; go_simp; try with_reducible rfl)
          try simp only [Act.put, List.setIfInBounds_toArray, List.set_cons_zero, List.set_cons_succ]
          refine wpAnyH_take (i := 5) (oi := ({ dst := some 54, op := Op.load 3 (Operand.tmp 53), type := 3, pos := _, after := #[{ on := 4, ground := Ground.data }], guard := none } : Oper)) (v := ?_) rfl (by kernel_rfl) (by kernel_rfl) (by kernel_rfl) (fun _ _ _ h => h) (Or.inl ⟨by rfl, ?_⟩) hHeld ?_
          rotate_left
          · (intro w hS; go_simp; try with_reducible rfl)
          try simp only [Act.put, List.setIfInBounds_toArray, List.set_cons_zero, List.set_cons_succ]
          refine wpAnyH_take (i := 6) (oi := ({ dst := some 55, op := Op.move (Operand.tmp 4), type := 22, pos := _, after := #[], guard := none } : Oper)) (v := ?_) rfl (by kernel_rfl) (by kernel_rfl) (by kernel_rfl) (fun _ _ _ h => h) (Or.inl ⟨by rfl, ?_⟩) hHeld ?_
          rotate_left
          · (intro w hS; go_simp; try with_reducible rfl)
          try simp only [Act.put, List.setIfInBounds_toArray, List.set_cons_zero, List.set_cons_succ]
          refine wpAnyH_take (i := 7) (oi := ({ dst := some 56, op := Op.move (Operand.tmp 15), type := 3, pos := _, after := #[], guard := none } : Oper)) (v := ?_) rfl (by kernel_rfl) (by kernel_rfl) (by kernel_rfl) (fun _ _ _ h => h) (Or.inl ⟨by rfl, ?_⟩) hHeld ?_
          rotate_left
          · (intro w hS; go_simp; try with_reducible rfl)
          try simp only [Act.put, List.setIfInBounds_toArray, List.set_cons_zero, List.set_cons_succ]
          refine wpAnyH_take (i := 8) (oi := ({ dst := some 57, op := Op.indexAddr 22 (Operand.tmp 55) (Operand.tmp 56), type := 0, pos := _, after := #[{ on := 6, ground := Ground.data }, { on := 7, ground := Ground.data }], guard := none } : Oper)) (v := ?_) rfl (by kernel_rfl) (by kernel_rfl) (by kernel_rfl) (fun _ _ _ h => h) (Or.inl ⟨by rfl, ?_⟩) hHeld ?_
          rotate_left
          · (intro w hS; go_simp; try with_reducible rfl)
          try simp only [Act.put, List.setIfInBounds_toArray, List.set_cons_zero, List.set_cons_succ]
          refine wpAnyH_take (i := 9) (oi := ({ dst := some 58, op := Op.fieldAddr 29 (Operand.tmp 57) 1, type := 0, pos := _, after := #[{ on := 8, ground := Ground.data }], guard := none } : Oper)) (v := ?_) rfl (by kernel_rfl) (by kernel_rfl) (by kernel_rfl) (fun _ _ _ h => h) (Or.inl ⟨by rfl, ?_⟩) hHeld ?_
          rotate_left
          · (intro w hS; go_simp; try with_reducible rfl)
          try simp only [Act.put, List.setIfInBounds_toArray, List.set_cons_zero, List.set_cons_succ]
          refine wpAnyH_take (i := 10) (oi := ({ dst := some 59, op := Op.load 3 (Operand.tmp 58), type := 3, pos := _, after := #[{ on := 9, ground := Ground.data }], guard := none } : Oper)) (v := ?_) rfl (by kernel_rfl) (by kernel_rfl) (by kernel_rfl) (fun _ _ _ h => h) (Or.inl ⟨by rfl, ?_⟩) hHeld ?_
          rotate_left
          · (intro w hS; go_simp; try with_reducible rfl)
          try simp only [Act.put, List.setIfInBounds_toArray, List.set_cons_zero, List.set_cons_succ]
          refine wpAnyH_take (i := 12) (oi := ({ dst := some 61, op := Op.move (Operand.tmp 14), type := 26, pos := _, after := #[], guard := none } : Oper)) (v := ?_) rfl (by kernel_rfl) (by kernel_rfl) (by kernel_rfl) (fun _ _ _ h => h) (Or.inl ⟨by rfl, ?_⟩) hHeld ?_
          rotate_left
          · (intro w hS; go_simp; try with_reducible rfl)
          try simp only [Act.put, List.setIfInBounds_toArray, List.set_cons_zero, List.set_cons_succ]
          refine wpAnyH_take (i := 13) (oi := ({ dst := some 62, op := Op.move (Operand.tmp 4), type := 22, pos := _, after := #[], guard := none } : Oper)) (v := ?_) rfl (by kernel_rfl) (by kernel_rfl) (by kernel_rfl) (fun _ _ _ h => h) (Or.inl ⟨by rfl, ?_⟩) hHeld ?_
          rotate_left
          · (intro w hS; go_simp; try with_reducible rfl)
          try simp only [Act.put, List.setIfInBounds_toArray, List.set_cons_zero, List.set_cons_succ]
          refine wpAnyH_take (i := 14) (oi := ({ dst := some 63, op := Op.move (Operand.tmp 15), type := 3, pos := _, after := #[], guard := none } : Oper)) (v := ?_) rfl (by kernel_rfl) (by kernel_rfl) (by kernel_rfl) (fun _ _ _ h => h) (Or.inl ⟨by rfl, ?_⟩) hHeld ?_
          rotate_left
          · (intro w hS; go_simp; try with_reducible rfl)
          try simp only [Act.put, List.setIfInBounds_toArray, List.set_cons_zero, List.set_cons_succ]
          refine wpAnyH_take (i := 15) (oi := ({ dst := some 64, op := Op.indexAddr 22 (Operand.tmp 62) (Operand.tmp 63), type := 0, pos := _, after := #[{ on := 13, ground := Ground.data }, { on := 14, ground := Ground.data }], guard := none } : Oper)) (v := ?_) rfl (by kernel_rfl) (by kernel_rfl) (by kernel_rfl) (fun _ _ _ h => h) (Or.inl ⟨by rfl, ?_⟩) hHeld ?_
          rotate_left
          · (intro w hS; go_simp; try with_reducible rfl)
          try simp only [Act.put, List.setIfInBounds_toArray, List.set_cons_zero, List.set_cons_succ]
          refine wpAnyH_take (i := 16) (oi := ({ dst := some 65, op := Op.fieldAddr 29 (Operand.tmp 64) 0, type := 0, pos := _, after := #[{ on := 15, ground := Ground.data }], guard := none } : Oper)) (v := ?_) rfl (by kernel_rfl) (by kernel_rfl) (by kernel_rfl) (fun _ _ _ h => h) (Or.inl ⟨by rfl, ?_⟩) hHeld ?_
          rotate_left
          · (intro w hS; go_simp; try with_reducible rfl)
          try simp only [Act.put, List.setIfInBounds_toArray, List.set_cons_zero, List.set_cons_succ]
          refine wpAnyH_take (i := 17) (oi := ({ dst := some 66, op := Op.load 3 (Operand.tmp 65), type := 3, pos := _, after := #[{ on := 16, ground := Ground.data }], guard := none } : Oper)) (v := ?_) rfl (by kernel_rfl) (by kernel_rfl) (by kernel_rfl) (fun _ _ _ h => h) (Or.inl ⟨by rfl, ?_⟩) hHeld ?_
          rotate_left
          · (intro w hS; go_simp; try with_reducible rfl)
          try simp only [Act.put, List.setIfInBounds_toArray, List.set_cons_zero, List.set_cons_succ]
          refine wpAnyH_take (i := 18) (oi := ({ dst := some 67, op := Op.move (Operand.tmp 4), type := 22, pos := _, after := #[], guard := none } : Oper)) (v := ?_) rfl (by kernel_rfl) (by kernel_rfl) (by kernel_rfl) (fun _ _ _ h => h) (Or.inl ⟨by rfl, ?_⟩) hHeld ?_
          rotate_left
          · (intro w hS; go_simp; try with_reducible rfl)
          try simp only [Act.put, List.setIfInBounds_toArray, List.set_cons_zero, List.set_cons_succ]
          refine wpAnyH_take (i := 19) (oi := ({ dst := some 68, op := Op.move (Operand.tmp 15), type := 3, pos := _, after := #[], guard := none } : Oper)) (v := ?_) rfl (by kernel_rfl) (by kernel_rfl) (by kernel_rfl) (fun _ _ _ h => h) (Or.inl ⟨by rfl, ?_⟩) hHeld ?_
          rotate_left
          · (intro w hS; go_simp; try with_reducible rfl)
          try simp only [Act.put, List.setIfInBounds_toArray, List.set_cons_zero, List.set_cons_succ]
          refine wpAnyH_take (i := 20) (oi := ({ dst := some 69, op := Op.indexAddr 22 (Operand.tmp 67) (Operand.tmp 68), type := 0, pos := _, after := #[{ on := 18, ground := Ground.data }, { on := 19, ground := Ground.data }], guard := none } : Oper)) (v := ?_) rfl (by kernel_rfl) (by kernel_rfl) (by kernel_rfl) (fun _ _ _ h => h) (Or.inl ⟨by rfl, ?_⟩) hHeld ?_
          rotate_left
          · (intro w hS; go_simp; try with_reducible rfl)
          try simp only [Act.put, List.setIfInBounds_toArray, List.set_cons_zero, List.set_cons_succ]
          refine wpAnyH_take (i := 21) (oi := ({ dst := some 70, op := Op.fieldAddr 29 (Operand.tmp 69) 1, type := 0, pos := _, after := #[{ on := 20, ground := Ground.data }], guard := none } : Oper)) (v := ?_) rfl (by kernel_rfl) (by kernel_rfl) (by kernel_rfl) (fun _ _ _ h => h) (Or.inl ⟨by rfl, ?_⟩) hHeld ?_
          rotate_left
          · (intro w hS; go_simp; try with_reducible rfl)
          try simp only [Act.put, List.setIfInBounds_toArray, List.set_cons_zero, List.set_cons_succ]
          refine wpAnyH_take (i := 22) (oi := ({ dst := some 71, op := Op.load 3 (Operand.tmp 70), type := 3, pos := _, after := #[{ on := 21, ground := Ground.data }], guard := none } : Oper)) (v := ?_) rfl (by kernel_rfl) (by kernel_rfl) (by kernel_rfl) (fun _ _ _ h => h) (Or.inl ⟨by rfl, ?_⟩) hHeld ?_
          rotate_left
          · (intro w hS; go_simp; try with_reducible rfl)
          try simp only [Act.put, List.setIfInBounds_toArray, List.set_cons_zero, List.set_cons_succ]
          refine wpAnyH_ready (rs := [11]) (by kernel_rfl) (by simp) ?_
          refine AllReadyH.cons (o := ({ dst := some 60, op := Op.call { callee := Callee.value (Operand.func 12), args := #[Operand.tmp 49, Operand.tmp 54, Operand.tmp 59], argTypes := #[24, 3, 3] }, type := 30, pos := _, after := #[{ on := 0, ground := Ground.data }, { on := 5, ground := Ground.data }, { on := 10, ground := Ground.data }], guard := none } : Oper)) rfl (fun K hK => ?_) AllReadyH.nil
          refine step_call (I4.drew.set x.1 x.2) (enters_of Try.func12 (by kernel_rfl) rfl) _ _ rfl rfl rfl ?_
          rintro y w5 ⟨rfl, I5, b5⟩
          rw [HE.out]
          have B5 := b4.drew.trans b5
          refine ⟨_, rfl, hK.out _ _ (hc _ B5) (fun hHeld => ?_)⟩
          clear hK K
          try simp only [Act.put, List.setIfInBounds_toArray, List.set_cons_zero, List.set_cons_succ]
          refine wpAnyH_ready (rs := [23]) (by kernel_rfl) (by simp) ?_
          refine AllReadyH.cons (o := ({ dst := some 72, op := Op.call { callee := Callee.value (Operand.func 13), args := #[Operand.tmp 61, Operand.tmp 66, Operand.tmp 71], argTypes := #[26, 3, 3] }, type := 3, pos := _, after := #[{ on := 12, ground := Ground.data }, { on := 17, ground := Ground.data }, { on := 22, ground := Ground.data }, { on := 11, ground := Ground.chain }], guard := none } : Oper)) rfl (fun K hK => ?_) AllReadyH.nil
          refine step_call (I5.rset x.1 x.2) (enters_of Try.func13 (by kernel_rfl) rfl) _ _ rfl rfl rfl ?_
          rintro y w6 ⟨rfl, I6, b6⟩
          rw [HE.out]
          have B6 := B5.trans b6
          refine ⟨_, rfl, hK.out _ _ (hc _ B6) (fun hHeld => ?_)⟩
          clear hK K
          try simp only [Act.put, List.setIfInBounds_toArray, List.set_cons_zero, List.set_cons_succ]
          refine wpAnyH_take (i := 24) (oi := ({ dst := some 73, op := Op.binOp BinOp.neq 3 (Operand.tmp 60) (Operand.tmp 72) 3, type := 4, pos := _, after := #[{ on := 11, ground := Ground.data }, { on := 23, ground := Ground.data }], guard := none } : Oper)) (v := ?_) rfl (by kernel_rfl) (by kernel_rfl) (by kernel_rfl) (fun _ _ _ h => h) (Or.inl ⟨by rfl, ?_⟩) hHeld ?_
          rotate_left
          · (intro w hS; go_simp; try with_reducible rfl)
          try simp only [Act.put, List.setIfInBounds_toArray, List.set_cons_zero, List.set_cons_succ]
          refine wpAnyH_done (by kernel_rfl) ?_ _
          skip
          generalize S.set (hM x.1) (hS x.2) = S1 at I6
          clear I4 I5 b4 b5 b6 B5 c41 c42 HE
          go_wp2_with fail
          refine (I6.come t).mono ?_
          rintro y w7 ⟨⟨a8, m8, c8, rfl⟩, I7, b7⟩
          have B7 := B6.trans b7
          obtain ⟨X, hX⟩ : ∃ X, stN S1.s S1.L (hM t) = X := ⟨_, rfl⟩
          have HX : Hid (stN S1.s S1.L (hM t) = X) := hX
          rw [hX]
          obtain ⟨a9, c9, k9⟩ := I7.slice
          obtain ⟨m, hm⟩ : ∃ m, S1.L.length = m := ⟨_, rfl⟩
          have HM : Hid (S1.L.length = m) := hm
          rw [hm] at k9
          have hmm : ((m : Int) != (m : Int)) = false := by simp
          have hXX : (X != X) = false := by simp
          clear hX hm I6 B6 b7
          go_wp2
          refine wp_region_held_drew (S := (fun w' => w'.cell? ⟨q, 7, none⟩ = some (.slice a9 m c9))) (by kernel_rfl) k9 (fun hHeld => ?_)
          refine wpAnyH_take (i := 0) (oi := ({ dst := some 95, op := Op.move (Operand.tmp 13), type := 24, pos := _, after := #[], guard := none } : Oper)) (v := ?_) rfl (by kernel_rfl) (by kernel_rfl) (by kernel_rfl) (fun _ _ _ h => h) (Or.inl ⟨by rfl, ?_⟩) hHeld ?_
          rotate_left
          · (intro w hS; go_simp; try with_reducible rfl)
          try simp only [Act.put, List.setIfInBounds_toArray, List.set_cons_zero, List.set_cons_succ]
          refine wpAnyH_take (i := 2) (oi := ({ dst := some 97, op := Op.move (Operand.tmp 14), type := 26, pos := _, after := #[], guard := none } : Oper)) (v := ?_) rfl (by kernel_rfl) (by kernel_rfl) (by kernel_rfl) (fun _ _ _ h => h) (Or.inl ⟨by rfl, ?_⟩) hHeld ?_
          rotate_left
          · (intro w hS; go_simp; try with_reducible rfl)
          try simp only [Act.put, List.setIfInBounds_toArray, List.set_cons_zero, List.set_cons_succ]
          refine wpAnyH_take (i := 3) (oi := ({ dst := some 98, op := Op.nilCheck (Operand.tmp 97), type := 0, pos := _, after := #[{ on := 2, ground := Ground.data }], guard := none } : Oper)) (v := ?_) rfl (by kernel_rfl) (by kernel_rfl) (by kernel_rfl) (fun _ _ _ h => h) (Or.inl ⟨by rfl, ?_⟩) hHeld ?_
          rotate_left
          · (intro w hS; go_simp; try with_reducible rfl)
          try simp only [Act.put, List.setIfInBounds_toArray, List.set_cons_zero, List.set_cons_succ]
          refine wpAnyH_take (i := 4) (oi := ({ dst := some 99, op := Op.fieldAddr 41 (Operand.tmp 98) 3, type := 0, pos := _, after := #[{ on := 3, ground := Ground.data }], guard := none } : Oper)) (v := ?_) rfl (by kernel_rfl) (by kernel_rfl) (by kernel_rfl) (fun _ _ _ h => h) (Or.inl ⟨by rfl, ?_⟩) hHeld ?_
          rotate_left
          · (intro w hS; go_simp; try with_reducible rfl)
          try simp only [Act.put, List.setIfInBounds_toArray, List.set_cons_zero, List.set_cons_succ]
          refine wpAnyH_take (i := 5) (oi := ({ dst := some 100, op := Op.load 34 (Operand.tmp 99), type := 34, pos := _, after := #[{ on := 4, ground := Ground.data }], guard := none } : Oper)) (v := ?_) rfl (by kernel_rfl) (by kernel_rfl) (by kernel_rfl) (fun _ _ _ h => h) (Or.inl ⟨by rfl, ?_⟩) hHeld ?_
          rotate_left
          · (intro w hS; go_simp; try with_reducible rfl)
          try simp only [Act.put, List.setIfInBounds_toArray, List.set_cons_zero, List.set_cons_succ]
          refine wpAnyH_take (i := 6) (oi := ({ dst := some 101, op := Op.call { callee := Callee.builtin Builtin.len, args := #[Operand.tmp 100], argTypes := #[34] }, type := 3, pos := _, after := #[{ on := 5, ground := Ground.data }], guard := none } : Oper)) (v := ?_) rfl (by kernel_rfl) (by kernel_rfl) (by kernel_rfl) (fun _ _ _ h => h) (Or.inl ⟨by rfl, ?_⟩) hHeld ?_
          rotate_left
          · (intro w hS; go_simp; try with_reducible rfl)
          try simp only [Act.put, List.setIfInBounds_toArray, List.set_cons_zero, List.set_cons_succ]
          refine wpAnyH_ready (rs := [1]) (by kernel_rfl) (by simp) ?_
          refine AllReadyH.cons (o := ({ dst := some 96, op := Op.call { callee := Callee.value (Operand.func 17), args := #[Operand.tmp 95], argTypes := #[24] }, type := 3, pos := _, after := #[{ on := 0, ground := Ground.data }], guard := none } : Oper)) rfl (fun K hK => ?_) AllReadyH.nil
          refine step_call (I7.drew.wait) (enters_of Try.func17 (by kernel_rfl) rfl) _ _ rfl rfl rfl ?_
          rintro y w8 ⟨rfl, e8⟩
          rw [e8, HM.out]
          clear e8
          refine ⟨_, rfl, hK.out _ _ k9 (fun hHeld => ?_)⟩
          clear hK K
          try simp only [Act.put, List.setIfInBounds_toArray, List.set_cons_zero, List.set_cons_succ]
          refine wpAnyH_take (i := 7) (oi := ({ dst := some 102, op := Op.binOp BinOp.neq 3 (Operand.tmp 96) (Operand.tmp 101) 3, type := 4, pos := _, after := #[{ on := 1, ground := Ground.data }, { on := 6, ground := Ground.data }], guard := none } : Oper)) (v := ?_) rfl (by kernel_rfl) (by kernel_rfl) (by kernel_rfl) (fun _ _ _ h => h) (Or.inl ⟨by rfl, ?_⟩) hHeld ?_
          rotate_left
          · (intro w hS; go_simp; try with_reducible rfl)
          try simp only [Act.put, List.setIfInBounds_toArray, List.set_cons_zero, List.set_cons_succ]
          refine wpAnyH_take (i := 8) (oi := ({ dst := some 103, op := Op.move (Operand.tmp 102), type := 4, pos := _, after := #[{ on := 7, ground := Ground.data }, { on := 1, ground := Ground.chain }], guard := none } : Oper)) (v := ?_) rfl (by kernel_rfl) (by kernel_rfl) (by kernel_rfl) (fun _ _ _ h => h) (Or.inl ⟨by rfl, ?_⟩) hHeld ?_
          rotate_left
          · (intro w hS; go_simp; try with_reducible rfl)
          try simp only [Act.put, List.setIfInBounds_toArray, List.set_cons_zero, List.set_cons_succ]
          refine wpAnyH_take (i := 9) (oi := ({ dst := some 104, op := Op.move (Operand.tmp 13), type := 24, pos := _, after := #[{ on := 8, ground := Ground.guard }], guard := some (8, false) } : Oper)) (v := ?_) rfl (by kernel_rfl) (by kernel_rfl) (by kernel_rfl) (fun _ _ _ h => h) (Or.inl ⟨by rfl, ?_⟩) hHeld ?_
          rotate_left
          · (intro w hS; go_simp; try with_reducible rfl)
          try simp only [Act.put, List.setIfInBounds_toArray, List.set_cons_zero, List.set_cons_succ]
          refine wpAnyH_take (i := 10) (oi := ({ dst := some 105, op := Op.move (Operand.tmp 5), type := 3, pos := _, after := #[{ on := 8, ground := Ground.guard }], guard := some (8, false) } : Oper)) (v := ?_) rfl (by kernel_rfl) (by kernel_rfl) (by kernel_rfl) (fun _ _ _ h => h) (Or.inl ⟨by rfl, ?_⟩) hHeld ?_
          rotate_left
          · (intro w hS; go_simp; try with_reducible rfl)
          try simp only [Act.put, List.setIfInBounds_toArray, List.set_cons_zero, List.set_cons_succ]
          refine wpAnyH_take (i := 12) (oi := ({ dst := some 107, op := Op.move (Operand.tmp 16), type := 3, pos := _, after := #[{ on := 8, ground := Ground.guard }], guard := some (8, false) } : Oper)) (v := ?_) rfl (by kernel_rfl) (by kernel_rfl) (by kernel_rfl) (fun _ _ _ h => h) (Or.inl ⟨by rfl, ?_⟩) hHeld ?_
          rotate_left
          · (intro w hS; go_simp; try with_reducible rfl)
          try simp only [Act.put, List.setIfInBounds_toArray, List.set_cons_zero, List.set_cons_succ]
          refine wpAnyH_ready (rs := [11]) (by kernel_rfl) (by simp) ?_
          refine AllReadyH.cons (o := ({ dst := some 106, op := Op.call { callee := Callee.value (Operand.func 18), args := #[Operand.tmp 104, Operand.tmp 105], argTypes := #[24, 3] }, type := 3, pos := _, after := #[{ on := 9, ground := Ground.data }, { on := 10, ground := Ground.data }, { on := 8, ground := Ground.chain }, { on := 8, ground := Ground.guard }], guard := some (8, false) } : Oper)) rfl (fun K hK => ?_) AllReadyH.nil
          refine step_call (I7.drew.step t) (enters_of Try.func18 (by kernel_rfl) rfl) _ _ rfl rfl rfl ?_
          rintro y w9 ⟨rfl, I9, b9, kk9⟩
          rw [HX.out]
          refine ⟨_, rfl, hK.out _ _ ((kk9 7).trans k9) (fun hHeld => ?_)⟩
          clear hK K
          try simp only [Act.put, List.setIfInBounds_toArray, List.set_cons_zero, List.set_cons_succ]
          refine wpAnyH_take (i := 13) (oi := ({ dst := some 108, op := Op.binOp BinOp.neq 3 (Operand.tmp 106) (Operand.tmp 107) 3, type := 4, pos := _, after := #[{ on := 11, ground := Ground.data }, { on := 12, ground := Ground.data }, { on := 8, ground := Ground.guard }], guard := some (8, false) } : Oper)) (v := ?_) rfl (by kernel_rfl) (by kernel_rfl) (by kernel_rfl) (fun _ _ _ h => h) (Or.inl ⟨by rfl, ?_⟩) hHeld ?_
          rotate_left
          · (intro w hS; go_simp; try with_reducible rfl)
          try simp only [Act.put, List.setIfInBounds_toArray, List.set_cons_zero, List.set_cons_succ]
          refine wpAnyH_take (i := 14) (oi := ({ dst := some 109, op := Op.pick (Operand.tmp 103) (Operand.const (Value.bool true)) (Operand.tmp 108), type := 4, pos := _, after := #[{ on := 8, ground := Ground.data }, { on := 13, ground := Ground.data }], guard := none } : Oper)) (v := ?_) rfl (by kernel_rfl) (by kernel_rfl) (by kernel_rfl) (fun _ _ _ h => h) (Or.inl ⟨by rfl, ?_⟩) hHeld ?_
          rotate_left
          · (intro w hS; go_simp; try with_reducible rfl)
          try simp only [Act.put, List.setIfInBounds_toArray, List.set_cons_zero, List.set_cons_succ]
          refine wpAnyH_done (by kernel_rfl) ?_ _
          clear k9 kk9
          go_wp2
          go_roundw
          case rel => exact ⟨i + 1, S1, by omega, by go_num, I9, B7.drew.trans b9⟩
          case measure => simp [intOf]; omega
        · have hd : decide (0 < x.2) = false := decide_eq_false hst
          obtain ⟨f, hf⟩ : ∃ f, S.fit (hM x.1) = f := ⟨_, rfl⟩
          have HF : Hid (S.fit (hM x.1) = f) := hf
          have hff : (f != f) = false := by simp
          clear hst hf
          go_wp2
          refine wp_region_held_drew (S := (fun w' => w'.cell? ⟨g, off + i * 2, none⟩ = some (.int .i64 x.1) ∧ w'.cell? ⟨g, off + i * 2 + 1, none⟩ = some (.int .i64 x.2))) (by kernel_rfl) ⟨c41, c42⟩ (fun hHeld => ?_)
          refine wpAnyH_take (i := 0) (oi := ({ dst := some 74, op := Op.move (Operand.tmp 13), type := 24, pos := _, after := #[], guard := none } : Oper)) (v := ?_) rfl (by kernel_rfl) (by kernel_rfl) (by kernel_rfl) (fun _ _ _ h => h) (Or.inl ⟨by rfl, ?_⟩) hHeld ?_
          rotate_left
          · (intro w hS; go_simp; try with_reducible rfl)
          try simp only [Act.put, List.setIfInBounds_toArray, List.set_cons_zero, List.set_cons_succ]
          refine wpAnyH_take (i := 1) (oi := ({ dst := some 75, op := Op.move (Operand.tmp 4), type := 22, pos := _, after := #[], guard := none } : Oper)) (v := ?_) rfl (by kernel_rfl) (by kernel_rfl) (by kernel_rfl) (fun _ _ _ h => h) (Or.inl ⟨by rfl, ?_⟩) hHeld ?_
          rotate_left
          · (intro w hS; go_simp; try with_reducible rfl)
          try simp only [Act.put, List.setIfInBounds_toArray, List.set_cons_zero, List.set_cons_succ]
          refine wpAnyH_take (i := 2) (oi := ({ dst := some 76, op := Op.move (Operand.tmp 15), type := 3, pos := _, after := #[], guard := none } : Oper)) (v := ?_) rfl (by kernel_rfl) (by kernel_rfl) (by kernel_rfl) (fun _ _ _ h => h) (Or.inl ⟨by rfl, ?_⟩) hHeld ?_
          rotate_left
          · (intro w hS; go_simp; try with_reducible rfl)
          try simp only [Act.put, List.setIfInBounds_toArray, List.set_cons_zero, List.set_cons_succ]
          refine wpAnyH_take (i := 3) (oi := ({ dst := some 77, op := Op.indexAddr 22 (Operand.tmp 75) (Operand.tmp 76), type := 0, pos := _, after := #[{ on := 1, ground := Ground.data }, { on := 2, ground := Ground.data }], guard := none } : Oper)) (v := ?_) rfl (by kernel_rfl) (by kernel_rfl) (by kernel_rfl) (fun _ _ _ h => h) (Or.inl ⟨by rfl, ?_⟩) hHeld ?_
          rotate_left
          · (intro w hS; go_simp; try with_reducible rfl)
          try simp only [Act.put, List.setIfInBounds_toArray, List.set_cons_zero, List.set_cons_succ]
          refine wpAnyH_take (i := 4) (oi := ({ dst := some 78, op := Op.fieldAddr 29 (Operand.tmp 77) 0, type := 0, pos := _, after := #[{ on := 3, ground := Ground.data }], guard := none } : Oper)) (v := ?_) rfl (by kernel_rfl) (by kernel_rfl) (by kernel_rfl) (fun _ _ _ h => h) (Or.inl ⟨by rfl, ?_⟩) hHeld ?_
          rotate_left
          · (intro w hS; go_simp; try with_reducible rfl)
          try simp only [Act.put, List.setIfInBounds_toArray, List.set_cons_zero, List.set_cons_succ]
          refine wpAnyH_take (i := 5) (oi := ({ dst := some 79, op := Op.load 3 (Operand.tmp 78), type := 3, pos := _, after := #[{ on := 4, ground := Ground.data }], guard := none } : Oper)) (v := ?_) rfl (by kernel_rfl) (by kernel_rfl) (by kernel_rfl) (fun _ _ _ h => h) (Or.inl ⟨by rfl, ?_⟩) hHeld ?_
          rotate_left
          · (intro w hS; go_simp; try with_reducible rfl)
          try simp only [Act.put, List.setIfInBounds_toArray, List.set_cons_zero, List.set_cons_succ]
          refine wpAnyH_take (i := 7) (oi := ({ dst := some 81, op := Op.move (Operand.tmp 14), type := 26, pos := _, after := #[], guard := none } : Oper)) (v := ?_) rfl (by kernel_rfl) (by kernel_rfl) (by kernel_rfl) (fun _ _ _ h => h) (Or.inl ⟨by rfl, ?_⟩) hHeld ?_
          rotate_left
          · (intro w hS; go_simp; try with_reducible rfl)
          try simp only [Act.put, List.setIfInBounds_toArray, List.set_cons_zero, List.set_cons_succ]
          refine wpAnyH_take (i := 8) (oi := ({ dst := some 82, op := Op.move (Operand.tmp 4), type := 22, pos := _, after := #[], guard := none } : Oper)) (v := ?_) rfl (by kernel_rfl) (by kernel_rfl) (by kernel_rfl) (fun _ _ _ h => h) (Or.inl ⟨by rfl, ?_⟩) hHeld ?_
          rotate_left
          · (intro w hS; go_simp; try with_reducible rfl)
          try simp only [Act.put, List.setIfInBounds_toArray, List.set_cons_zero, List.set_cons_succ]
          refine wpAnyH_take (i := 9) (oi := ({ dst := some 83, op := Op.move (Operand.tmp 15), type := 3, pos := _, after := #[], guard := none } : Oper)) (v := ?_) rfl (by kernel_rfl) (by kernel_rfl) (by kernel_rfl) (fun _ _ _ h => h) (Or.inl ⟨by rfl, ?_⟩) hHeld ?_
          rotate_left
          · (intro w hS; go_simp; try with_reducible rfl)
          try simp only [Act.put, List.setIfInBounds_toArray, List.set_cons_zero, List.set_cons_succ]
          refine wpAnyH_take (i := 10) (oi := ({ dst := some 84, op := Op.indexAddr 22 (Operand.tmp 82) (Operand.tmp 83), type := 0, pos := _, after := #[{ on := 8, ground := Ground.data }, { on := 9, ground := Ground.data }], guard := none } : Oper)) (v := ?_) rfl (by kernel_rfl) (by kernel_rfl) (by kernel_rfl) (fun _ _ _ h => h) (Or.inl ⟨by rfl, ?_⟩) hHeld ?_
          rotate_left
          · (intro w hS; go_simp; try with_reducible rfl)
          try simp only [Act.put, List.setIfInBounds_toArray, List.set_cons_zero, List.set_cons_succ]
          refine wpAnyH_take (i := 11) (oi := ({ dst := some 85, op := Op.fieldAddr 29 (Operand.tmp 84) 0, type := 0, pos := _, after := #[{ on := 10, ground := Ground.data }], guard := none } : Oper)) (v := ?_) rfl (by kernel_rfl) (by kernel_rfl) (by kernel_rfl) (fun _ _ _ h => h) (Or.inl ⟨by rfl, ?_⟩) hHeld ?_
          rotate_left
          · (intro w hS; go_simp; try with_reducible rfl)
          try simp only [Act.put, List.setIfInBounds_toArray, List.set_cons_zero, List.set_cons_succ]
          refine wpAnyH_take (i := 12) (oi := ({ dst := some 86, op := Op.load 3 (Operand.tmp 85), type := 3, pos := _, after := #[{ on := 11, ground := Ground.data }], guard := none } : Oper)) (v := ?_) rfl (by kernel_rfl) (by kernel_rfl) (by kernel_rfl) (fun _ _ _ h => h) (Or.inl ⟨by rfl, ?_⟩) hHeld ?_
          rotate_left
          · (intro w hS; go_simp; try with_reducible rfl)
          try simp only [Act.put, List.setIfInBounds_toArray, List.set_cons_zero, List.set_cons_succ]
          refine wpAnyH_ready (rs := [6]) (by kernel_rfl) (by simp) ?_
          refine AllReadyH.cons (o := ({ dst := some 80, op := Op.call { callee := Callee.value (Operand.func 14), args := #[Operand.tmp 74, Operand.tmp 79], argTypes := #[24, 3] }, type := 4, pos := _, after := #[{ on := 0, ground := Ground.data }, { on := 5, ground := Ground.data }], guard := none } : Oper)) rfl (fun K hK => ?_) AllReadyH.nil
          refine step_call (I4.drew.take x.1) (enters_of Try.func14 (by kernel_rfl) rfl) _ _ rfl rfl rfl ?_
          rintro y w5 ⟨rfl, I5, b5⟩
          rw [HF.out]
          have B5 := b4.drew.trans b5
          refine ⟨_, rfl, hK.out _ _ (hc _ B5) (fun hHeld => ?_)⟩
          clear hK K
          try simp only [Act.put, List.setIfInBounds_toArray, List.set_cons_zero, List.set_cons_succ]
          refine wpAnyH_ready (rs := [13]) (by kernel_rfl) (by simp) ?_
          refine AllReadyH.cons (o := ({ dst := some 87, op := Op.call { callee := Callee.value (Operand.func 15), args := #[Operand.tmp 81, Operand.tmp 86], argTypes := #[26, 3] }, type := 4, pos := _, after := #[{ on := 7, ground := Ground.data }, { on := 12, ground := Ground.data }, { on := 6, ground := Ground.chain }], guard := none } : Oper)) rfl (fun K hK => ?_) AllReadyH.nil
          refine step_call (I5.rtake x.1) (enters_of Try.func15 (by kernel_rfl) rfl) _ _ rfl rfl rfl ?_
          rintro y w6 ⟨rfl, I6, b6⟩
          rw [HF.out]
          have B6 := B5.trans b6
          refine ⟨_, rfl, hK.out _ _ (hc _ B6) (fun hHeld => ?_)⟩
          clear hK K
          try simp only [Act.put, List.setIfInBounds_toArray, List.set_cons_zero, List.set_cons_succ]
          refine wpAnyH_take (i := 14) (oi := ({ dst := some 88, op := Op.binOp BinOp.neq 4 (Operand.tmp 80) (Operand.tmp 87) 4, type := 4, pos := _, after := #[{ on := 6, ground := Ground.data }, { on := 13, ground := Ground.data }], guard := none } : Oper)) (v := ?_) rfl (by kernel_rfl) (by kernel_rfl) (by kernel_rfl) (fun _ _ _ h => h) (Or.inl ⟨by rfl, ?_⟩) hHeld ?_
          rotate_left
          · (intro w hS; go_simp; try with_reducible rfl)
          try simp only [Act.put, List.setIfInBounds_toArray, List.set_cons_zero, List.set_cons_succ]
          refine wpAnyH_done (by kernel_rfl) ?_ _
          skip
          generalize S.take (hM x.1) = S1 at I6
          clear I4 I5 b4 b5 b6 B5 c41 c42 HF
          go_wp2_with fail
          refine (I6.come t).mono ?_
          rintro y w7 ⟨⟨a8, m8, c8, rfl⟩, I7, b7⟩
          have B7 := B6.trans b7
          obtain ⟨X, hX⟩ : ∃ X, stN S1.s S1.L (hM t) = X := ⟨_, rfl⟩
          have HX : Hid (stN S1.s S1.L (hM t) = X) := hX
          rw [hX]
          obtain ⟨a9, c9, k9⟩ := I7.slice
          obtain ⟨m, hm⟩ : ∃ m, S1.L.length = m := ⟨_, rfl⟩
          have HM : Hid (S1.L.length = m) := hm
          rw [hm] at k9
          have hmm : ((m : Int) != (m : Int)) = false := by simp
          have hXX : (X != X) = false := by simp
          clear hX hm I6 B6 b7
          go_wp2
          refine wp_region_held_drew (S := (fun w' => w'.cell? ⟨q, 7, none⟩ = some (.slice a9 m c9))) (by kernel_rfl) k9 (fun hHeld => ?_)
          refine wpAnyH_take (i := 0) (oi := ({ dst := some 95, op := Op.move (Operand.tmp 13), type := 24, pos := _, after := #[], guard := none } : Oper)) (v := ?_) rfl (by kernel_rfl) (by kernel_rfl) (by kernel_rfl) (fun _ _ _ h => h) (Or.inl ⟨by rfl, ?_⟩) hHeld ?_
          rotate_left
          · (intro w hS; go_simp; try with_reducible rfl)
          try simp only [Act.put, List.setIfInBounds_toArray, List.set_cons_zero, List.set_cons_succ]
          refine wpAnyH_take (i := 2) (oi := ({ dst := some 97, op := Op.move (Operand.tmp 14), type := 26, pos := _, after := #[], guard := none } : Oper)) (v := ?_) rfl (by kernel_rfl) (by kernel_rfl) (by kernel_rfl) (fun _ _ _ h => h) (Or.inl ⟨by rfl, ?_⟩) hHeld ?_
          rotate_left
          · (intro w hS; go_simp; try with_reducible rfl)
          try simp only [Act.put, List.setIfInBounds_toArray, List.set_cons_zero, List.set_cons_succ]
          refine wpAnyH_take (i := 3) (oi := ({ dst := some 98, op := Op.nilCheck (Operand.tmp 97), type := 0, pos := _, after := #[{ on := 2, ground := Ground.data }], guard := none } : Oper)) (v := ?_) rfl (by kernel_rfl) (by kernel_rfl) (by kernel_rfl) (fun _ _ _ h => h) (Or.inl ⟨by rfl, ?_⟩) hHeld ?_
          rotate_left
          · (intro w hS; go_simp; try with_reducible rfl)
          try simp only [Act.put, List.setIfInBounds_toArray, List.set_cons_zero, List.set_cons_succ]
          refine wpAnyH_take (i := 4) (oi := ({ dst := some 99, op := Op.fieldAddr 41 (Operand.tmp 98) 3, type := 0, pos := _, after := #[{ on := 3, ground := Ground.data }], guard := none } : Oper)) (v := ?_) rfl (by kernel_rfl) (by kernel_rfl) (by kernel_rfl) (fun _ _ _ h => h) (Or.inl ⟨by rfl, ?_⟩) hHeld ?_
          rotate_left
          · (intro w hS; go_simp; try with_reducible rfl)
          try simp only [Act.put, List.setIfInBounds_toArray, List.set_cons_zero, List.set_cons_succ]
          refine wpAnyH_take (i := 5) (oi := ({ dst := some 100, op := Op.load 34 (Operand.tmp 99), type := 34, pos := _, after := #[{ on := 4, ground := Ground.data }], guard := none } : Oper)) (v := ?_) rfl (by kernel_rfl) (by kernel_rfl) (by kernel_rfl) (fun _ _ _ h => h) (Or.inl ⟨by rfl, ?_⟩) hHeld ?_
          rotate_left
          · (intro w hS; go_simp; try with_reducible rfl)
          try simp only [Act.put, List.setIfInBounds_toArray, List.set_cons_zero, List.set_cons_succ]
          refine wpAnyH_take (i := 6) (oi := ({ dst := some 101, op := Op.call { callee := Callee.builtin Builtin.len, args := #[Operand.tmp 100], argTypes := #[34] }, type := 3, pos := _, after := #[{ on := 5, ground := Ground.data }], guard := none } : Oper)) (v := ?_) rfl (by kernel_rfl) (by kernel_rfl) (by kernel_rfl) (fun _ _ _ h => h) (Or.inl ⟨by rfl, ?_⟩) hHeld ?_
          rotate_left
          · (intro w hS; go_simp; try with_reducible rfl)
          try simp only [Act.put, List.setIfInBounds_toArray, List.set_cons_zero, List.set_cons_succ]
          refine wpAnyH_ready (rs := [1]) (by kernel_rfl) (by simp) ?_
          refine AllReadyH.cons (o := ({ dst := some 96, op := Op.call { callee := Callee.value (Operand.func 17), args := #[Operand.tmp 95], argTypes := #[24] }, type := 3, pos := _, after := #[{ on := 0, ground := Ground.data }], guard := none } : Oper)) rfl (fun K hK => ?_) AllReadyH.nil
          refine step_call (I7.drew.wait) (enters_of Try.func17 (by kernel_rfl) rfl) _ _ rfl rfl rfl ?_
          rintro y w8 ⟨rfl, e8⟩
          rw [e8, HM.out]
          clear e8
          refine ⟨_, rfl, hK.out _ _ k9 (fun hHeld => ?_)⟩
          clear hK K
          try simp only [Act.put, List.setIfInBounds_toArray, List.set_cons_zero, List.set_cons_succ]
          refine wpAnyH_take (i := 7) (oi := ({ dst := some 102, op := Op.binOp BinOp.neq 3 (Operand.tmp 96) (Operand.tmp 101) 3, type := 4, pos := _, after := #[{ on := 1, ground := Ground.data }, { on := 6, ground := Ground.data }], guard := none } : Oper)) (v := ?_) rfl (by kernel_rfl) (by kernel_rfl) (by kernel_rfl) (fun _ _ _ h => h) (Or.inl ⟨by rfl, ?_⟩) hHeld ?_
          rotate_left
          · (intro w hS; go_simp; try with_reducible rfl)
          try simp only [Act.put, List.setIfInBounds_toArray, List.set_cons_zero, List.set_cons_succ]
          refine wpAnyH_take (i := 8) (oi := ({ dst := some 103, op := Op.move (Operand.tmp 102), type := 4, pos := _, after := #[{ on := 7, ground := Ground.data }, { on := 1, ground := Ground.chain }], guard := none } : Oper)) (v := ?_) rfl (by kernel_rfl) (by kernel_rfl) (by kernel_rfl) (fun _ _ _ h => h) (Or.inl ⟨by rfl, ?_⟩) hHeld ?_
          rotate_left
          · (intro w hS; go_simp; try with_reducible rfl)
          try simp only [Act.put, List.setIfInBounds_toArray, List.set_cons_zero, List.set_cons_succ]
          refine wpAnyH_take (i := 9) (oi := ({ dst := some 104, op := Op.move (Operand.tmp 13), type := 24, pos := _, after := #[{ on := 8, ground := Ground.guard }], guard := some (8, false) } : Oper)) (v := ?_) rfl (by kernel_rfl) (by kernel_rfl) (by kernel_rfl) (fun _ _ _ h => h) (Or.inl ⟨by rfl, ?_⟩) hHeld ?_
          rotate_left
          · (intro w hS; go_simp; try with_reducible rfl)
          try simp only [Act.put, List.setIfInBounds_toArray, List.set_cons_zero, List.set_cons_succ]
          refine wpAnyH_take (i := 10) (oi := ({ dst := some 105, op := Op.move (Operand.tmp 5), type := 3, pos := _, after := #[{ on := 8, ground := Ground.guard }], guard := some (8, false) } : Oper)) (v := ?_) rfl (by kernel_rfl) (by kernel_rfl) (by kernel_rfl) (fun _ _ _ h => h) (Or.inl ⟨by rfl, ?_⟩) hHeld ?_
          rotate_left
          · (intro w hS; go_simp; try with_reducible rfl)
          try simp only [Act.put, List.setIfInBounds_toArray, List.set_cons_zero, List.set_cons_succ]
          refine wpAnyH_take (i := 12) (oi := ({ dst := some 107, op := Op.move (Operand.tmp 16), type := 3, pos := _, after := #[{ on := 8, ground := Ground.guard }], guard := some (8, false) } : Oper)) (v := ?_) rfl (by kernel_rfl) (by kernel_rfl) (by kernel_rfl) (fun _ _ _ h => h) (Or.inl ⟨by rfl, ?_⟩) hHeld ?_
          rotate_left
          · (intro w hS; go_simp; try with_reducible rfl)
          try simp only [Act.put, List.setIfInBounds_toArray, List.set_cons_zero, List.set_cons_succ]
          refine wpAnyH_ready (rs := [11]) (by kernel_rfl) (by simp) ?_
          refine AllReadyH.cons (o := ({ dst := some 106, op := Op.call { callee := Callee.value (Operand.func 18), args := #[Operand.tmp 104, Operand.tmp 105], argTypes := #[24, 3] }, type := 3, pos := _, after := #[{ on := 9, ground := Ground.data }, { on := 10, ground := Ground.data }, { on := 8, ground := Ground.chain }, { on := 8, ground := Ground.guard }], guard := some (8, false) } : Oper)) rfl (fun K hK => ?_) AllReadyH.nil
          refine step_call (I7.drew.step t) (enters_of Try.func18 (by kernel_rfl) rfl) _ _ rfl rfl rfl ?_
          rintro y w9 ⟨rfl, I9, b9, kk9⟩
          rw [HX.out]
          refine ⟨_, rfl, hK.out _ _ ((kk9 7).trans k9) (fun hHeld => ?_)⟩
          clear hK K
          try simp only [Act.put, List.setIfInBounds_toArray, List.set_cons_zero, List.set_cons_succ]
          refine wpAnyH_take (i := 13) (oi := ({ dst := some 108, op := Op.binOp BinOp.neq 3 (Operand.tmp 106) (Operand.tmp 107) 3, type := 4, pos := _, after := #[{ on := 11, ground := Ground.data }, { on := 12, ground := Ground.data }, { on := 8, ground := Ground.guard }], guard := some (8, false) } : Oper)) (v := ?_) rfl (by kernel_rfl) (by kernel_rfl) (by kernel_rfl) (fun _ _ _ h => h) (Or.inl ⟨by rfl, ?_⟩) hHeld ?_
          rotate_left
          · (intro w hS; go_simp; try with_reducible rfl)
          try simp only [Act.put, List.setIfInBounds_toArray, List.set_cons_zero, List.set_cons_succ]
          refine wpAnyH_take (i := 14) (oi := ({ dst := some 109, op := Op.pick (Operand.tmp 103) (Operand.const (Value.bool true)) (Operand.tmp 108), type := 4, pos := _, after := #[{ on := 8, ground := Ground.data }, { on := 13, ground := Ground.data }], guard := none } : Oper)) (v := ?_) rfl (by kernel_rfl) (by kernel_rfl) (by kernel_rfl) (fun _ _ _ h => h) (Or.inl ⟨by rfl, ?_⟩) hHeld ?_
          rotate_left
          · (intro w hS; go_simp; try with_reducible rfl)
          try simp only [Act.put, List.setIfInBounds_toArray, List.set_cons_zero, List.set_cons_succ]
          refine wpAnyH_done (by kernel_rfl) ?_ _
          clear k9 kk9
          go_wp2
          go_roundw
          case rel => exact ⟨i + 1, S1, by omega, by go_num, I9, B7.drew.trans b9⟩
          case measure => simp [intOf]; omega
      · obtain rfl : i = len := by omega
        obtain ⟨a7, c7, k7⟩ := I4.slice
        obtain ⟨m, hm⟩ : ∃ m, S.L.length = m := ⟨_, rfl⟩
        have HM : Hid (S.L.length = m) := hm
        rw [hm] at k7
        clear hm
        go_wp2
        refine wp_region_held_drew (S := (fun w' => w'.cell? ⟨q, 7, none⟩ = some (.slice a7 m c7))) (by kernel_rfl) k7 (fun hHeld => ?_)
        refine wpAnyH_take (i := 0) (oi := ({ dst := some 111, op := Op.move (Operand.tmp 13), type := 24, pos := _, after := #[], guard := none } : Oper)) (v := ?_) rfl (by kernel_rfl) (by kernel_rfl) (by kernel_rfl) (fun _ _ _ h => h) (Or.inl ⟨by rfl, ?_⟩) hHeld ?_
        rotate_left
        · (intro w hS; go_simp; try with_reducible rfl)
        try simp only [Act.put, List.setIfInBounds_toArray, List.set_cons_zero, List.set_cons_succ]
        refine wpAnyH_take (i := 2) (oi := ({ dst := some 113, op := Op.move (Operand.tmp 14), type := 26, pos := _, after := #[], guard := none } : Oper)) (v := ?_) rfl (by kernel_rfl) (by kernel_rfl) (by kernel_rfl) (fun _ _ _ h => h) (Or.inl ⟨by rfl, ?_⟩) hHeld ?_
        rotate_left
        · (intro w hS; go_simp; try with_reducible rfl)
        try simp only [Act.put, List.setIfInBounds_toArray, List.set_cons_zero, List.set_cons_succ]
        refine wpAnyH_take (i := 3) (oi := ({ dst := some 114, op := Op.nilCheck (Operand.tmp 113), type := 0, pos := _, after := #[{ on := 2, ground := Ground.data }], guard := none } : Oper)) (v := ?_) rfl (by kernel_rfl) (by kernel_rfl) (by kernel_rfl) (fun _ _ _ h => h) (Or.inl ⟨by rfl, ?_⟩) hHeld ?_
        rotate_left
        · (intro w hS; go_simp; try with_reducible rfl)
        try simp only [Act.put, List.setIfInBounds_toArray, List.set_cons_zero, List.set_cons_succ]
        refine wpAnyH_take (i := 4) (oi := ({ dst := some 115, op := Op.fieldAddr 41 (Operand.tmp 114) 3, type := 0, pos := _, after := #[{ on := 3, ground := Ground.data }], guard := none } : Oper)) (v := ?_) rfl (by kernel_rfl) (by kernel_rfl) (by kernel_rfl) (fun _ _ _ h => h) (Or.inl ⟨by rfl, ?_⟩) hHeld ?_
        rotate_left
        · (intro w hS; go_simp; try with_reducible rfl)
        try simp only [Act.put, List.setIfInBounds_toArray, List.set_cons_zero, List.set_cons_succ]
        refine wpAnyH_take (i := 5) (oi := ({ dst := some 116, op := Op.load 34 (Operand.tmp 115), type := 34, pos := _, after := #[{ on := 4, ground := Ground.data }], guard := none } : Oper)) (v := ?_) rfl (by kernel_rfl) (by kernel_rfl) (by kernel_rfl) (fun _ _ _ h => h) (Or.inl ⟨by rfl, ?_⟩) hHeld ?_
        rotate_left
        · (intro w hS; go_simp; try with_reducible rfl)
        try simp only [Act.put, List.setIfInBounds_toArray, List.set_cons_zero, List.set_cons_succ]
        refine wpAnyH_take (i := 6) (oi := ({ dst := some 117, op := Op.call { callee := Callee.builtin Builtin.len, args := #[Operand.tmp 116], argTypes := #[34] }, type := 3, pos := _, after := #[{ on := 5, ground := Ground.data }], guard := none } : Oper)) (v := ?_) rfl (by kernel_rfl) (by kernel_rfl) (by kernel_rfl) (fun _ _ _ h => h) (Or.inl ⟨by rfl, ?_⟩) hHeld ?_
        rotate_left
        · (intro w hS; go_simp; try with_reducible rfl)
        try simp only [Act.put, List.setIfInBounds_toArray, List.set_cons_zero, List.set_cons_succ]
        refine wpAnyH_ready (rs := [1]) (by kernel_rfl) (by simp) ?_
        refine AllReadyH.cons (o := ({ dst := some 112, op := Op.call { callee := Callee.value (Operand.func 17), args := #[Operand.tmp 111], argTypes := #[24] }, type := 3, pos := _, after := #[{ on := 0, ground := Ground.data }], guard := none } : Oper)) rfl (fun K hK => ?_) AllReadyH.nil
        refine step_call (I4.drew.wait) (enters_of Try.func17 (by kernel_rfl) rfl) _ _ rfl rfl rfl ?_
        rintro y w5 ⟨rfl, e5⟩
        rw [e5, HM.out]
        clear e5
        refine ⟨_, rfl, hK.out _ _ k7 (fun hHeld => ?_)⟩
        clear hK K
        try simp only [Act.put, List.setIfInBounds_toArray, List.set_cons_zero, List.set_cons_succ]
        refine wpAnyH_take (i := 7) (oi := ({ dst := some 118, op := Op.binOp BinOp.eql 3 (Operand.tmp 112) (Operand.tmp 117) 3, type := 4, pos := _, after := #[{ on := 1, ground := Ground.data }, { on := 6, ground := Ground.data }], guard := none } : Oper)) (v := ?_) rfl (by kernel_rfl) (by kernel_rfl) (by kernel_rfl) (fun _ _ _ h => h) (Or.inl ⟨by rfl, ?_⟩) hHeld ?_
        rotate_left
        · (intro w hS; go_simp; try with_reducible rfl)
        try simp only [Act.put, List.setIfInBounds_toArray, List.set_cons_zero, List.set_cons_succ]
        refine wpAnyH_take (i := 8) (oi := ({ dst := some 12, op := Op.assign (Operand.tmp 118), type := 4, pos := _, after := #[{ on := 7, ground := Ground.data }, { on := 1, ground := Ground.chain }, { on := 0, ground := Ground.phase }, { on := 1, ground := Ground.phase }, { on := 2, ground := Ground.phase }, { on := 3, ground := Ground.phase }, { on := 4, ground := Ground.phase }, { on := 5, ground := Ground.phase }, { on := 6, ground := Ground.phase }, { on := 7, ground := Ground.phase }], guard := none } : Oper)) (v := ?_) rfl (by kernel_rfl) (by kernel_rfl) (by kernel_rfl) (fun _ _ _ h => h) (Or.inl ⟨by rfl, ?_⟩) hHeld ?_
        rotate_left
        · (intro w hS; go_simp; try with_reducible rfl)
        try simp only [Act.put, List.setIfInBounds_toArray, List.set_cons_zero, List.set_cons_succ]
        refine wpAnyH_done (by kernel_rfl) ?_ _
        skip
        go_wp2
        go_ret
        exact ⟨sret_bool (by simp), b4.drew⟩
end Go.Proofs.Ytcenipihbmifpaa
