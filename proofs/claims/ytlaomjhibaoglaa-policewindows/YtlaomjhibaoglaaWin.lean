/- Proved here: the law's own within answers true of times that keep to a step, and how two slices of a call's own go on side by side. Conditions: as each theorem states them. -/
import Derived.Test.YtlaomjhibaoglaaGaps
namespace Go.Proofs.Ytlaomjhibaoglaa
set_option linter.unusedSimpArgs false
set_option linter.unusedVariables false
open Go.RowKit Go.Shelf

/-- What is so of the times of cells that were taken, and the time from which on one comes in time: each cell raises that by a step at least. -/
structure Win (s e T : Int) (L : List Int) : Prop where
  up : ∀ (i : Nat) (x : Int), L[i]? = some x → x + ((L.length : Int) - (i : Int)) * s ≤ T
  win : ∀ (i k : Nat) (x y : Int), i ≤ k → L[i]? = some x → L[k]? = some y → ((k : Int) - (i : Int)) * s ≤ y - x + e
theorem win_nil (s e T : Int) : Win s e T [] := ⟨fun i x h => (by cases h), fun i k x y _ h _ => (by cases h)⟩
theorem Win.take {s e T : Int} {L : List Int} (h : Win s e T L) {t : Int} (he : 0 ≤ e) (hf : T - e ≤ t) : Win s e (max T t + s) (L ++ [t]) := by
  have key : ∀ i x, (L ++ [t])[i]? = some x → (L[i]? = some x ∧ i < L.length) ∨ (i = L.length ∧ x = t) := by
    intro i x hx
    rcases Nat.lt_trichotomy i L.length with h1 | h1 | h1
    · left; rw [List.getElem?_append_left h1] at hx; exact ⟨hx, h1⟩
    · right; subst h1; simp at hx; exact ⟨rfl, hx.symm⟩
    · rw [List.getElem?_eq_none (by simp; omega)] at hx; cases hx
  constructor
  · intro i x hx
    have hlen : ((L ++ [t]).length : Int) = (L.length : Int) + 1 := by simp
    rw [hlen]
    rcases key i x hx with ⟨h1, _⟩ | ⟨rfl, rfl⟩
    · have := h.up i x h1
      rw [show (L.length : Int) + 1 - (i : Int) = ((L.length : Int) - (i : Int)) + 1 by omega, Int.add_mul, Int.one_mul]
      omega
    · rw [show (L.length : Int) + 1 - (L.length : Int) = 1 by omega, Int.one_mul]; omega
  · intro i k x y hik hx hy
    rcases key i x hx with ⟨h1, l1⟩ | ⟨rfl, rfl⟩
    · rcases key k y hy with ⟨h2, _⟩ | ⟨rfl, rfl⟩
      · exact h.win i k x y hik h1 h2
      · have := h.up i x h1; omega
    · rcases key k y hy with ⟨_, l2⟩ | ⟨rfl, rfl⟩
      · omega
      · rw [Int.sub_self, Int.zero_mul]; omega
theorem Win.quo {s e T : Int} {L : List Int} (h : Win s e T L) (hs : 1 ≤ s) {i k : Nat} {x y : Int} (hik : i ≤ k) (hx : L[i]? = some x) (hy : L[k]? = some y) : 0 ≤ y - x + e ∧ (k : Int) - (i : Int) ≤ (y - x + e).tdiv s ∧ (y - x + e).tdiv s ≤ y - x + e := by
  have h1 := h.win i k x y hik hx hy
  have h0 : 0 ≤ ((k : Int) - (i : Int)) * s := Int.mul_nonneg (by omega) (by omega)
  refine ⟨by omega, ?_⟩
  rw [Int.tdiv_eq_ediv_of_nonneg (by omega)]
  exact ⟨(Int.le_ediv_iff_mul_le (by omega)).2 h1, Int.ediv_le_self _ (by omega)⟩

theorem info3 : (Try.prog.info? 3).map (fun i => (i.zero, i.size, i.bytes)) = some (some (.int .i64 0), 1, 8) := by kernel_rfl

/-- Two slices lie in blocks of their own. -/
def Apart (a a' : Option Addr) : Prop := ∀ x y, a = some x → a' = some y → x.block ≠ y.block

/-- A number appended: the slice stays in its block, or goes to a new one. -/
theorem run_app1 (w : World) (base : Nat) (hbase : base ≤ w.heap.size) (a : Option Addr) (n c : Nat) (xs : List Int) (hv : OwnR 3 .i64 base w a n c xs) (hn : n ≤ 1000) (x : Int) (g2 : Nat) (h2 : BK w g2 #[.int .i64 x] 3) :
    ∃ g' c' w', (Builtin.append_ #[30, 30] 30 #[.slice a n c, .slice (some ⟨g2, 0, none⟩) 1 1]).run Try.prog w = .ok (.slice (some ⟨g', 0, none⟩) (n + 1) c') w' ∧ OwnR 3 .i64 base w' (some ⟨g', 0, none⟩) (n + 1) c' (xs ++ [x]) ∧
      w.grownBy w' (Value.slice a n c).ownBlock ∧ ((∃ y, a = some y ∧ y.block = g') ∨ w.heap.size ≤ g') := by
  obtain ⟨i0, hi, hz0, hz1, hz2⟩ := info_parts info3
  obtain ⟨rfl, hown⟩ := hv
  have hnews : ∀ j u, ([Value.int .i64 x] : List Value)[j]? = some u → w.cell? ((⟨g2, 0, none⟩ : Addr).add j) = some u := by
    intro j u hu
    rw [Addr.add_lit, Nat.zero_add]
    match j, hu with
    | 0, hu => simp at hu; subst hu; exact h2.cell 0 _ rfl
    | j + 1, hu => simp at hu
  have hone : ∀ u ∈ ([Value.int .i64 x] : List Value), u.oneCell' = true := by intro u hu; simp at hu; rw [hu]; rfl
  obtain ⟨v', w', hrun, ho, hgr, hne⟩ := run_append_own (P := Try.prog) w base 30 30 3 i0 _ 1 8 Try.underlying30 hi hz0 hz1 hz2 rfl (by decide) _ _ _ hown ⟨g2, 0, none⟩ 1 1 [.int .i64 x] rfl hnews hone (by unfold maxLen; omega) (by omega) hbase
  obtain ⟨g', c', rfl⟩ := ownsRow_succ ho
  refine ⟨g', c', w', hrun, ⟨by simp, by rw [ivals_append]; exact ho⟩, hgr, ?_⟩
  rcases hown.2 with ⟨e, h0⟩ | ⟨g, cap, cur, e, hbg, hg, hnc, hcm, hcs, htake⟩
  · right
    have := run_append_nil (P := Try.prog) w 30 30 3 i0 _ Try.underlying30 hi hz0 ⟨g2, 0, none⟩ 1 1 [.int .i64 x] (by rw [hz1]; rfl) hnews (by decide) (by decide) (by rw [hz2]; decide)
    rw [e] at hrun
    have hh := hrun.symm.trans this
    simp at hh
    omega
  · simp at e
    obtain ⟨rfl, rfl⟩ := e
    by_cases hroom : xs.length + 1 ≤ c
    · left
      have := run_append_room (P := Try.prog) w 30 30 3 i0 Try.underlying30 hi g xs.length c cur hg ⟨g2, 0, none⟩ 1 1 [.int .i64 x] (by rw [hz1]; rfl) hnews hone hroom (by rw [hz1, hcs]; simp; omega)
      have hh := hrun.symm.trans this
      simp at hh
      exact ⟨_, rfl, hh.1.1.symm⟩
    · right
      have := run_append_grow (P := Try.prog) w 30 30 3 i0 _ Try.underlying30 hi hz0 ⟨g, 0, none⟩ xs.length c (ivals .i64 xs) (by rw [hz1]; simp [ivals]) (hown.cells (g := g) rfl) ⟨g2, 0, none⟩ 1 1 [.int .i64 x] (by rw [hz1]; rfl) hnews (by omega) (by omega) (by rw [hz2]; exact growslice_fits (by omega) (by omega))
      have hh := hrun.symm.trans this
      simp at hh
      omega

theorem OwnR.lt {e : TypeId} {k : IntKind} {base : Nat} {w : World} {y : Addr} {n c : Nat} {zs : List Int} (h : OwnR e k base w (some y) n c zs) : base ≤ y.block ∧ y.block < w.heap.size := by
  rcases h.2.2 with ⟨e, _⟩ | ⟨g, cap, cur, e, hg, hh, _⟩
  · cases e
  · simp at e
    obtain ⟨rfl, rfl⟩ := e
    exact ⟨hg, (Array.getElem?_eq_some_iff.1 hh).1⟩
/-- The other slice goes on. -/
theorem OwnR.apart {e e' : TypeId} {k k' : IntKind} {base base' : Nat} {w w' : World} {a a' : Option Addr} {n c n' c' : Nat} {zs ys : List Int} (h : OwnR e k base w a n c zs) (_ : OwnR e' k' base' w a' n' c' ys) (hap : Apart a a') (hg : w.grownBy w' (Value.slice a' n' c').ownBlock) : OwnR e k base w' a n c zs := by
  obtain ⟨hn, hl, ho⟩ := h
  refine ⟨hn, hl, ?_⟩
  rcases ho with ho | ⟨g, cap, cur, e1, hb, hh, q⟩
  · exact .inl ho
  · refine .inr ⟨g, cap, cur, e1, hb, (hg.block g (Array.getElem?_eq_some_iff.1 hh).1 ?_).trans hh, q⟩
    simp at e1
    obtain ⟨rfl, rfl⟩ := e1
    cases a' with
    | none => simp [Value.ownBlock]
    | some y => intro e2; simp [Value.ownBlock] at e2; exact hap _ _ rfl rfl e2
theorem OwnR.buts {B : List Nat} {e : TypeId} {k : IntKind} {base m : Nat} {w w' : World} {a : Option Addr} {n c : Nat} {zs : List Int} (ho : OwnR e k base w a n c zs) (h : Buts B m w w') (hm : w.heap.size ≤ m) (hB : ∀ k ∈ B, k < base) : OwnR e k base w' a n c zs := by
  obtain ⟨hn, hl, ho⟩ := ho
  refine ⟨hn, hl, ?_⟩
  rcases ho with ho | ⟨g, cap, cur, e, hg, hh, q⟩
  · exact .inl ho
  · exact .inr ⟨g, cap, cur, e, hg, (h.block g (Nat.lt_of_lt_of_le (Array.getElem?_eq_some_iff.1 hh).1 hm) (fun hk => by have := hB g hk; omega)).trans hh, q⟩

set_option maxHeartbeats 2000000 in
theorem win_calls {s e T : Int} {L : List Int} (s0 : 1 ≤ s) (s1 : s ≤ 1099511627776) (e0 : 0 ≤ e) (e1 : e ≤ 2199023255552) (hW : Win s e T L) (hLb : ∀ x ∈ L, 0 ≤ x ∧ x ≤ 1288490188800) (hlen : L.length ≤ 300) {base : Nat} {a : Option Addr} {n c : Nat} {w : World} (ho : OwnR 3 .i64 base w a n c L) :
    Calls Try.prog 13 #[.slice a n c, .int .i64 s, .int .i64 e] w fun x w' => x = .returned (.bool true) ∧ Below w.heap.size w w' := by
  have HW : Hid (Win s e T L) := hW
  have HL : Hid (∀ x ∈ L, 0 ≤ x ∧ x ≤ 1288490188800) := hLb
  have OL : n = L.length := ho.1
  have hn : n ≤ 300 := by omega
  have OLH : Hid (n = L.length) := OL
  clear hW hLb OL hlen
  go_enter Try.func13, Try.ntmps13
  go_wp2
  go_loopw [11] (fun iv wr' => ∃ (i : Nat), i ≤ n ∧ iv = .int .i64 i ∧ OwnR 3 .i64 base wr' a n c L ∧ Below w.heap.size w wr') (fun iv _ => n - (intOf iv).toNat)
  case atStart => exact ⟨0, Nat.zero_le _, rfl, ho, Below.refl _ _⟩
  case round =>
    obtain ⟨i, hi, rfl, o5, b5⟩ := hrel
    clear ho
    by_cases hlt : i < n
    · clear hi
      go_wp2
      go_loopw [8] (fun jv wr' => ∃ (j : Nat), i ≤ j ∧ j ≤ n ∧ jv = .int .i64 j ∧ OwnR 3 .i64 base wr' a n c L ∧ Below w.heap.size w wr') (fun jv _ => n - (intOf jv).toNat)
      case atStart => exact ⟨i, Nat.le_refl _, Nat.le_of_lt hlt, rfl, o5, b5⟩
      case round =>
        obtain ⟨j, hij, hj, rfl, o6, b6⟩ := hrel
        clear o5 b5
        by_cases hjt : j < n
        · obtain ⟨x, hx⟩ : ∃ x, L[i]? = some x := ⟨_, List.getElem?_eq_getElem (by have := OLH.out; omega)⟩
          obtain ⟨y, hy⟩ : ∃ y, L[j]? = some y := ⟨_, List.getElem?_eq_getElem (by have := OLH.out; omega)⟩
          have ⟨x0, x1⟩ := HL.out x (List.mem_of_getElem? hx)
          have ⟨y0, y1⟩ := HL.out y (List.mem_of_getElem? hy)
          have ⟨g0, g1, g2⟩ := HW.out.quo s0 hij hx hy
          obtain ⟨Q, hQ⟩ : ∃ Q, (y - x + e).tdiv s = Q := ⟨_, rfl⟩
          rw [hQ] at g1 g2
          have HQ : Hid ((y - x + e).tdiv s = Q) := hQ
          have HG : Hid (decide (Q < (j : Int) - (i : Int)) = false) := decide_eq_false (by omega)
          obtain ⟨g, cur, rfl, hg, hgl, _⟩ := o6.block (by omega)
          have c1 := o6.get hx
          have c2 := o6.get hy
          clear hx hy hQ
          go_wp2
          refine wp_region_held_drew (S := (fun w' => w'.cell? ⟨g, j, none⟩ = some (.int .i64 y) ∧ w'.cell? ⟨g, i, none⟩ = some (.int .i64 x))) (by kernel_rfl) ⟨c2, c1⟩ (fun hHeld => ?_)
          refine wpAnyH_take (i := 0) (oi := ({ dst := some 21, op := Op.move (Operand.tmp 8), type := 3, pos := _, after := #[], guard := none } : Oper)) (v := ?_) rfl (by kernel_rfl) (by kernel_rfl) (by kernel_rfl) (fun _ _ _ h => h) (Or.inl ⟨by rfl, ?_⟩) hHeld ?_
          rotate_left
          · (intro w hS; go_simp; try with_reducible rfl)
          try simp only [Act.put, List.setIfInBounds_toArray, List.set_cons_zero, List.set_cons_succ]
          refine wpAnyH_take (i := 1) (oi := ({ dst := some 22, op := Op.move (Operand.tmp 7), type := 3, pos := _, after := #[], guard := none } : Oper)) (v := ?_) rfl (by kernel_rfl) (by kernel_rfl) (by kernel_rfl) (fun _ _ _ h => h) (Or.inl ⟨by rfl, ?_⟩) hHeld ?_
          rotate_left
          · (intro w hS; go_simp; try with_reducible rfl)
          try simp only [Act.put, List.setIfInBounds_toArray, List.set_cons_zero, List.set_cons_succ]
          refine wpAnyH_take (i := 2) (oi := ({ dst := some 23, op := Op.binOp BinOp.sub 3 (Operand.tmp 21) (Operand.tmp 22) 3, type := 3, pos := _, after := #[{ on := 0, ground := Ground.data }, { on := 1, ground := Ground.data }], guard := none } : Oper)) (v := ?_) rfl (by kernel_rfl) (by kernel_rfl) (by kernel_rfl) (fun _ _ _ h => h) (Or.inl ⟨by rfl, ?_⟩) hHeld ?_
          rotate_left
          · (intro w hS; go_simp; try with_reducible rfl)
          try simp only [Act.put, List.setIfInBounds_toArray, List.set_cons_zero, List.set_cons_succ]
          rw [wrap_id (x := (j : Int) - (i : Int)) (by omega) (by omega)]
          refine wpAnyH_take (i := 3) (oi := ({ dst := some 24, op := Op.move (Operand.tmp 0), type := 30, pos := _, after := #[], guard := none } : Oper)) (v := ?_) rfl (by kernel_rfl) (by kernel_rfl) (by kernel_rfl) (fun _ _ _ h => h) (Or.inl ⟨by rfl, ?_⟩) hHeld ?_
          rotate_left
          · (intro w hS; go_simp; try with_reducible rfl)
          try simp only [Act.put, List.setIfInBounds_toArray, List.set_cons_zero, List.set_cons_succ]
          refine wpAnyH_take (i := 4) (oi := ({ dst := some 25, op := Op.move (Operand.tmp 8), type := 3, pos := _, after := #[], guard := none } : Oper)) (v := ?_) rfl (by kernel_rfl) (by kernel_rfl) (by kernel_rfl) (fun _ _ _ h => h) (Or.inl ⟨by rfl, ?_⟩) hHeld ?_
          rotate_left
          · (intro w hS; go_simp; try with_reducible rfl)
          try simp only [Act.put, List.setIfInBounds_toArray, List.set_cons_zero, List.set_cons_succ]
          refine wpAnyH_take (i := 5) (oi := ({ dst := some 26, op := Op.indexAddr 30 (Operand.tmp 24) (Operand.tmp 25), type := 0, pos := _, after := #[{ on := 3, ground := Ground.data }, { on := 4, ground := Ground.data }], guard := none } : Oper)) (v := ?_) rfl (by kernel_rfl) (by kernel_rfl) (by kernel_rfl) (fun _ _ _ h => h) (Or.inl ⟨by rfl, ?_⟩) hHeld ?_
          rotate_left
          · (intro w hS; go_simp; try with_reducible rfl)
          try simp only [Act.put, List.setIfInBounds_toArray, List.set_cons_zero, List.set_cons_succ]
          refine wpAnyH_take (i := 6) (oi := ({ dst := some 27, op := Op.load 3 (Operand.tmp 26), type := 3, pos := _, after := #[{ on := 5, ground := Ground.data }], guard := none } : Oper)) (v := ?_) rfl (by kernel_rfl) (by kernel_rfl) (by kernel_rfl) (fun _ _ _ h => h) (Or.inl ⟨by rfl, ?_⟩) hHeld ?_
          rotate_left
          · (intro w hS; go_simp; try with_reducible rfl)
          try simp only [Act.put, List.setIfInBounds_toArray, List.set_cons_zero, List.set_cons_succ]
          refine wpAnyH_take (i := 7) (oi := ({ dst := some 28, op := Op.move (Operand.tmp 0), type := 30, pos := _, after := #[], guard := none } : Oper)) (v := ?_) rfl (by kernel_rfl) (by kernel_rfl) (by kernel_rfl) (fun _ _ _ h => h) (Or.inl ⟨by rfl, ?_⟩) hHeld ?_
          rotate_left
          · (intro w hS; go_simp; try with_reducible rfl)
          try simp only [Act.put, List.setIfInBounds_toArray, List.set_cons_zero, List.set_cons_succ]
          refine wpAnyH_take (i := 8) (oi := ({ dst := some 29, op := Op.move (Operand.tmp 7), type := 3, pos := _, after := #[], guard := none } : Oper)) (v := ?_) rfl (by kernel_rfl) (by kernel_rfl) (by kernel_rfl) (fun _ _ _ h => h) (Or.inl ⟨by rfl, ?_⟩) hHeld ?_
          rotate_left
          · (intro w hS; go_simp; try with_reducible rfl)
          try simp only [Act.put, List.setIfInBounds_toArray, List.set_cons_zero, List.set_cons_succ]
          refine wpAnyH_take (i := 9) (oi := ({ dst := some 30, op := Op.indexAddr 30 (Operand.tmp 28) (Operand.tmp 29), type := 0, pos := _, after := #[{ on := 7, ground := Ground.data }, { on := 8, ground := Ground.data }], guard := none } : Oper)) (v := ?_) rfl (by kernel_rfl) (by kernel_rfl) (by kernel_rfl) (fun _ _ _ h => h) (Or.inl ⟨by rfl, ?_⟩) hHeld ?_
          rotate_left
          · (intro w hS; go_simp; try with_reducible rfl)
          try simp only [Act.put, List.setIfInBounds_toArray, List.set_cons_zero, List.set_cons_succ]
          refine wpAnyH_take (i := 10) (oi := ({ dst := some 31, op := Op.load 3 (Operand.tmp 30), type := 3, pos := _, after := #[{ on := 9, ground := Ground.data }], guard := none } : Oper)) (v := ?_) rfl (by kernel_rfl) (by kernel_rfl) (by kernel_rfl) (fun _ _ _ h => h) (Or.inl ⟨by rfl, ?_⟩) hHeld ?_
          rotate_left
          · (intro w hS; go_simp; try with_reducible rfl)
          try simp only [Act.put, List.setIfInBounds_toArray, List.set_cons_zero, List.set_cons_succ]
          refine wpAnyH_take (i := 11) (oi := ({ dst := some 32, op := Op.binOp BinOp.sub 3 (Operand.tmp 27) (Operand.tmp 31) 3, type := 3, pos := _, after := #[{ on := 6, ground := Ground.data }, { on := 10, ground := Ground.data }], guard := none } : Oper)) (v := ?_) rfl (by kernel_rfl) (by kernel_rfl) (by kernel_rfl) (fun _ _ _ h => h) (Or.inl ⟨by rfl, ?_⟩) hHeld ?_
          rotate_left
          · (intro w hS; go_simp; try with_reducible rfl)
          try simp only [Act.put, List.setIfInBounds_toArray, List.set_cons_zero, List.set_cons_succ]
          rw [wrap_id (x := y - x) (by omega) (by omega)]
          refine wpAnyH_take (i := 12) (oi := ({ dst := some 33, op := Op.move (Operand.tmp 2), type := 3, pos := _, after := #[], guard := none } : Oper)) (v := ?_) rfl (by kernel_rfl) (by kernel_rfl) (by kernel_rfl) (fun _ _ _ h => h) (Or.inl ⟨by rfl, ?_⟩) hHeld ?_
          rotate_left
          · (intro w hS; go_simp; try with_reducible rfl)
          try simp only [Act.put, List.setIfInBounds_toArray, List.set_cons_zero, List.set_cons_succ]
          refine wpAnyH_take (i := 13) (oi := ({ dst := some 34, op := Op.binOp BinOp.add 3 (Operand.tmp 32) (Operand.tmp 33) 3, type := 3, pos := _, after := #[{ on := 11, ground := Ground.data }, { on := 12, ground := Ground.data }], guard := none } : Oper)) (v := ?_) rfl (by kernel_rfl) (by kernel_rfl) (by kernel_rfl) (fun _ _ _ h => h) (Or.inl ⟨by rfl, ?_⟩) hHeld ?_
          rotate_left
          · (intro w hS; go_simp; try with_reducible rfl)
          try simp only [Act.put, List.setIfInBounds_toArray, List.set_cons_zero, List.set_cons_succ]
          rw [wrap_id (x := y - x + e) (by omega) (by omega)]
          refine wpAnyH_take (i := 14) (oi := ({ dst := some 35, op := Op.move (Operand.tmp 1), type := 3, pos := _, after := #[], guard := none } : Oper)) (v := ?_) rfl (by kernel_rfl) (by kernel_rfl) (by kernel_rfl) (fun _ _ _ h => h) (Or.inl ⟨by rfl, ?_⟩) hHeld ?_
          rotate_left
          · (intro w hS; go_simp; try with_reducible rfl)
          try simp only [Act.put, List.setIfInBounds_toArray, List.set_cons_zero, List.set_cons_succ]
          refine wpAnyH_take (i := 15) (oi := ({ dst := some 36, op := Op.binOp BinOp.quo 3 (Operand.tmp 34) (Operand.tmp 35) 3, type := 3, pos := _, after := #[{ on := 13, ground := Ground.data }, { on := 14, ground := Ground.data }], guard := none } : Oper)) (v := ?_) rfl (by kernel_rfl) (by kernel_rfl) (by kernel_rfl) (fun _ _ _ h => h) (Or.inl ⟨by rfl, ?_⟩) hHeld ?_
          rotate_left
          · (intro w hS; go_simp; rw [if_neg (by omega)])
          try simp only [Act.put, List.setIfInBounds_toArray, List.set_cons_zero, List.set_cons_succ]
          rw [HQ.out, wrap_id (x := Q) (by omega) (by omega)]
          refine wpAnyH_take (i := 16) (oi := ({ dst := some 37, op := Op.binOp BinOp.gtr 3 (Operand.tmp 23) (Operand.tmp 36) 3, type := 4, pos := _, after := #[{ on := 2, ground := Ground.data }, { on := 15, ground := Ground.data }], guard := none } : Oper)) (v := ?_) rfl (by kernel_rfl) (by kernel_rfl) (by kernel_rfl) (fun _ _ _ h => h) (Or.inl ⟨by rfl, ?_⟩) hHeld ?_
          rotate_left
          · (intro w hS; go_simp; try with_reducible rfl)
          try simp only [Act.put, List.setIfInBounds_toArray, List.set_cons_zero, List.set_cons_succ]
          refine wpAnyH_done (by kernel_rfl) ?_ _
          rw [HG.out]
          clear g1 g2 HG HQ
          go_wp2
          go_roundw
          case rel => exact ⟨j + 1, by omega, by omega, by go_num, o6, b6.drew⟩
          case measure => simp [intOf]; omega
        · obtain rfl : j = n := by omega
          clear hij hj hjt
          go_wp2
          go_roundw
          case rel => exact ⟨i + 1, by omega, by go_num, o6, b6⟩
          case measure => simp [intOf]; omega
    · obtain rfl : i = n := by omega
      go_wp2
      go_ret
      exact ⟨rfl, b5⟩
end Go.Proofs.Ytlaomjhibaoglaa
