/- Proved here: the walk of FrameCells. Conditions: as each theorem states them. -/
import Derived.Deep.AppendSrc
import Derived.Test.YtdipffgmjmhjaaaCellsP
namespace Go.Proofs.Ytdipffgmjmhjaaa
set_option linter.unusedSimpArgs false
set_option linter.unusedVariables false
open Go.RowKit Go.Shelf
attribute [local go_sem] Oper.semAt_some

/-- The law's own boxes: the bytes, how many are wanted, the answer, how many there are. -/
structure Mem (s q : Nat) (w0 : World) (a : Option Addr) (len cap stop k : Nat) (W : World) : Prop where
  b : Boxed W s 22 (.slice a len cap)
  st : Boxed W (s + 1) 5 (.int .u8 stop)
  rs : Boxed W (s + 1 + 1) 4 (.bool false)
  cnt : Boxed W (q + 1) 3 (.int .i64 k)
  bel : Below s w0 W
theorem boxed_below {W W' : World} {B m : Nat} {t : TypeId} {v : Value} (h : Boxed W B t v) (b : Below m W W') (hm : B < m) : Boxed W' B t v := (b.block B hm).trans h
theorem boxed_grown {X Y : World} {row : Option Nat} {B : Nat} {t : TypeId} {v : Value} (h : Boxed X B t v) (hg : X.grownBy Y row) (hr : ∀ r, row = some r → ∃ o : Obj, X.heap[r]? = some o ∧ o.isCells = false) : Boxed Y B t v :=
  h.kept hg (fun e => by obtain ⟨o, ho, hc⟩ := hr B e.symm; rw [show X.heap[B]? = _ from h] at ho; cases ho; cases hc)
theorem Mem.below {s q m : Nat} {w0 : World} {a : Option Addr} {len cap stop k : Nat} {W W' : World} (h : Mem s q w0 a len cap stop k W) (b : Below m W W') (h1 : s + 1 + 1 < m) (h2 : q + 1 < m) : Mem s q w0 a len cap stop k W' :=
  ⟨boxed_below h.b b (by omega), boxed_below h.st b (by omega), boxed_below h.rs b (by omega), boxed_below h.cnt b (by omega), h.bel.trans (b.mono (by omega))⟩
theorem Mem.grown {s q B : Nat} {w0 : World} {a : Option Addr} {len cap stop k : Nat} {X Y : World} {row : Option Nat} (h : Mem s q w0 a len cap stop k X) (hg : X.grownBy Y row) (hs : s ≤ w0.heap.size) (hB : s ≤ B) (hr : ∀ r, row = some r → B ≤ r ∧ ∃ o : Obj, X.heap[r]? = some o ∧ o.isCells = false) : Mem s q w0 a len cap stop k Y :=
  ⟨boxed_grown h.b hg (fun r e => (hr r e).2), boxed_grown h.st hg (fun r e => (hr r e).2), boxed_grown h.rs hg (fun r e => (hr r e).2), boxed_grown h.cnt hg (fun r e => (hr r e).2),
    (ownFrom_below (β := Unit) hs hB) () X Y row h.bel hg hr⟩

theorem operIn_st {F : Fence} {n : Nat} {P : Program} {w : World} {o : Oper} {a : Act} {K : Act → World → Prop} {Q : Exit → Act → World → Prop}
    {ty : TypeId} {x y : Operand} {Z C : Array Value} (ho : o.op = .store ty x y) (hx : a.eval x = .pointer (some ⟨w.heap.size, 0, none⟩)) (hy : a.eval y = .agg C)
    (hi : (P.info? ty).map (·.size) = some C.size) (hZ : Z.size = C.size) (h1 : C.all (·.oneCell') = true)
    (h : K (a.put o.dst undef) (w.alloc (.cells C ty))) : o.wpIn F n P a (w.alloc (.cells Z ty)) K Q := by
  unfold Oper.wpIn
  refine ⟨?_, ?_⟩
  · simp [Oper.about, ho]
  · rw [Oper.semAt_plain F _ _ (by rw [ho]; intro c hc'; cases hc')]
    have e := run_storeAt_new (P := P) w ty Z C hi hZ h1
    unfold execOp
    simp only [ho, hx, hy, Sem.run_bind, e, Result.andThen_ok, Sem.run_pure]
    exact h
theorem wpListIn_def {F : Fence} {n : Nat} {P : Program} {w : World} {ops : Array Oper} {rest : List Oper} {o1 o2 : Oper} {a : Act} {Q : Exit → Act → World → Prop} (hg1 : o1.guard = none) (hg2 : o2.guard = none)
    {ty : TypeId} {x y : Operand} {Z C : Array Value} (ho1 : o1.op = .alloc ty) (ho2 : o2.op = .store ty x y)
    (hx : (a.put o1.dst (.pointer (some ⟨w.heap.size, 0, none⟩))).eval x = .pointer (some ⟨w.heap.size, 0, none⟩)) (hy : (a.put o1.dst (.pointer (some ⟨w.heap.size, 0, none⟩))).eval y = .agg C)
    (hz : ∀ w, (zeroValue ty).run P w = .ok (.agg Z) w) (hi : (P.info? ty).map (·.size) = some C.size) (hZ : Z.size = C.size) (h1 : C.all (·.oneCell') = true)
    (h : wpListIn F n P ops Q rest ((a.put o1.dst (.pointer (some ⟨w.heap.size, 0, none⟩))).put o2.dst undef) (w.alloc (.cells C ty))) : wpListIn F n P ops Q (o1 :: o2 :: rest) a w :=
  wpListIn_plain hg1 fun _ hK => operIn_al ho1 hz (hK _ _ (wpListIn_plain hg2 fun _ hK' => operIn_st ho2 hx hy hi hZ h1 (hK' _ _ h)))
theorem stepIn_app {F : Fence} {n : Nat} {P : Program} {w w' : World} {t : TypeId} {va vx v' : Value} {ty : TypeId} (hrun : (Builtin.append_ #[t, t] ty #[va, vx]).run P w = .ok v' w')
    {ops : Array Oper} {o : Oper} {a : Act} {K : Act → World → Prop} {Q : Exit → Act → World → Prop} {E : Prop} (s x : Operand) (hgd : Region.wanted o (yielded ops a.tmps) = true)
    (ho : o.op = .call { callee := .builtin .append, args := #[s, x], argTypes := #[t, t] }) (hty : o.type = ty) (hs : a.eval s = va) (hx : a.eval x = vx)
    (h : K (a.put o.dst v') w') : if Region.wanted o (yielded ops a.tmps) = true then Oper.wpIn F n P o a w K Q else E := by
  rw [if_pos hgd]
  subst hty
  unfold Oper.wpIn
  refine ⟨?_, ?_⟩
  · simp [Oper.about, ho, resolve, Target.leads, Sem.run_pure]
  · rw [Oper.semAt_plain F _ _ (by rw [ho]; intro c hc'; cases hc')]
    simp [execOp, ho, resolve, invoke, builtin, hs, hx, hrun, Result.andThen]
    exact h
theorem last_good {zs : List UInt8} {len P x : Nat} (hl : len = zs.length) (hP : P < zs.length / 48) (hx : x = P) : (((zs.length - 48 * x : Nat) : Int) == 48) = (decide (len % 48 = 0) && decide (P + 1 = len / 48)) := by
  subst hx hl
  by_cases h1 : zs.length % 48 = 0
  · by_cases h2 : x + 1 = zs.length / 48
    · have : (((zs.length - 48 * x : Nat) : Int) == 48) = true := by rw [beq_iff_eq]; omega
      simp [this, h1, h2]
    · have : (((zs.length - 48 * x : Nat) : Int) == 48) = false := by rw [beq_eq_false_iff_ne]; omega
      simp [this, h1, h2]
  · have : (((zs.length - 48 * x : Nat) : Int) == 48) = false := by rw [beq_eq_false_iff_ne]; omega
    simp [this, h1]

theorem row_own {W : World} {base n : Nat} {v : Value} {xs : List UInt8} (h : W.ownsRow base 5 1 v n (vals xs)) (hn : n = xs.length) : ∃ a c, v = .slice a n c ∧ OwnB base W a n c xs := by
  rcases h.2 with ⟨rfl, e⟩ | ⟨g, cap, cur, rfl, _⟩
  · subst e
    exact ⟨none, 0, rfl, hn, h⟩
  · exact ⟨_, _, rfl, hn, h⟩
theorem keeps_grown {W w1 : World} {v : Value} {M base n : Nat} {xs : List Value} (hrow : W.ownsRow base 5 1 v n xs) (hg : W.grownBy w1 v.ownBlock) : KeepsFrom M W w1 := by
  refine ⟨hg.size, fun k o _ hk ho => ?_⟩
  refine (hg.block k (Array.getElem?_eq_some_iff.1 hk).1 (fun e => ?_)).trans hk
  rcases hrow.2 with ⟨rfl, _⟩ | ⟨g, cap, cur, rfl, _, hgb, _⟩
  · simp [Value.ownBlock] at e
  · obtain rfl : k = g := by simpa [Value.ownBlock] using e
    rw [hgb] at hk; cases hk; cases ho
theorem below_grown {W w1 : World} {v : Value} {base n : Nat} {xs : List Value} (hb : base ≤ W.heap.size) (hrow : W.ownsRow base 5 1 v n xs) (hg : W.grownBy w1 v.ownBlock) : Below base W w1 := by
  refine ⟨hg.os, hg.tape, hg.output, hg.size, fun k hk => hg.block k (by omega) (fun e => ?_)⟩
  rcases hrow.2 with ⟨rfl, _⟩ | ⟨g, cap, cur, rfl, hbg, _⟩
  · simp [Value.ownBlock] at e
  · obtain rfl : k = g := by simpa [Value.ownBlock] using e
    omega
theorem row_set {W : World} {base n : Nat} {v : Value} {xs : List Value} {p : Addr} {u : Value} (h : W.ownsRow base 5 1 v n xs) (hp : p.block < base) : (W.setCell p u).ownsRow base 5 1 v n xs := by
  refine ⟨h.1, ?_⟩
  rcases h.2 with e | ⟨g, cap, cur, e, hg, hh, r⟩
  · exact .inl e
  · exact .inr ⟨g, cap, cur, e, hg, (Below.heap_setCell _ _ _ _ (by omega)).trans hh, r⟩

theorem Mem.step {s q : Nat} {w0 : World} {a : Option Addr} {len cap stop P : Nat} {w1 : World} {v : Value} (v' : Value) (hM : Mem s q w0 a len cap stop P w1) (hv : Boxed w1 q 22 v) (hsq : s + 3 ≤ q) :
    Mem s q w0 a len cap stop (P + 1) ((w1.setCell ⟨q, 0, none⟩ v').setCell ⟨q + 1, 0, none⟩ (.int .i64 ((P : Int) + 1))) ∧ Boxed ((w1.setCell ⟨q, 0, none⟩ v').setCell ⟨q + 1, 0, none⟩ (.int .i64 ((P : Int) + 1))) q 22 v' :=
  ⟨⟨(hM.b.other (by omega) _).other (by omega) _, (hM.st.other (by omega) _).other (by omega) _, (hM.rs.other (by omega) _).other (by omega) _, by have := (hM.cnt.other (B' := q) (by omega) v').set (.int .i64 ((P : Int) + 1)); simpa using this,
    (hM.bel.setCell (p := ⟨q, 0, none⟩) (by show s ≤ q; omega) _).setCell (p := ⟨q + 1, 0, none⟩) (by show s ≤ q + 1; omega) _⟩, (hv.set v').other (by omega) _⟩
theorem Kq.set2 {g q : Nat} (W : World) (u v : Value) (h : q + 2 ≤ g) : Kq g W ((W.setCell ⟨q, 0, none⟩ u).setCell ⟨q + 1, 0, none⟩ v) :=
  ⟨by simp [World.setCell], (Below.heap_setCell _ _ _ _ (by show g ≠ q + 1; omega)).trans (Below.heap_setCell _ _ _ _ (by show g ≠ q; omega))⟩

/-- An end that is no panic. -/
def calm (Q : Exit → Act → World → Prop) : Exit → Act → World → Prop
  | .ret, a, w => Q .ret a w
  | .normal, a, w => Q .normal a w
  | _, _, _ => False
theorem wp_calm {P : Program} {c : Code} {Q : Exit → Act → World → Prop} {a : Act} {w : World} (h : c.wp P (calm Q) a w) : c.wp P Q a w :=
  wp_mono h fun e a w h => by cases e <;> first | exact h | exact h.elim

set_option maxHeartbeats 1000000 in
theorem cells_fin (TT : Array Value) (D : Nat) (Z w : World) (hT : TT[4]? = some (.pointer (some ⟨w.heap.size + 1 + 1, 0, none⟩))) (hRS : Boxed Z (w.heap.size + 1 + 1) 4 (.bool false)) (hd : Z.heap[D]? = some (.deferred (some []))) (hB : Below w.heap.size w Z) (hDn : w.heap.size + 3 ≤ D) :
    calm (bodyPostM Fence.wide 3 Try.prog Try.f7 (fun e w' => e = .returned (.bool true) ∧ Below w.heap.size w w')) .ret { tmps := TT, defers := [{ target := .collected D, args := #[] }] } (Z.setCell ⟨w.heap.size + 1 + 1, 0, none⟩ (.bool true)) := by
  have hd2 : (Z.setCell ⟨w.heap.size + 1 + 1, 0, none⟩ (.bool true)).heap[D]? = some (.deferred (some [])) := (Below.heap_setCell _ _ _ _ (by show D ≠ w.heap.size + 1 + 1; omega)).trans hd
  have K2 : BK (Z.setCell ⟨w.heap.size + 1 + 1, 0, none⟩ (.bool true)) (w.heap.size + 1 + 1) #[.bool true] 4 := BK.set (show BK Z (w.heap.size + 1 + 1) #[.bool false] 4 from hRS) 0 (.bool true)
  have hB2 : Below w.heap.size w (Z.setCell ⟨w.heap.size + 1 + 1, 0, none⟩ (.bool true)) := hB.setCell (p := ⟨w.heap.size + 1 + 1, 0, none⟩) (by show w.heap.size ≤ w.heap.size + 1 + 1; omega) _
  refine ⟨by simp, .inl ⟨D, _, rfl, run_takeDeferred hd2, ?_⟩⟩
  have K3 : BK ((Z.setCell ⟨w.heap.size + 1 + 1, 0, none⟩ (.bool true)).putObj D (.deferred none)) (w.heap.size + 1 + 1) #[.bool true] 4 := (World.putObj_heap_other (by omega)).trans K2
  have c3 := K3.cell 0 _ rfl
  refine ⟨.bool true, ?_, rfl, hB2.trans ⟨rfl, rfl, rfl, by simp, fun k hk => World.putObj_heap_other (by omega)⟩⟩
  simp [results, Try.results7, go_sem, hT, c3]

theorem cell_set_other {X : World} {p : Addr} {b k : Nat} {u v : Value} (h : X.cell? ⟨b, k, none⟩ = some v) (hb : b ≠ p.block) : (X.setCell p u).cell? ⟨b, k, none⟩ = some v := by
  rw [World.cell?_of_block (a := ⟨b, k, none⟩) (Below.heap_setCell _ _ _ _ hb)]; exact h

set_option maxHeartbeats 8000000 in
set_option maxRecDepth 100000 in
theorem cellsw_in (a : Option Addr) (len cap stop : Nat) (zs : List UInt8) (hlen : len ≤ 400) (hst : stop < 256) (w : World) (h1 : IsB w.heap.size w a len zs) (n1 : a = none → cap = 0) (c1 : len ≤ cap) :
    CallsIn Fence.wide 3 Try.prog 7 #[.slice a len cap, .int .u8 stop] w fun e w' => e = .returned (.bool true) ∧ Below w.heap.size w w' := by
  have q1 : decide (400 < (len : Int)) = false := by simp; omega
  refine callsIn_of_wp_marks Try.func7 rfl trivial ?_ rfl
  refine wpIn_wide.2 (wp_calm ?_)
  simp only [Try.ntmps7, List.size_toArray, List.length_cons, List.length_nil, Nat.reduceAdd, Nat.reduceSub, Array.replicate_succ, Array.replicate_zero, List.push_toArray, List.append_toArray, List.nil_append, List.cons_append]
  obtain ⟨W0, hW0⟩ : ∃ W0, ((w.alloc (.cells #[.slice a len cap] 22)).alloc (.cells #[.int .u8 stop] 5)).alloc (.cells #[.bool false] 4) = W0 := ⟨_, rfl⟩
  have M0 : Boxed W0 w.heap.size 22 (.slice a len cap) ∧ Boxed W0 (w.heap.size + 1) 5 (.int .u8 stop) ∧ Boxed W0 (w.heap.size + 1 + 1) 4 (.bool false) ∧ Below w.heap.size w W0 ∧ W0.heap.size = w.heap.size + 3 := by
    rw [← hW0]
    have k1 := Boxed.new w 22 (.slice a len cap)
    have k2 := Boxed.new (w.alloc (.cells #[.slice a len cap] 22)) 5 (.int .u8 stop)
    have k3 := Boxed.new ((w.alloc (.cells #[.slice a len cap] 22)).alloc (.cells #[.int .u8 stop] 5)) 4 (.bool false)
    rw [World.size_alloc] at k2
    rw [World.size_alloc, World.size_alloc] at k3
    exact ⟨(k1.alloc _).alloc _, k2.alloc _, k3, (((Below.refl _ w).alloc (Nat.le_refl _) _).alloc (by simp) _).alloc (by simp; omega) _, by simp⟩
  obtain ⟨m1, m2, m3, m4, z0⟩ := M0
  go_wp2_with fail
  refine (awake_calls _).mono ?_
  rintro e w1 ⟨rfl, b1⟩
  replace m1 := boxed_below m1 b1 m1.lt
  replace m2 := boxed_below m2 b1 m2.lt
  replace m3 := boxed_below m3 b1 m3.lt
  replace m4 := m4.trans (b1.mono m4.size)
  have z1 := b1.size
  clear b1 hW0
  have k1 := m1.cell
  have l1 := m1.lt
  have m4' := m4
  clear m4
  go_wp2_with fail
  have kx := Boxed.new w1 22 (.slice none 0 0)
  have ky := Boxed.new (w1.alloc (.cells #[.slice none 0 0] 22)) 3 (.int .i64 0)
  replace kx := kx.alloc (.cells #[.int .i64 0] 3)
  rw [World.size_alloc] at ky
  have bx : Below w1.heap.size w1 ((w1.alloc (.cells #[.slice none 0 0] 22)).alloc (.cells #[.int .i64 0] 3)) := ((Below.refl _ w1).alloc (Nat.le_refl _) _).alloc (by simp) _
  have zx : ((w1.alloc (.cells #[.slice none 0 0] 22)).alloc (.cells #[.int .i64 0] 3)).heap.size = w1.heap.size + 2 := by simp
  generalize (w1.alloc (.cells #[.slice none 0 0] 22)).alloc (.cells #[.int .i64 0] 3) = W2 at *
  replace m1 := boxed_below m1 bx m1.lt
  replace m2 := boxed_below m2 bx m2.lt
  replace m3 := boxed_below m3 bx m3.lt
  have m4 := m4'.trans (bx.mono m4'.size)
  generalize w1.heap.size = q at *
  refine (cells_calls a len cap zs W2 (h1.below m4 (Nat.le_refl _)) m4.size n1 (by omega)).mono ?_
  rintro e W3 ⟨Bp, g, a3, c3, rfl, hBp, hc3, hg1, hg2, hG, b3⟩
  replace kx := boxed_below kx b3 (by omega)
  have I0 : Mem w.heap.size q w a len cap stop 0 W3 := ⟨boxed_below m1 b3 (by omega), boxed_below m2 b3 (by omega), boxed_below m3 b3 (by omega), boxed_below ky b3 (by omega), m4.trans (b3.mono m4.size)⟩
  have zs0 : w.heap.size + 3 ≤ q := by omega
  have zq : q + 2 ≤ W3.heap.size := by have := b3.size; omega
  have hgq : q + 2 ≤ g := by omega
  clear m1 m2 m3 m4 m4' bx zx ky b3 k1 z0 z1 l1
  go_wp2
  rename_i KK hKK
  have hN : Hid ((len : Int) / 48 = ((zs.length / 48 : Nat) : Int)) := by show _ = _; rw [h1.1]; simp
  have LZ : Hid (len = zs.length) := h1.1
  have TAIL : ∀ (D : Nat) (W : World) (j : Nat) (a5 : Option Addr) (c5 : Nat), Mem w.heap.size q w a len cap stop j W → Boxed W q 22 (.slice a5 (48 * j) c5) → OwnB W3.heap.size W a5 (48 * j) c5 (zs.take (48 * j)) → j ≤ zs.length / 48 → (if (stop : Int) + 1 < ((zs.length / 48 : Nat) : Int) then (stop : Int) + 1 else ((zs.length / 48 : Nat) : Int)) = (j : Int) →
      W3.heap.size ≤ D → W.heap[D]? = some (.deferred (some [])) →
      KK { tmps := #[.slice a len cap, .int .u8 (stop : Int), .pointer (some ⟨w.heap.size, 0, none⟩), .pointer (some ⟨w.heap.size + 1, 0, none⟩), .pointer (some ⟨w.heap.size + 1 + 1, 0, none⟩), .pointer (some ⟨q, 0, none⟩), .pointer (some ⟨q + 1, 0, none⟩), undef, undef, .bool true, .bool false, .bool false, .slice a len cap, .int .i64 (len : Int), .bool false, .bool false, undef, .slice a len cap, .func (.func 24) #[] #[.pointer (some ⟨Bp, 0, none⟩)], undef, undef, undef, undef, undef, undef, undef, undef, undef, undef, undef, undef, undef, undef, undef, undef, undef, undef, undef, undef, undef, undef, undef, undef, undef, undef, undef, undef, undef, undef, undef, undef, undef, undef, undef, undef, undef, undef, undef, undef, undef, undef], defers := [{ target := .collected D, args := #[] }] } W := by
    intro D W j a5 c5 I8 hrow o8 hj hmin hD hd
    have lz := LZ.out
    have hDlt : D < W.heap.size := (Array.getElem?_eq_some_iff.1 hd).1
    have k8 := hrow.cell
    have n8 := I8.cnt.cell
    have b8 := I8.b.cell
    have s8 := I8.st.cell
    have r8 := I8.rs.cell
    have f8 := I8.rs.frozen
    have hw1 : IntKind.i64.wrap (stop : Int) = (stop : Int) := by rw [IntKind.wrap_i64]; omega
    have hw2 : IntKind.i64.wrap ((stop : Int) + 1) = (stop : Int) + 1 := by rw [IntKind.wrap_i64]; omega
    have hw3 : IntKind.i64.wrap (((zs.length / 48 : Nat) : Int)) = ((zs.length / 48 : Nat) : Int) := by rw [IntKind.wrap_i64]; omega
    have hw4 : IntKind.i64.wrap (48 * (j : Int)) = ((48 * j : Nat) : Int) := by rw [IntKind.wrap_i64]; omega
    have hjc : 48 * j ≤ cap := by omega
    have hc1 : (0 : Int) ≤ 48 * (j : Int) := by omega
    have hc2 : 48 * (j : Int) ≤ (cap : Int) := by omega
    have hc3' : (48 * (j : Int)).toNat = 48 * j := by omega
    refine hKK _ _ ?_
    clear hKK
    have hw5 : IntKind.i64.wrap ((len : Int) / 48) = ((zs.length / 48 : Nat) : Int) := by rw [hN.out, hw3]
    have hw6 : (len : Int) / 48 = ((zs.length / 48 : Nat) : Int) := hN.out
    have heq : ((j : Int) == (j : Int)) = true := by simp
    have hjl : 48 * j ≤ len := by omega
    have sc := same_calls a5 a (48 * j) c5 (48 * j) cap (zs.take (48 * j)) (zs.take (48 * j)) W.drew (o8.below (Below.refl W.heap.size W).drew (Nat.le_refl _)).isB.1 ((h1.below (I8.bel.drew) (Nat.le_refl _)).take (48 * j) (by omega)) (Nat.le_refl _) I8.bel.size (by omega)
    rw [beq_self_eq_true] at sc
    clear h1 I0 hG kx hBp lz
    generalize zs.length / 48 = N at *
    go_wp2
    refine wp_region_held_drew (S := (fun w' => w'.cell? ⟨q, 0, none⟩ = some (.slice a5 (48 * j) c5) ∧ w'.cell? ⟨q + 1, 0, none⟩ = some (.int .i64 (j : Int)) ∧ w'.cell? ⟨w.heap.size, 0, none⟩ = some (.slice a len cap) ∧ w'.cell? ⟨w.heap.size + 1, 0, none⟩ = some (.int .u8 (stop : Int)))) (by kernel_rfl) ⟨k8, n8, b8, s8⟩ (fun hHeld => ?_)
    refine wpAnyH_take (i := 0) (oi := ({ dst := some 44, op := Op.load 3 (Operand.tmp 6), type := 3, pos := _, after := #[], guard := none } : Oper)) (v := ?_) rfl (by kernel_rfl) (by kernel_rfl) (by kernel_rfl) (fun _ _ _ h => h) (Or.inl ⟨by rfl, ?_⟩) hHeld ?_
    rotate_left
    · (intro w hS; go_simp; try with_reducible rfl)
    try simp only [Act.put, List.setIfInBounds_toArray, List.set_cons_zero, List.set_cons_succ]
    refine wpAnyH_take (i := 1) (oi := ({ dst := some 45, op := Op.load 22 (Operand.tmp 2), type := 22, pos := _, after := #[], guard := none } : Oper)) (v := ?_) rfl (by kernel_rfl) (by kernel_rfl) (by kernel_rfl) (fun _ _ _ h => h) (Or.inl ⟨by rfl, ?_⟩) hHeld ?_
    rotate_left
    · (intro w hS; go_simp; try with_reducible rfl)
    try simp only [Act.put, List.setIfInBounds_toArray, List.set_cons_zero, List.set_cons_succ]
    refine wpAnyH_take (i := 2) (oi := ({ dst := some 46, op := Op.call { callee := Callee.builtin Builtin.len, args := #[Operand.tmp 45], argTypes := #[22] }, type := 3, pos := _, after := #[{ on := 1, ground := Ground.data }], guard := none } : Oper)) (v := ?_) rfl (by kernel_rfl) (by kernel_rfl) (by kernel_rfl) (fun _ _ _ h => h) (Or.inl ⟨by rfl, ?_⟩) hHeld ?_
    rotate_left
    · (intro w hS; go_simp; try with_reducible rfl)
    try simp only [Act.put, List.setIfInBounds_toArray, List.set_cons_zero, List.set_cons_succ]
    refine wpAnyH_take (i := 3) (oi := ({ dst := some 47, op := Op.binOp BinOp.quo 3 (Operand.tmp 46) (Operand.const (Value.int IntKind.i64 48)) 3, type := 3, pos := _, after := #[{ on := 2, ground := Ground.data }], guard := none } : Oper)) (v := ?_) rfl (by kernel_rfl) (by kernel_rfl) (by kernel_rfl) (fun _ _ _ h => h) (Or.inl ⟨by rfl, ?_⟩) hHeld ?_
    rotate_left
    · (intro w hS; go_simp; try with_reducible rfl)
    try simp only [Act.put, List.setIfInBounds_toArray, List.set_cons_zero, List.set_cons_succ]
    try rw [hw6]
    refine wpAnyH_take (i := 4) (oi := ({ dst := some 48, op := Op.load 5 (Operand.tmp 3), type := 5, pos := _, after := #[], guard := none } : Oper)) (v := ?_) rfl (by kernel_rfl) (by kernel_rfl) (by kernel_rfl) (fun _ _ _ h => h) (Or.inl ⟨by rfl, ?_⟩) hHeld ?_
    rotate_left
    · (intro w hS; go_simp; try with_reducible rfl)
    try simp only [Act.put, List.setIfInBounds_toArray, List.set_cons_zero, List.set_cons_succ]
    refine wpAnyH_take (i := 5) (oi := ({ dst := some 49, op := Op.convert 5 3 (Operand.tmp 48), type := 3, pos := _, after := #[{ on := 4, ground := Ground.data }], guard := none } : Oper)) (v := ?_) rfl (by kernel_rfl) (by kernel_rfl) (by kernel_rfl) (fun _ _ _ h => h) (Or.inl ⟨by rfl, ?_⟩) hHeld ?_
    rotate_left
    · (intro w hS; go_simp; try with_reducible rfl)
    try simp only [Act.put, List.setIfInBounds_toArray, List.set_cons_zero, List.set_cons_succ]
    try rw [hw1]
    refine wpAnyH_take (i := 6) (oi := ({ dst := some 50, op := Op.binOp BinOp.add 3 (Operand.tmp 49) (Operand.const (Value.int IntKind.i64 1)) 3, type := 3, pos := _, after := #[{ on := 5, ground := Ground.data }], guard := none } : Oper)) (v := ?_) rfl (by kernel_rfl) (by kernel_rfl) (by kernel_rfl) (fun _ _ _ h => h) (Or.inl ⟨by rfl, ?_⟩) hHeld ?_
    rotate_left
    · (intro w hS; go_simp; try with_reducible rfl)
    try simp only [Act.put, List.setIfInBounds_toArray, List.set_cons_zero, List.set_cons_succ]
    try rw [hw2]
    refine wpAnyH_take (i := 7) (oi := ({ dst := some 51, op := Op.call { callee := Callee.builtin Builtin.min, args := #[Operand.tmp 47, Operand.tmp 50], argTypes := #[3, 3] }, type := 3, pos := _, after := #[{ on := 3, ground := Ground.data }, { on := 6, ground := Ground.data }], guard := none } : Oper)) (v := ?_) rfl (by kernel_rfl) (by kernel_rfl) (by kernel_rfl) (fun _ _ _ h => h) (Or.inl ⟨by rfl, ?_⟩) hHeld ?_
    rotate_left
    · (intro w hS; go_simp; try with_reducible rfl)
    try simp only [Act.put, List.setIfInBounds_toArray, List.set_cons_zero, List.set_cons_succ]
    try rw [hmin]
    refine wpAnyH_take (i := 8) (oi := ({ dst := some 52, op := Op.binOp BinOp.eql 3 (Operand.tmp 44) (Operand.tmp 51) 3, type := 4, pos := _, after := #[{ on := 0, ground := Ground.data }, { on := 7, ground := Ground.data }], guard := none } : Oper)) (v := ?_) rfl (by kernel_rfl) (by kernel_rfl) (by kernel_rfl) (fun _ _ _ h => h) (Or.inl ⟨by rfl, ?_⟩) hHeld ?_
    rotate_left
    · (intro w hS; go_simp; try with_reducible rfl)
    try simp only [Act.put, List.setIfInBounds_toArray, List.set_cons_zero, List.set_cons_succ]
    try rw [heq]
    refine wpAnyH_take (i := 9) (oi := ({ dst := some 53, op := Op.move (Operand.tmp 52), type := 4, pos := _, after := #[{ on := 8, ground := Ground.data }], guard := none } : Oper)) (v := ?_) rfl (by kernel_rfl) (by kernel_rfl) (by kernel_rfl) (fun _ _ _ h => h) (Or.inl ⟨by rfl, ?_⟩) hHeld ?_
    rotate_left
    · (intro w hS; go_simp; try with_reducible rfl)
    try simp only [Act.put, List.setIfInBounds_toArray, List.set_cons_zero, List.set_cons_succ]
    refine wpAnyH_take (i := 10) (oi := ({ dst := some 54, op := Op.load 22 (Operand.tmp 5), type := 22, pos := _, after := #[{ on := 9, ground := Ground.guard }], guard := some (9, true) } : Oper)) (v := ?_) rfl (by kernel_rfl) (by kernel_rfl) (by kernel_rfl) (fun _ _ _ h => h) (Or.inl ⟨by rfl, ?_⟩) hHeld ?_
    rotate_left
    · (intro w hS; go_simp; try with_reducible rfl)
    try simp only [Act.put, List.setIfInBounds_toArray, List.set_cons_zero, List.set_cons_succ]
    refine wpAnyH_take (i := 11) (oi := ({ dst := some 55, op := Op.load 22 (Operand.tmp 2), type := 22, pos := _, after := #[{ on := 9, ground := Ground.guard }], guard := some (9, true) } : Oper)) (v := ?_) rfl (by kernel_rfl) (by kernel_rfl) (by kernel_rfl) (fun _ _ _ h => h) (Or.inl ⟨by rfl, ?_⟩) hHeld ?_
    rotate_left
    · (intro w hS; go_simp; try with_reducible rfl)
    try simp only [Act.put, List.setIfInBounds_toArray, List.set_cons_zero, List.set_cons_succ]
    refine wpAnyH_take (i := 12) (oi := ({ dst := some 56, op := Op.load 3 (Operand.tmp 6), type := 3, pos := _, after := #[{ on := 9, ground := Ground.guard }], guard := some (9, true) } : Oper)) (v := ?_) rfl (by kernel_rfl) (by kernel_rfl) (by kernel_rfl) (fun _ _ _ h => h) (Or.inl ⟨by rfl, ?_⟩) hHeld ?_
    rotate_left
    · (intro w hS; go_simp; try with_reducible rfl)
    try simp only [Act.put, List.setIfInBounds_toArray, List.set_cons_zero, List.set_cons_succ]
    refine wpAnyH_take (i := 13) (oi := ({ dst := some 57, op := Op.binOp BinOp.mul 3 (Operand.const (Value.int IntKind.i64 48)) (Operand.tmp 56) 3, type := 3, pos := _, after := #[{ on := 12, ground := Ground.data }, { on := 9, ground := Ground.guard }], guard := some (9, true) } : Oper)) (v := ?_) rfl (by kernel_rfl) (by kernel_rfl) (by kernel_rfl) (fun _ _ _ h => h) (Or.inl ⟨by rfl, ?_⟩) hHeld ?_
    rotate_left
    · (intro w hS; go_simp; try with_reducible rfl)
    try simp only [Act.put, List.setIfInBounds_toArray, List.set_cons_zero, List.set_cons_succ]
    try rw [hw4]
    refine wpAnyH_take (i := 14) (oi := ({ dst := some 58, op := Op.slice 22 (Operand.tmp 55) none (some (Operand.tmp 57)) none, type := 22, pos := _, after := #[{ on := 11, ground := Ground.data }, { on := 13, ground := Ground.data }, { on := 9, ground := Ground.guard }], guard := some (9, true) } : Oper)) (v := ?_) rfl (by kernel_rfl) (by kernel_rfl) (by kernel_rfl) (fun _ _ _ h => h) (Or.inl ⟨by rfl, ?_⟩) hHeld ?_
    rotate_left
    · (intro w hS; go_simp; try with_reducible rfl)
    try simp only [Act.put, List.setIfInBounds_toArray, List.set_cons_zero, List.set_cons_succ]
    refine wpAnyH_ready (rs := [15]) (by kernel_rfl) (by simp) ?_
    refine AllReadyH.cons (o := ({ dst := some 59, op := Op.call { callee := Callee.value (Operand.func 14), args := #[Operand.tmp 54, Operand.tmp 58], argTypes := #[22, 22] }, type := 4, pos := _, after := #[{ on := 10, ground := Ground.data }, { on := 14, ground := Ground.data }, { on := 9, ground := Ground.chain }, { on := 9, ground := Ground.guard }], guard := some (9, true) } : Oper)) rfl (fun K hK => ?_) AllReadyH.nil
    refine step_call (sc) (enters_of Try.func14 (by kernel_rfl) rfl) _ _ rfl rfl rfl ?_
    rintro e w9 ⟨rfl, b9⟩
    have r9 : Boxed w9 (w.heap.size + 1 + 1) 4 (.bool false) := boxed_below (W := W.drew) (show Boxed W.drew (w.heap.size + 1 + 1) 4 (.bool false) from I8.rs) b9 I8.rs.lt
    have c9 := r9.cell
    have f9 := r9.frozen
    refine ⟨_, rfl, hK.out _ _ ⟨(b9.cell (p := ⟨q, 0, none⟩) hrow.lt).trans k8, (b9.cell (p := ⟨q + 1, 0, none⟩) I8.cnt.lt).trans n8, (b9.cell (p := ⟨w.heap.size, 0, none⟩) I8.b.lt).trans b8, (b9.cell (p := ⟨w.heap.size + 1, 0, none⟩) I8.st.lt).trans s8⟩ (fun hHeld => ?_)⟩
    clear hK K
    try simp only [Act.put, List.setIfInBounds_toArray, List.set_cons_zero, List.set_cons_succ]
    refine wpAnyH_take (i := 16) (oi := ({ dst := some 60, op := Op.pick (Operand.tmp 53) (Operand.tmp 59) (Operand.const (Value.bool false)), type := 4, pos := _, after := #[{ on := 9, ground := Ground.data }, { on := 15, ground := Ground.data }], guard := none } : Oper)) (v := ?_) rfl (by kernel_rfl) (by kernel_rfl) (by kernel_rfl) (fun _ _ _ h => h) (Or.inl ⟨by rfl, ?_⟩) hHeld ?_
    rotate_left
    · (intro w hS; go_simp; try with_reducible rfl)
    try simp only [Act.put, List.setIfInBounds_toArray, List.set_cons_zero, List.set_cons_succ]
    refine wpAnyH_ready (rs := [17]) (by kernel_rfl) (by simp) ?_
    refine AllReadyH.cons (o := ({ dst := none, op := Op.store 4 (Operand.tmp 4) (Operand.tmp 60), type := 0, pos := _, after := #[{ on := 16, ground := Ground.data }, { on := 15, ground := Ground.chain }, { on := 0, ground := Ground.phase }, { on := 1, ground := Ground.phase }, { on := 2, ground := Ground.phase }, { on := 3, ground := Ground.phase }, { on := 4, ground := Ground.phase }, { on := 5, ground := Ground.phase }, { on := 6, ground := Ground.phase }, { on := 7, ground := Ground.phase }, { on := 8, ground := Ground.phase }, { on := 9, ground := Ground.phase }, { on := 10, ground := Ground.phase }, { on := 11, ground := Ground.phase }, { on := 12, ground := Ground.phase }, { on := 13, ground := Ground.phase }, { on := 14, ground := Ground.phase }, { on := 15, ground := Ground.phase }, { on := 16, ground := Ground.phase }], guard := none } : Oper)) rfl (fun K hK => ?_) AllReadyH.nil
    go_simp
    skip
    refine hK.out _ _ ⟨cell_set_other ((b9.cell (p := ⟨q, 0, none⟩) hrow.lt).trans k8) (by show q ≠ w.heap.size + 1 + 1; omega), cell_set_other ((b9.cell (p := ⟨q + 1, 0, none⟩) I8.cnt.lt).trans n8) (by show q + 1 ≠ w.heap.size + 1 + 1; omega), cell_set_other ((b9.cell (p := ⟨w.heap.size, 0, none⟩) I8.b.lt).trans b8) (by show w.heap.size ≠ w.heap.size + 1 + 1; omega), cell_set_other ((b9.cell (p := ⟨w.heap.size + 1, 0, none⟩) I8.st.lt).trans s8) (by show w.heap.size + 1 ≠ w.heap.size + 1 + 1; omega)⟩ (fun hHeld => ?_)
    clear hK K
    try simp only [Act.put, List.setIfInBounds_toArray, List.set_cons_zero, List.set_cons_succ]
    refine wpAnyH_done (by kernel_rfl) ?_ _
    skip
    go_wp2
    refine cells_fin _ D _ w ?_ ?_ ?_ ?_ ?_
    · rfl
    · exact r9
    · exact (b9.block D hDlt).trans hd
    · exact I8.bel.drew.trans (b9.mono I8.bel.size)
    · omega
  have hw3 : w.heap.size ≤ W3.heap.size := by omega
  refine (wpIn_wide (n := 3)).1 ?_
  refine wpIn_rangeFunc_ownH (α := Ix48 zs) rfl (by omega) (gf := 24) (lb := #[.pointer (some ⟨Bp, 0, none⟩)]) rfl trivial (enters_of Try.func24 (by kernel_rfl) rfl)
    (cells_stops (3 - 1) (by omega) Bp g len c3 a3 zs (by omega) W3 hBp hG hc3 hg2) Kq.trans (Kq.put hg2) (Below.refl _ _) (fun _ => rfl)
    (fun pre W => (∃ v, Boxed W q 22 v ∧ W.ownsRow W3.heap.size 5 1 v (48 * pre.length) (vals (catN zs (pre.map (·.1)))) ∧ True) ∧ Mem w.heap.size q w a len cap stop pre.length W ∧ W3.heap.size ≤ W.heap.size ∧ pre.length ≤ stop)
    (fun cd pre W => (cd = .exit 0 ∧ (∃ v, Boxed W q 22 v ∧ W.ownsRow W3.heap.size 5 1 v (48 * pre.length) (vals (catN zs (pre.map (·.1)))) ∧ True) ∧ Mem w.heap.size q w a len cap stop pre.length W ∧ W3.heap.size ≤ W.heap.size ∧ pre.length = stop + 1) ∨ (cd = .ret ∧ ¬ pre.map (·.1) = List.range pre.length))
    (fun pre X Y row hh hg hr => ⟨(Own.from (holdsRow_own W3.heap.size q 22 5 1 (fun (pre : List (Ix48 zs)) => 48 * pre.length) (fun pre => vals (catN zs (pre.map (·.1)))) (fun _ _ => True)) _) pre X Y row hh.1 hg hr, hh.2.1.grown hg (Nat.le_refl _) hw3 hr, Nat.le_trans hh.2.2.1 hg.size, hh.2.2.2⟩)
    (fun cd pre X Y row hh hg hr => by
      rcases hh with ⟨h1, h2, h3, h4, h5⟩ | hh
      · exact .inl ⟨h1, (Own.from (holdsRow_own W3.heap.size q 22 5 1 (fun (pre : List (Ix48 zs)) => 48 * pre.length) (fun pre => vals (catN zs (pre.map (·.1)))) (fun _ _ => True)) _) pre X Y row h2 hg hr, h3.grown hg (Nat.le_refl _) hw3 hr, Nat.le_trans h4 hg.size, h5⟩
      · exact .inr hh)
    ⟨⟨_, kx, World.ownsRow_nil _ _ _ _, trivial⟩, I0, Nat.le_refl _, Nat.zero_le _⟩
    (fun x a' W => ∃ Bx, W3.heap.size ≤ Bx ∧ BK W Bx (payV (chunk zs x.1)) 40 ∧ a' = { tmps := #[.slice a len cap, .int .u8 (stop : Int), .pointer (some ⟨w.heap.size, 0, none⟩), .pointer (some ⟨w.heap.size + 1, 0, none⟩), .pointer (some ⟨w.heap.size + 1 + 1, 0, none⟩), .pointer (some ⟨q, 0, none⟩), .pointer (some ⟨q + 1, 0, none⟩), .pointer (some ⟨Bx, 0, none⟩), .bool (((zs.length - 48 * x.1 : Nat) : Int) == 48), .bool true, .bool false, .bool false, .slice a len cap, .int .i64 (len : Int), .bool false, .bool false, undef, .slice a len cap, .func (.func 24) #[] #[.pointer (some ⟨Bp, 0, none⟩)], .agg (payV (chunk zs x.1)), .bool (((zs.length - 48 * x.1 : Nat) : Int) == 48), undef, undef, undef, undef, undef, undef, undef, undef, undef, undef, undef, undef, undef, undef, undef, undef, undef, undef, undef, undef, undef, undef, undef, undef, undef, undef, undef, undef, undef, undef, undef, undef, undef, undef, undef, undef, undef, undef, undef, undef], defers := [] })
    (fun x a' u X Y row hs hgr hr => by
      obtain ⟨Bx, h1, h2, h3⟩ := hs
      refine ⟨Bx, h1, ?_, h3⟩
      refine (hgr.block Bx h2.lt (fun e => ?_)).trans h2
      obtain ⟨_, o, ho, hc⟩ := hr Bx e.symm
      rw [show X.heap[Bx]? = _ from h2] at ho; cases ho; cases hc) ?assign ?body ?done ?stop
  case assign =>
    rintro l pre x W K ⟨⟨v, hv, hrow, _⟩, hM, hs, hps⟩ hK
    have hcl := chunk_len x.2
    gi_wp2_with (with_reducible show wpListIn _ _ _ _ _ (Oper.mk _ (Op.alloc 40) _ _ _ _ :: _) _ _; revert hcl)
    intro hcl
    refine wpListIn_def rfl rfl rfl rfl rfl rfl zero40 (by rw [size24, payV_size, hcl]) (by rw [payV_size, payV_size, hcl]; simp [zer]) (payV_one _) ?_
    (try simp only [Act.put, List.setIfInBounds_toArray, List.set_cons_zero, List.set_cons_succ, World.size_alloc])
    have A1 : Below W.heap.size W (W.alloc (.cells (payV (chunk zs x.1)) 40)) := (Below.refl _ W).alloc (Nat.le_refl _) _
    have K1 := bk_new W (payV (chunk zs x.1)) 40
    have hal := hrow.alloc (.cells (payV (chunk zs x.1)) 40)
    have hv2 := hv.alloc (.cells (payV (chunk zs x.1)) 40)
    have hM2 := hM.below A1 (by omega) (by omega)
    have hs2 : W3.heap.size ≤ (W.alloc (.cells (payV (chunk zs x.1)) 40)).heap.size := by rw [World.size_alloc]; omega
    have hko : KeepsFrom W3.heap.size W (W.alloc (.cells (payV (chunk zs x.1)) 40)) := (KeepsOthers.alloc _ _).from _
    have hkq : Kq g W (W.alloc (.cells (payV (chunk zs x.1)) 40)) := Kq.of A1 (by omega)
    generalize hWA : W.alloc (.cells (payV (chunk zs x.1)) 40) = WA at *
    gi_wp2
    exact hK _ _ hko hkq ⟨⟨v, hv2, hal, trivial⟩, hM2, hs2, hps⟩ ⟨W.heap.size, hs, K1, rfl⟩
  case body =>
    rintro l pre x a' W hl _ ⟨⟨v, hv, hrow, _⟩, hM, hs, hps⟩ ⟨Bx, hBx, bX, rfl⟩ hlt
    have HG : Hid ((pre ++ [x]).map (·.1) = List.range (pre ++ [x]).length → (((zs.length - 48 * x.1 : Nat) : Int) == 48) = (decide (len % 48 = 0) && decide (pre.length + 1 = len / 48))) := by
      intro h
      refine last_good LZ.out hlt ?_
      rw [List.map_append, List.length_append, List.length_singleton, List.range_succ] at h
      have h2 := (List.append_inj' h rfl).2
      simpa using h2
    have hcl := chunk_len x.2
    have HC : Hid (catN zs ((pre ++ [x]).map (·.1)) = catN zs (pre.map (·.1)) ++ chunk zs x.1) := by show _ = _; rw [List.map_append]; exact catN_snoc _ _ _
    have hcatl := catN_len pre
    have HL : Hid ((pre ++ [x]).length = pre.length + 1) := by show _ = _; simp
    have hPlen : pre.length ≤ 8 := by have := LZ.out; omega
    have HN : Hid ((len : Int) / 48 = ((len / 48 : Nat) : Int)) := by show _ = _; simp
    generalize hbx : (((zs.length - 48 * x.1 : Nat) : Int) == 48) = Lx at *
    obtain ⟨P, hP⟩ : ∃ P, pre.length = P := ⟨_, rfl⟩
    rw [hP] at HG hrow hM hps hlt hcatl hPlen HL
    generalize catN zs (pre.map (·.1)) = ct at *
    generalize chunk zs x.1 = ck at *
    have cb := hM.b.cell
    have cn := hM.cnt.cell
    have cs := hM.st.cell
    have cr := hM.rs.cell
    have fr := hM.rs.frozen
    have co := hv.cell
    have fo := hv.frozen
    have fn := hM.cnt.frozen
    have x0 := bX
    -- the way out where what is told is wrong
    have KR : KeepsFrom W3.heap.size W (W.setCell ⟨w.heap.size + 1 + 1, 0, none⟩ (.bool false)) := (KeepsOthers.setCell _ _ _).from _
    have hmx : Try.prog.follows .mixedOrders = true := by kernel_rfl
    have mid : ∀ Cx : Bool, Cx = (decide (len % 48 = 0) && decide (P + 1 = len / 48)) → Lx ≠ Cx → ¬ (pre ++ [x]).map (·.1) = List.range (pre ++ [x]).length := fun Cx h1 h2 h3 => h2 (by rw [h1]; exact HG.out h3)
    clear HG hbx hBp hG I0 kx h1
    by_cases hm : len % 48 = 0
    · have qa : ((len : Int) % 48 == 0) = true := by rw [beq_iff_eq]; omega
      by_cases he : P + 1 = len / 48
      · have qb : ((P : Int) == (len : Int) / 48 - 1) = true := by rw [beq_iff_eq]; omega
        have mid2 := mid true (by simp [hm, he])
        clear mid hm he
        cases Lx with
        | false =>
          gi_wp2
          exact ⟨KR, .inr ⟨rfl, mid2 (by decide)⟩⟩
        | true =>
          clear mid2
          gi_wp2
          obtain ⟨i0, hi, hz0, hz1, hz2⟩ := info_parts info5
          obtain ⟨v', w1, hrun, hrow1, hgr, _⟩ := run_append_own (P := Try.prog) W.drew W3.heap.size 22 22 5 i0 (.int .u8 0) 1 1 Try.underlying22 hi hz0 hz1 hz2 rfl (by decide) v (48 * P) (vals ct) hrow ⟨Bx, 0, none⟩ 48 48 (vals ck) (by rw [vals_length, hcl]) (fun j u hu => by rw [Addr.add_lit]; exact bX.payRange j u hu) (fun u hu => by simp only [vals, List.mem_map] at hu; obtain ⟨y, _, rfl⟩ := hu; rfl) (by unfold maxLen; omega) (by omega) hs
          obtain ⟨a9, c9, rfl, _⟩ := row_own (n := 48 * P + 48) (xs := ct ++ ck) (by rw [vals_append]; exact hrow1) (by rw [List.length_append, hcatl, hcl])
          have hgW : W.grownBy w1 v.ownBlock := ⟨hgr.os, hgr.tape, hgr.output, hgr.size, hgr.block⟩
          have hB1 := below_grown hs hrow hgW
          have KF1 : KeepsFrom W3.heap.size W w1 := keeps_grown hrow hgW
          have KQ1 : Kq g W w1 := Kq.of hB1 hg2
          have hM1 := hM.below hB1 (by omega) (by omega)
          have hv1 := boxed_below hv hB1 (by omega)
          have hs1 := Nat.le_trans hs hB1.size
          have co1 := hv1.cell
          have fo1 := hv1.frozen
          have cn1 := hM1.cnt.cell
          have fn1 := hM1.cnt.frozen
          have cs1 := hM1.st.cell
          have HST := hM1.step (Value.slice a9 (48 * P + 48) c9) hv1 zs0
          have HROW : Hid (((w1.setCell ⟨q, 0, none⟩ (Value.slice a9 (48 * P + 48) c9)).setCell ⟨q + 1, 0, none⟩ (.int .i64 ((P : Int) + 1))).ownsRow W3.heap.size 5 1 (Value.slice a9 (48 * P + 48) c9) (48 * (P + 1)) (vals (ct ++ ck))) := by
            have := row_set (u := .int .i64 ((P : Int) + 1)) (row_set (u := (Value.slice a9 (48 * P + 48) c9)) hrow1 (p := ⟨q, 0, none⟩) (by show q < W3.heap.size; omega)) (p := ⟨q + 1, 0, none⟩) (by show q + 1 < W3.heap.size; omega)
            show World.ownsRow _ _ _ _ _ _ _
            rw [vals_append]; exact this
          have HKF : Hid (KeepsFrom W3.heap.size W ((w1.setCell ⟨q, 0, none⟩ (Value.slice a9 (48 * P + 48) c9)).setCell ⟨q + 1, 0, none⟩ (.int .i64 ((P : Int) + 1)))) := KF1.trans (((KeepsOthers.setCell _ _ _).trans (KeepsOthers.setCell _ _ _)).from _)
          have HKQ : Hid (Kq g W ((w1.setCell ⟨q, 0, none⟩ (Value.slice a9 (48 * P + 48) c9)).setCell ⟨q + 1, 0, none⟩ (.int .i64 ((P : Int) + 1)))) := KQ1.trans (Kq.set2 _ _ _ hgq)
          have HSZ : Hid (W3.heap.size ≤ ((w1.setCell ⟨q, 0, none⟩ (Value.slice a9 (48 * P + 48) c9)).setCell ⟨q + 1, 0, none⟩ (.int .i64 ((P : Int) + 1))).heap.size) := by show _ ≤ _; simp [World.setCell]; exact hs1
          have HST : Hid (Mem w.heap.size q w a len cap stop (P + 1) ((w1.setCell ⟨q, 0, none⟩ (Value.slice a9 (48 * P + 48) c9)).setCell ⟨q + 1, 0, none⟩ (.int .i64 ((P : Int) + 1))) ∧ Boxed ((w1.setCell ⟨q, 0, none⟩ (Value.slice a9 (48 * P + 48) c9)).setCell ⟨q + 1, 0, none⟩ (.int .i64 ((P : Int) + 1))) q 22 (Value.slice a9 (48 * P + 48) c9)) := HST
          clear hrow1 hgr hgW hB1 KF1 KQ1 hM1 hv1 hs1 KR hM hrow
          refine wpIn_region_any hmx ?_
          change wpAnyIn _ _ _ _ _ _ _ _ _ (World.drew _)
          refine wpAnyIn_ready (rs := [0, 1]) (by kernel_rfl) (by simp) ?_
          refine AllReadyIn.cons rfl (fun K hK => ?_) (AllReadyIn.cons rfl (fun K hK => ?_) AllReadyIn.nil)
          · go_simp
            refine hK _ _ ?_
            clear hK K
            refine wpAnyIn_ready (rs := [1]) (by kernel_rfl) (by simp) ?_
            refine AllReadyIn.cons rfl (fun K hK => ?_) AllReadyIn.nil
            go_simp
            refine hK _ _ ?_
            clear hK K
            refine wpAnyIn_ready (rs := [2]) (by kernel_rfl) (by simp) ?_
            refine AllReadyIn.cons rfl (fun K hK => ?_) AllReadyIn.nil
            refine stepIn_app hrun _ _ rfl rfl rfl rfl rfl ?_
            refine hK _ _ ?_
            clear hK K
            (try simp only [Act.put, List.setIfInBounds_toArray, List.set_cons_zero, List.set_cons_succ])
            refine wpAnyIn_ready (rs := [3]) (by kernel_rfl) (by simp) ?_
            refine AllReadyIn.cons rfl (fun K hK => ?_) AllReadyIn.nil
            go_simp
            refine hK _ _ ?_
            clear hK K
            refine wpAnyIn_done (by kernel_rfl) ?_ _
            by_cases hps2 : P = stop
            · have qd : decide ((stop : Int) < (P : Int) + 1) = true := by simp; omega
              have HPS : Hid (P = stop) := hps2
              clear hps2
              gi_wp2
              exact ⟨HKF.out, .inl ⟨rfl, ⟨(Value.slice a9 (48 * P + 48) c9), HST.out.2, by rw [HC.out, HL.out]; exact HROW.out, trivial⟩, by rw [HL.out]; exact HST.out.1, HSZ.out, by rw [HL.out, HPS.out]⟩⟩
            · have qd : decide ((stop : Int) < (P : Int) + 1) = false := by simp; omega
              have HPS : Hid (P + 1 ≤ stop) := by show _ ≤ _; omega
              clear hps2
              gi_wp2
              exact ⟨HKF.out, HKQ.out, ⟨(Value.slice a9 (48 * P + 48) c9), HST.out.2, by rw [HC.out, HL.out]; exact HROW.out, trivial⟩, by rw [HL.out]; exact HST.out.1, HSZ.out, by rw [HL.out]; exact HPS.out⟩
          · go_simp
            refine hK _ _ ?_
            clear hK K
            refine wpAnyIn_ready (rs := [0]) (by kernel_rfl) (by simp) ?_
            refine AllReadyIn.cons rfl (fun K hK => ?_) AllReadyIn.nil
            go_simp
            refine hK _ _ ?_
            clear hK K
            refine wpAnyIn_ready (rs := [2]) (by kernel_rfl) (by simp) ?_
            refine AllReadyIn.cons rfl (fun K hK => ?_) AllReadyIn.nil
            refine stepIn_app hrun _ _ rfl rfl rfl rfl rfl ?_
            refine hK _ _ ?_
            clear hK K
            (try simp only [Act.put, List.setIfInBounds_toArray, List.set_cons_zero, List.set_cons_succ])
            refine wpAnyIn_ready (rs := [3]) (by kernel_rfl) (by simp) ?_
            refine AllReadyIn.cons rfl (fun K hK => ?_) AllReadyIn.nil
            go_simp
            refine hK _ _ ?_
            clear hK K
            refine wpAnyIn_done (by kernel_rfl) ?_ _
            by_cases hps2 : P = stop
            · have qd : decide ((stop : Int) < (P : Int) + 1) = true := by simp; omega
              have HPS : Hid (P = stop) := hps2
              clear hps2
              gi_wp2
              exact ⟨HKF.out, .inl ⟨rfl, ⟨(Value.slice a9 (48 * P + 48) c9), HST.out.2, by rw [HC.out, HL.out]; exact HROW.out, trivial⟩, by rw [HL.out]; exact HST.out.1, HSZ.out, by rw [HL.out, HPS.out]⟩⟩
            · have qd : decide ((stop : Int) < (P : Int) + 1) = false := by simp; omega
              have HPS : Hid (P + 1 ≤ stop) := by show _ ≤ _; omega
              clear hps2
              gi_wp2
              exact ⟨HKF.out, HKQ.out, ⟨(Value.slice a9 (48 * P + 48) c9), HST.out.2, by rw [HC.out, HL.out]; exact HROW.out, trivial⟩, by rw [HL.out]; exact HST.out.1, HSZ.out, by rw [HL.out]; exact HPS.out⟩
      · have qb : ((P : Int) == (len : Int) / 48 - 1) = false := by rw [beq_eq_false_iff_ne]; omega
        have mid2 := mid false (by simp [he])
        clear mid hm he
        cases Lx with
        | true =>
          gi_wp2
          exact ⟨KR, .inr ⟨rfl, mid2 (by decide)⟩⟩
        | false =>
          clear mid2
          gi_wp2
          obtain ⟨i0, hi, hz0, hz1, hz2⟩ := info_parts info5
          obtain ⟨v', w1, hrun, hrow1, hgr, _⟩ := run_append_own (P := Try.prog) W.drew W3.heap.size 22 22 5 i0 (.int .u8 0) 1 1 Try.underlying22 hi hz0 hz1 hz2 rfl (by decide) v (48 * P) (vals ct) hrow ⟨Bx, 0, none⟩ 48 48 (vals ck) (by rw [vals_length, hcl]) (fun j u hu => by rw [Addr.add_lit]; exact bX.payRange j u hu) (fun u hu => by simp only [vals, List.mem_map] at hu; obtain ⟨y, _, rfl⟩ := hu; rfl) (by unfold maxLen; omega) (by omega) hs
          obtain ⟨a9, c9, rfl, _⟩ := row_own (n := 48 * P + 48) (xs := ct ++ ck) (by rw [vals_append]; exact hrow1) (by rw [List.length_append, hcatl, hcl])
          have hgW : W.grownBy w1 v.ownBlock := ⟨hgr.os, hgr.tape, hgr.output, hgr.size, hgr.block⟩
          have hB1 := below_grown hs hrow hgW
          have KF1 : KeepsFrom W3.heap.size W w1 := keeps_grown hrow hgW
          have KQ1 : Kq g W w1 := Kq.of hB1 hg2
          have hM1 := hM.below hB1 (by omega) (by omega)
          have hv1 := boxed_below hv hB1 (by omega)
          have hs1 := Nat.le_trans hs hB1.size
          have co1 := hv1.cell
          have fo1 := hv1.frozen
          have cn1 := hM1.cnt.cell
          have fn1 := hM1.cnt.frozen
          have cs1 := hM1.st.cell
          have HST := hM1.step (Value.slice a9 (48 * P + 48) c9) hv1 zs0
          have HROW : Hid (((w1.setCell ⟨q, 0, none⟩ (Value.slice a9 (48 * P + 48) c9)).setCell ⟨q + 1, 0, none⟩ (.int .i64 ((P : Int) + 1))).ownsRow W3.heap.size 5 1 (Value.slice a9 (48 * P + 48) c9) (48 * (P + 1)) (vals (ct ++ ck))) := by
            have := row_set (u := .int .i64 ((P : Int) + 1)) (row_set (u := (Value.slice a9 (48 * P + 48) c9)) hrow1 (p := ⟨q, 0, none⟩) (by show q < W3.heap.size; omega)) (p := ⟨q + 1, 0, none⟩) (by show q + 1 < W3.heap.size; omega)
            show World.ownsRow _ _ _ _ _ _ _
            rw [vals_append]; exact this
          have HKF : Hid (KeepsFrom W3.heap.size W ((w1.setCell ⟨q, 0, none⟩ (Value.slice a9 (48 * P + 48) c9)).setCell ⟨q + 1, 0, none⟩ (.int .i64 ((P : Int) + 1)))) := KF1.trans (((KeepsOthers.setCell _ _ _).trans (KeepsOthers.setCell _ _ _)).from _)
          have HKQ : Hid (Kq g W ((w1.setCell ⟨q, 0, none⟩ (Value.slice a9 (48 * P + 48) c9)).setCell ⟨q + 1, 0, none⟩ (.int .i64 ((P : Int) + 1)))) := KQ1.trans (Kq.set2 _ _ _ hgq)
          have HSZ : Hid (W3.heap.size ≤ ((w1.setCell ⟨q, 0, none⟩ (Value.slice a9 (48 * P + 48) c9)).setCell ⟨q + 1, 0, none⟩ (.int .i64 ((P : Int) + 1))).heap.size) := by show _ ≤ _; simp [World.setCell]; exact hs1
          have HST : Hid (Mem w.heap.size q w a len cap stop (P + 1) ((w1.setCell ⟨q, 0, none⟩ (Value.slice a9 (48 * P + 48) c9)).setCell ⟨q + 1, 0, none⟩ (.int .i64 ((P : Int) + 1))) ∧ Boxed ((w1.setCell ⟨q, 0, none⟩ (Value.slice a9 (48 * P + 48) c9)).setCell ⟨q + 1, 0, none⟩ (.int .i64 ((P : Int) + 1))) q 22 (Value.slice a9 (48 * P + 48) c9)) := HST
          clear hrow1 hgr hgW hB1 KF1 KQ1 hM1 hv1 hs1 KR hM hrow
          refine wpIn_region_any hmx ?_
          change wpAnyIn _ _ _ _ _ _ _ _ _ (World.drew _)
          refine wpAnyIn_ready (rs := [0, 1]) (by kernel_rfl) (by simp) ?_
          refine AllReadyIn.cons rfl (fun K hK => ?_) (AllReadyIn.cons rfl (fun K hK => ?_) AllReadyIn.nil)
          · go_simp
            refine hK _ _ ?_
            clear hK K
            refine wpAnyIn_ready (rs := [1]) (by kernel_rfl) (by simp) ?_
            refine AllReadyIn.cons rfl (fun K hK => ?_) AllReadyIn.nil
            go_simp
            refine hK _ _ ?_
            clear hK K
            refine wpAnyIn_ready (rs := [2]) (by kernel_rfl) (by simp) ?_
            refine AllReadyIn.cons rfl (fun K hK => ?_) AllReadyIn.nil
            refine stepIn_app hrun _ _ rfl rfl rfl rfl rfl ?_
            refine hK _ _ ?_
            clear hK K
            (try simp only [Act.put, List.setIfInBounds_toArray, List.set_cons_zero, List.set_cons_succ])
            refine wpAnyIn_ready (rs := [3]) (by kernel_rfl) (by simp) ?_
            refine AllReadyIn.cons rfl (fun K hK => ?_) AllReadyIn.nil
            go_simp
            refine hK _ _ ?_
            clear hK K
            refine wpAnyIn_done (by kernel_rfl) ?_ _
            by_cases hps2 : P = stop
            · have qd : decide ((stop : Int) < (P : Int) + 1) = true := by simp; omega
              have HPS : Hid (P = stop) := hps2
              clear hps2
              gi_wp2
              exact ⟨HKF.out, .inl ⟨rfl, ⟨(Value.slice a9 (48 * P + 48) c9), HST.out.2, by rw [HC.out, HL.out]; exact HROW.out, trivial⟩, by rw [HL.out]; exact HST.out.1, HSZ.out, by rw [HL.out, HPS.out]⟩⟩
            · have qd : decide ((stop : Int) < (P : Int) + 1) = false := by simp; omega
              have HPS : Hid (P + 1 ≤ stop) := by show _ ≤ _; omega
              clear hps2
              gi_wp2
              exact ⟨HKF.out, HKQ.out, ⟨(Value.slice a9 (48 * P + 48) c9), HST.out.2, by rw [HC.out, HL.out]; exact HROW.out, trivial⟩, by rw [HL.out]; exact HST.out.1, HSZ.out, by rw [HL.out]; exact HPS.out⟩
          · go_simp
            refine hK _ _ ?_
            clear hK K
            refine wpAnyIn_ready (rs := [0]) (by kernel_rfl) (by simp) ?_
            refine AllReadyIn.cons rfl (fun K hK => ?_) AllReadyIn.nil
            go_simp
            refine hK _ _ ?_
            clear hK K
            refine wpAnyIn_ready (rs := [2]) (by kernel_rfl) (by simp) ?_
            refine AllReadyIn.cons rfl (fun K hK => ?_) AllReadyIn.nil
            refine stepIn_app hrun _ _ rfl rfl rfl rfl rfl ?_
            refine hK _ _ ?_
            clear hK K
            (try simp only [Act.put, List.setIfInBounds_toArray, List.set_cons_zero, List.set_cons_succ])
            refine wpAnyIn_ready (rs := [3]) (by kernel_rfl) (by simp) ?_
            refine AllReadyIn.cons rfl (fun K hK => ?_) AllReadyIn.nil
            go_simp
            refine hK _ _ ?_
            clear hK K
            refine wpAnyIn_done (by kernel_rfl) ?_ _
            by_cases hps2 : P = stop
            · have qd : decide ((stop : Int) < (P : Int) + 1) = true := by simp; omega
              have HPS : Hid (P = stop) := hps2
              clear hps2
              gi_wp2
              exact ⟨HKF.out, .inl ⟨rfl, ⟨(Value.slice a9 (48 * P + 48) c9), HST.out.2, by rw [HC.out, HL.out]; exact HROW.out, trivial⟩, by rw [HL.out]; exact HST.out.1, HSZ.out, by rw [HL.out, HPS.out]⟩⟩
            · have qd : decide ((stop : Int) < (P : Int) + 1) = false := by simp; omega
              have HPS : Hid (P + 1 ≤ stop) := by show _ ≤ _; omega
              clear hps2
              gi_wp2
              exact ⟨HKF.out, HKQ.out, ⟨(Value.slice a9 (48 * P + 48) c9), HST.out.2, by rw [HC.out, HL.out]; exact HROW.out, trivial⟩, by rw [HL.out]; exact HST.out.1, HSZ.out, by rw [HL.out]; exact HPS.out⟩
    · have qa : ((len : Int) % 48 == 0) = false := by rw [beq_eq_false_iff_ne]; omega
      have mid2 := mid false (by simp [hm])
      clear mid hm
      cases Lx with
      | true =>
        gi_wp2
        exact ⟨KR, .inr ⟨rfl, mid2 (by decide)⟩⟩
      | false =>
        clear mid2
        gi_wp2
        obtain ⟨i0, hi, hz0, hz1, hz2⟩ := info_parts info5
        obtain ⟨v', w1, hrun, hrow1, hgr, _⟩ := run_append_own (P := Try.prog) W.drew W3.heap.size 22 22 5 i0 (.int .u8 0) 1 1 Try.underlying22 hi hz0 hz1 hz2 rfl (by decide) v (48 * P) (vals ct) hrow ⟨Bx, 0, none⟩ 48 48 (vals ck) (by rw [vals_length, hcl]) (fun j u hu => by rw [Addr.add_lit]; exact bX.payRange j u hu) (fun u hu => by simp only [vals, List.mem_map] at hu; obtain ⟨y, _, rfl⟩ := hu; rfl) (by unfold maxLen; omega) (by omega) hs
        obtain ⟨a9, c9, rfl, _⟩ := row_own (n := 48 * P + 48) (xs := ct ++ ck) (by rw [vals_append]; exact hrow1) (by rw [List.length_append, hcatl, hcl])
        have hgW : W.grownBy w1 v.ownBlock := ⟨hgr.os, hgr.tape, hgr.output, hgr.size, hgr.block⟩
        have hB1 := below_grown hs hrow hgW
        have KF1 : KeepsFrom W3.heap.size W w1 := keeps_grown hrow hgW
        have KQ1 : Kq g W w1 := Kq.of hB1 hg2
        have hM1 := hM.below hB1 (by omega) (by omega)
        have hv1 := boxed_below hv hB1 (by omega)
        have hs1 := Nat.le_trans hs hB1.size
        have co1 := hv1.cell
        have fo1 := hv1.frozen
        have cn1 := hM1.cnt.cell
        have fn1 := hM1.cnt.frozen
        have cs1 := hM1.st.cell
        have HST := hM1.step (Value.slice a9 (48 * P + 48) c9) hv1 zs0
        have HROW : Hid (((w1.setCell ⟨q, 0, none⟩ (Value.slice a9 (48 * P + 48) c9)).setCell ⟨q + 1, 0, none⟩ (.int .i64 ((P : Int) + 1))).ownsRow W3.heap.size 5 1 (Value.slice a9 (48 * P + 48) c9) (48 * (P + 1)) (vals (ct ++ ck))) := by
          have := row_set (u := .int .i64 ((P : Int) + 1)) (row_set (u := (Value.slice a9 (48 * P + 48) c9)) hrow1 (p := ⟨q, 0, none⟩) (by show q < W3.heap.size; omega)) (p := ⟨q + 1, 0, none⟩) (by show q + 1 < W3.heap.size; omega)
          show World.ownsRow _ _ _ _ _ _ _
          rw [vals_append]; exact this
        have HKF : Hid (KeepsFrom W3.heap.size W ((w1.setCell ⟨q, 0, none⟩ (Value.slice a9 (48 * P + 48) c9)).setCell ⟨q + 1, 0, none⟩ (.int .i64 ((P : Int) + 1)))) := KF1.trans (((KeepsOthers.setCell _ _ _).trans (KeepsOthers.setCell _ _ _)).from _)
        have HKQ : Hid (Kq g W ((w1.setCell ⟨q, 0, none⟩ (Value.slice a9 (48 * P + 48) c9)).setCell ⟨q + 1, 0, none⟩ (.int .i64 ((P : Int) + 1)))) := KQ1.trans (Kq.set2 _ _ _ hgq)
        have HSZ : Hid (W3.heap.size ≤ ((w1.setCell ⟨q, 0, none⟩ (Value.slice a9 (48 * P + 48) c9)).setCell ⟨q + 1, 0, none⟩ (.int .i64 ((P : Int) + 1))).heap.size) := by show _ ≤ _; simp [World.setCell]; exact hs1
        have HST : Hid (Mem w.heap.size q w a len cap stop (P + 1) ((w1.setCell ⟨q, 0, none⟩ (Value.slice a9 (48 * P + 48) c9)).setCell ⟨q + 1, 0, none⟩ (.int .i64 ((P : Int) + 1))) ∧ Boxed ((w1.setCell ⟨q, 0, none⟩ (Value.slice a9 (48 * P + 48) c9)).setCell ⟨q + 1, 0, none⟩ (.int .i64 ((P : Int) + 1))) q 22 (Value.slice a9 (48 * P + 48) c9)) := HST
        clear hrow1 hgr hgW hB1 KF1 KQ1 hM1 hv1 hs1 KR hM hrow
        refine wpIn_region_any hmx ?_
        change wpAnyIn _ _ _ _ _ _ _ _ _ (World.drew _)
        refine wpAnyIn_ready (rs := [0, 1]) (by kernel_rfl) (by simp) ?_
        refine AllReadyIn.cons rfl (fun K hK => ?_) (AllReadyIn.cons rfl (fun K hK => ?_) AllReadyIn.nil)
        · go_simp
          refine hK _ _ ?_
          clear hK K
          refine wpAnyIn_ready (rs := [1]) (by kernel_rfl) (by simp) ?_
          refine AllReadyIn.cons rfl (fun K hK => ?_) AllReadyIn.nil
          go_simp
          refine hK _ _ ?_
          clear hK K
          refine wpAnyIn_ready (rs := [2]) (by kernel_rfl) (by simp) ?_
          refine AllReadyIn.cons rfl (fun K hK => ?_) AllReadyIn.nil
          refine stepIn_app hrun _ _ rfl rfl rfl rfl rfl ?_
          refine hK _ _ ?_
          clear hK K
          (try simp only [Act.put, List.setIfInBounds_toArray, List.set_cons_zero, List.set_cons_succ])
          refine wpAnyIn_ready (rs := [3]) (by kernel_rfl) (by simp) ?_
          refine AllReadyIn.cons rfl (fun K hK => ?_) AllReadyIn.nil
          go_simp
          refine hK _ _ ?_
          clear hK K
          refine wpAnyIn_done (by kernel_rfl) ?_ _
          by_cases hps2 : P = stop
          · have qd : decide ((stop : Int) < (P : Int) + 1) = true := by simp; omega
            have HPS : Hid (P = stop) := hps2
            clear hps2
            gi_wp2
            exact ⟨HKF.out, .inl ⟨rfl, ⟨(Value.slice a9 (48 * P + 48) c9), HST.out.2, by rw [HC.out, HL.out]; exact HROW.out, trivial⟩, by rw [HL.out]; exact HST.out.1, HSZ.out, by rw [HL.out, HPS.out]⟩⟩
          · have qd : decide ((stop : Int) < (P : Int) + 1) = false := by simp; omega
            have HPS : Hid (P + 1 ≤ stop) := by show _ ≤ _; omega
            clear hps2
            gi_wp2
            exact ⟨HKF.out, HKQ.out, ⟨(Value.slice a9 (48 * P + 48) c9), HST.out.2, by rw [HC.out, HL.out]; exact HROW.out, trivial⟩, by rw [HL.out]; exact HST.out.1, HSZ.out, by rw [HL.out]; exact HPS.out⟩
        · go_simp
          refine hK _ _ ?_
          clear hK K
          refine wpAnyIn_ready (rs := [0]) (by kernel_rfl) (by simp) ?_
          refine AllReadyIn.cons rfl (fun K hK => ?_) AllReadyIn.nil
          go_simp
          refine hK _ _ ?_
          clear hK K
          refine wpAnyIn_ready (rs := [2]) (by kernel_rfl) (by simp) ?_
          refine AllReadyIn.cons rfl (fun K hK => ?_) AllReadyIn.nil
          refine stepIn_app hrun _ _ rfl rfl rfl rfl rfl ?_
          refine hK _ _ ?_
          clear hK K
          (try simp only [Act.put, List.setIfInBounds_toArray, List.set_cons_zero, List.set_cons_succ])
          refine wpAnyIn_ready (rs := [3]) (by kernel_rfl) (by simp) ?_
          refine AllReadyIn.cons rfl (fun K hK => ?_) AllReadyIn.nil
          go_simp
          refine hK _ _ ?_
          clear hK K
          refine wpAnyIn_done (by kernel_rfl) ?_ _
          by_cases hps2 : P = stop
          · have qd : decide ((stop : Int) < (P : Int) + 1) = true := by simp; omega
            have HPS : Hid (P = stop) := hps2
            clear hps2
            gi_wp2
            exact ⟨HKF.out, .inl ⟨rfl, ⟨(Value.slice a9 (48 * P + 48) c9), HST.out.2, by rw [HC.out, HL.out]; exact HROW.out, trivial⟩, by rw [HL.out]; exact HST.out.1, HSZ.out, by rw [HL.out, HPS.out]⟩⟩
          · have qd : decide ((stop : Int) < (P : Int) + 1) = false := by simp; omega
            have HPS : Hid (P + 1 ≤ stop) := by show _ ≤ _; omega
            clear hps2
            gi_wp2
            exact ⟨HKF.out, HKQ.out, ⟨(Value.slice a9 (48 * P + 48) c9), HST.out.2, by rw [HC.out, HL.out]; exact HROW.out, trivial⟩, by rw [HL.out]; exact HST.out.1, HSZ.out, by rw [HL.out]; exact HPS.out⟩
  case done =>
    rintro D ys W hD hys ⟨⟨v, hv, hrow, _⟩, hM, hs, hps⟩ hK
    have hyl : ys.length = zs.length / 48 := by have := congrArg List.length hys; simpa using this
    rw [hys, catN_range, hyl] at hrow
    rw [hyl] at hM hps
    obtain ⟨a5, c5, rfl, o5⟩ := row_own hrow (by rw [List.length_take]; omega)
    refine TAIL D W _ a5 c5 hM hv o5 (Nat.le_refl _) ?_ hD hK
    rw [if_neg (by omega)]
  case stop =>
    rintro D cd pre W hD ⟨j, hj, hpre⟩ hix hK
    have hpl : pre.length = j := by have := congrArg List.length hpre; simpa using this
    rcases hix with ⟨rfl, ⟨v, hv, hrow, _⟩, hM, hs, hps⟩ | ⟨_, h2⟩
    · refine wpIn_exit ?_
      rw [hpre, catN_range, hpl] at hrow
      rw [hpl] at hM hps
      obtain ⟨a5, c5, rfl, o5⟩ := row_own hrow (by rw [List.length_take]; omega)
      refine TAIL D W _ a5 c5 hM hv o5 hj ?_ hD hK
      split <;> omega
    · exact absurd (by rw [hpre, hpl]) h2
end Go.Proofs.Ytdipffgmjmhjaaa
