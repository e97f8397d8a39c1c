/- Proved here: what conns.New, Len, Get answer. Conditions: as each theorem states them. -/
import Derived.Test.YtgimmaancnlbcaaFi
namespace Go.Proofs.Ytgimmaancnlbcaa
set_option linter.unusedSimpArgs false
set_option linter.unusedVariables false
open Go.RowKit Go.Shelf

theorem wpList_box {P : Program} {w : World} {ops : Array Oper} {rest : List Oper} {o : Oper} {a : Act} {Q : Exit → Act → World → Prop} (hgd : Region.wanted o (yielded ops a.tmps) = true)
    {ty : TypeId} {x : Operand} {C : Array Value} (ho : o.op = .box ty x) (hx : a.eval x = .agg C)
    (h : wpList P ops Q rest (a.put o.dst (.pointer (some ⟨w.heap.size, 0, none⟩))) (w.alloc (.cells C ty))) : wpList P ops Q (o :: rest) a w := by
  refine wpList_val (v := .pointer (some ⟨w.heap.size, 0, none⟩)) (w' := w.alloc (.cells C ty)) hgd ?_ h
  unfold execOp
  simp [ho, hx, Instr.box, newVar, newRow, Result.andThen, Value.cells]
  try rfl
theorem run_buildTab (w : World) (r : Int) : (Instr.build 62 #[(2, .int .i64 r)]).run Try.prog w = .ok (.agg (tabV (List.replicate 64 zeroE) 0 r)) w := by kernel_rfl

theorem wpList_bldt {w : World} {ops : Array Oper} {rest : List Oper} {o : Oper} {a : Act} {Q : Exit → Act → World → Prop} (hgd : Region.wanted o (yielded ops a.tmps) = true)
    {x : Operand} {r : Int} (ho : o.op = .build 62 #[(2, x)]) (hx : a.eval x = .int .i64 r)
    (h : wpList Try.prog ops Q rest (a.put o.dst (.agg (tabV (List.replicate 64 zeroE) 0 r))) w) : wpList Try.prog ops Q (o :: rest) a w :=
  wpList_bld (vs := [(2, .int .i64 r)]) hgd ho (by simp [hx]) (run_buildTab w r) h
/-- How much room there is. -/
def roomN (r : Int) : Nat := (min (max r 0) 64).toNat
theorem roomN_le (r : Int) : roomN r ≤ 64 := by unfold roomN; omega

set_option maxHeartbeats 800000 in
set_option maxRecDepth 100000 in
theorem new_calls (r : Int) (w : World) : Calls Try.prog 10 #[.int .i64 r] w fun e w' => e = .returned (.pointer (some ⟨w.heap.size, 0, none⟩)) ∧ TB w' w.heap.size [] (roomN r) ∧ Below w.heap.size w w' := by
  obtain ⟨m1, h1⟩ : ∃ m1, (if r < 0 then (0 : Int) else r) = m1 := ⟨_, rfl⟩
  obtain ⟨m2, h2⟩ : ∃ m2, (if 64 < m1 then (64 : Int) else m1) = m2 := ⟨_, rfl⟩
  have hm : Hid (m2 = (roomN r : Int)) := by
    show _ = _
    subst h2 h1
    unfold roomN
    split <;> split <;> omega
  go_enter Try.func10, Try.ntmps10
  go_wp2_with (first | (with_reducible show wpList _ _ _ (Oper.mk _ (Op.build 62 _) _ _ _ _ :: Oper.mk _ (Op.box 62 _) _ _ _ _ :: _) _ _; refine wpList_bldt rfl rfl rfl ?_; (try simp only [Act.put, List.setIfInBounds_toArray, List.set_cons_zero, List.set_cons_succ, World.size_alloc]); refine wpList_box rfl rfl rfl ?_; (try simp only [Act.put, List.setIfInBounds_toArray, List.set_cons_zero, List.set_cons_succ, World.size_alloc])))
  go_ret
  rw [hm.out]
  exact ⟨rfl, ⟨⟨List.replicate 64 zeroE, by simp, by simp, bk_new _ _ _⟩, ok_nil (roomN_le r)⟩, below_box _ _⟩

theorem len_nil (w : World) : Calls Try.prog 18 #[.pointer none] w fun e w' => e = .returned (.int .i64 0) ∧ w' = w := by
  go_enter Try.func18, Try.ntmps18
  go_wp2
  go_ret
  exact ⟨rfl, rfl⟩
theorem len_calls {w : World} {b : Nat} {L : List En} {room : Nat} (h : TB w b L room) : Calls Try.prog 18 #[.pointer (some ⟨b, 0, none⟩)] w fun e w' => e = .returned (.int .i64 (L.length : Int)) ∧ w' = w := by
  obtain ⟨m1, m2⟩ := h.many
  clear h
  go_enter Try.func18, Try.ntmps18
  go_wp2
  go_ret
  exact ⟨rfl, rfl⟩

set_option maxHeartbeats 800000 in
theorem get_nil (k : Ky) (w : World) : Calls Try.prog 16 #[.pointer none, keyV k] w fun e w' => e = .returned (.tuple #[.int .i64 0, .bool false]) ∧ Below w.heap.size w w' := by
  have B0 := below_box w (.cells #[.int .i64 k.1, .int .i64 k.2.1, .int .i64 k.2.2] 24)
  go_enter Try.func16, Try.ntmps16
  go_wp2_with fail
  refine (find_nil k _).mono ?_
  rintro e w1 ⟨rfl, b1⟩
  go_wp2
  go_returns
  exact ⟨rfl, B0.trans (b1.mono B0.size)⟩
theorem ret_get {x y : Int} {a b : Bool} (h : y = x ∧ b = a) : Ending.returned (.tuple #[.int .i64 x, .bool a]) = .returned (.tuple #[.int .i64 y, .bool b]) := by
  obtain ⟨rfl, rfl⟩ := h; rfl
set_option maxHeartbeats 800000 in
theorem get_calls {w : World} {b : Nat} {L : List En} {room : Nat} (h : TB w b L room) (k : Ky) :
    Calls Try.prog 16 #[.pointer (some ⟨b, 0, none⟩), keyV k] w fun e w' => e = .returned (.tuple #[.int .i64 (getN L k), .bool (getB L k)]) ∧ Below w.heap.size w w' := by
  have B0 := below_box w (.cells #[.int .i64 k.1, .int .i64 k.2.1, .int .i64 k.2.2] 24)
  have T0 := h.below B0 h.lt
  have hok := h.ok
  have hlen := h.len
  have hlt := h.lt
  clear h
  go_enter Try.func16, Try.ntmps16
  go_wp2_with fail
  refine (find_calls T0 k).mono ?_
  rintro e w1 ⟨rfl, b1⟩
  have T1 := T0.below b1 T0.lt
  have B1 := B0.trans (b1.mono B0.size)
  have HO : Hid (Ok L room) := hok
  have hi := fnd_le L k
  cases hb : (fnd L k).2 with
  | false =>
    have HB : Hid ((fnd L k).2 = false) := hb
    generalize (fnd L k).1 = i at *
    clear T0 T1 b1 B0 hok hb
    go_wp2
    go_returns
    exact ⟨ret_get (HO.out.get_no HB.out), B1⟩
  | true =>
    obtain ⟨x, hx, hk⟩ := fnd_there hb
    obtain ⟨s0, s1, s2, s3⟩ := T1.slot' hx
    have hi2 := fnd_lt hb
    have HG : Hid (getN L k = x.2 ∧ getB L k = true) := hok.get_yes hb hx
    generalize (fnd L k).1 = i at *
    clear T0 T1 b1 B0 hok hb hx hk HO
    go_wp2
    go_returns
    exact ⟨ret_get HG.out, B1⟩
end Go.Proofs.Ytgimmaancnlbcaa
