/- Proved here: what police.New answers, and the policer that it makes. Conditions: as each theorem states them. -/
import Derived.Test.YtlaomjhibaoglaaPTake
import Derived.Test.YtlaomjhibaoglaaRu
namespace Go.Proofs.Ytlaomjhibaoglaa
set_option linter.unusedSimpArgs false
set_option linter.unusedVariables false
open Go.RowKit Go.Shelf

/-- An append whose run is known, as a step of a region that draws its order. -/
theorem step_app {P : Program} {w w' : World} {t : TypeId} {va vx v' : Value} {ty : TypeId} (hrun : (Builtin.append_ #[t, t] ty #[va, vx]).run P w = .ok v' w')
    {ops : Array Oper} {o : Oper} {a : Act} {K : Act → World → Prop} {Q : Exit → Act → World → Prop} {E : Prop} (s x : Operand) (hgd : Region.wanted o (yielded ops a.tmps) = true)
    (ho : o.op = .call { callee := .builtin .append, args := #[s, x], argTypes := #[t, t] }) (hty : o.type = ty) (hs : a.eval s = va) (hx : a.eval x = vx)
    (h : K (a.put o.dst v') w') : if Region.wanted o (yielded ops a.tmps) = true then Oper.wp P o a w K Q else E := by
  rw [if_pos hgd]
  subst hty
  unfold Oper.wp
  simp [execOp, ho, resolve, invoke, builtin, hs, hx, hrun, Result.andThen]
  exact h

/-- Rules that lie side by side in block g (their step, EARLY, Zero, Tag). -/
def RS (w : World) (g : Nat) (M : List Lim) : Prop := ∀ j x, M[j]? = some x → w.cell? ⟨g, j * 4, none⟩ = some (.int .i64 x.s) ∧ w.cell? ⟨g, j * 4 + 1, none⟩ = some (.int .i64 x.e) ∧ w.cell? ⟨g, j * 4 + 1 + 1, none⟩ = some (.bool x.z) ∧ w.cell? ⟨g, j * 4 + 1 + 1 + 1, none⟩ = some (.bool x.g)
theorem RS.below {w w' : World} {n g : Nat} {M : List Lim} (h : RS w g M) (hb : Below n w w') (hn : g < n) : RS w' g M := fun j x hx => by
  have hc : ∀ k, w'.cell? ⟨g, k, none⟩ = w.cell? ⟨g, k, none⟩ := fun k => hb.cell (p := ⟨g, k, none⟩) hn
  obtain ⟨a1, a2, a3, a4⟩ := h j x hx
  exact ⟨(hc _).trans a1, (hc _).trans a2, (hc _).trans a3, (hc _).trans a4⟩

/-- The cells of rules that lie side by side. -/
def lcells (L : List Lim) : List Value := L.flatMap fun x => [.iface 55 (.pointer (some ⟨x.b, 0, none⟩)), .bool x.z, .bool x.g]
theorem lcells_snoc (L : List Lim) (x : Lim) : lcells (L ++ [x]) = lcells L ++ [.iface 55 (.pointer (some ⟨x.b, 0, none⟩)), .bool x.z, .bool x.g] := by simp [lcells]
theorem lcells_get {L : List Lim} {j : Nat} {x : Lim} (h : L[j]? = some x) : (lcells L)[j * 3]? = some (.iface 55 (.pointer (some ⟨x.b, 0, none⟩))) ∧ (lcells L)[j * 3 + 1]? = some (.bool x.z) ∧ (lcells L)[j * 3 + 1 + 1]? = some (.bool x.g) := by
  induction L generalizing j with
  | nil => cases h
  | cons y L ih =>
    cases j with
    | zero => simp at h; subst h; simp [lcells]
    | succ j =>
      have := ih (j := j) (by simpa using h)
      have e : lcells (y :: L) = [.iface 55 (.pointer (some ⟨y.b, 0, none⟩)), .bool y.z, .bool y.g] ++ lcells L := by simp [lcells]
      rw [e, show (j + 1) * 3 = 3 + j * 3 by omega]
      refine ⟨?_, ?_, ?_⟩
      · rw [List.getElem?_append_right (by simp)]; simpa using this.1
      · rw [List.getElem?_append_right (by simp; omega)]
        rw [show 3 + j * 3 + 1 - List.length [Value.iface 55 (.pointer (some ⟨y.b, 0, none⟩)), .bool y.z, .bool y.g] = j * 3 + 1 by simp; omega]; exact this.2.1
      · rw [List.getElem?_append_right (by simp; omega)]
        rw [show 3 + j * 3 + 1 + 1 - List.length [Value.iface 55 (.pointer (some ⟨y.b, 0, none⟩)), .bool y.z, .bool y.g] = j * 3 + 1 + 1 by simp; omega]; exact this.2.2

theorem BK.grown {w w' : World} {b : Nat} {vs : Array Value} {t e : TypeId} (h : BK w b vs t) {base size k : Nat} {v : Value} {xs : List Value} (hr : w.ownsRow base e size v k xs) (hte : t ≠ e) (hg : w.grownBy w' v.ownBlock) : BK w' b vs t := by
  refine (hg.block b h.lt ?_).trans h
  rcases hr.2 with ⟨rfl, _⟩ | ⟨g, cap, cur, rfl, _, hgb, _⟩
  · simp [Value.ownBlock]
  · intro e'
    obtain rfl : b = g := by simpa [Value.ownBlock] using e'
    have := (show w.heap[b]? = _ from h).symm.trans hgb
    simp at this
    exact hte this.2

theorem info_lim : (Try.prog.info? 60).map (fun i => (i.zero, i.size, i.bytes)) = some (some (.agg #[.nilIface, .bool false, .bool false]), 3, 24) := by kernel_rfl

/-- A rule appended. -/
theorem run_app_lim (w : World) (base : Nat) (hbase : base ≤ w.heap.size) (a : Option Addr) (k c : Nat) (L : List Lim) (hk : k ≤ 2) (hown : w.ownsRow base 60 3 (.slice a k c) k (lcells L)) (x : Lim) (g2 : Nat)
    (h2 : BK w g2 #[.iface 55 (.pointer (some ⟨x.b, 0, none⟩)), .bool x.z, .bool x.g] 60) :
    ∃ g' c' w', (Builtin.append_ #[48, 48] 48 #[.slice a k c, .slice (some ⟨g2, 0, none⟩) 1 1]).run Try.prog w = .ok (.slice (some ⟨g', 0, none⟩) (k + 1) c') w' ∧
      w'.ownsRow base 60 3 (.slice (some ⟨g', 0, none⟩) (k + 1) c') (k + 1) (lcells (L ++ [x])) ∧ w.grownBy w' (Value.slice a k c).ownBlock := by
  obtain ⟨i0, hi, hz0, hz1, hz2⟩ := info_parts info_lim
  obtain ⟨v', w', hrun, ho, hgr, hne⟩ := run_append_own (P := Try.prog) w base 48 48 60 i0 _ 3 24 Try.underlying48 hi hz0 hz1 hz2 rfl (by decide) _ _ _ hown ⟨g2, 0, none⟩ 1 1 [.iface 55 (.pointer (some ⟨x.b, 0, none⟩)), .bool x.z, .bool x.g] rfl
    (by
      intro j u hu
      rw [Addr.add_lit, Nat.zero_add]
      match j, hu with
      | 0, hu => simp at hu; subst hu; exact h2.cell 0 _ rfl
      | 1, hu => simp at hu; subst hu; exact h2.cell 1 _ rfl
      | 2, hu => simp at hu; subst hu; exact h2.cell 2 _ rfl
      | j + 3, hu => simp at hu)
    (by intro u hu; simp at hu; rcases hu with rfl | rfl | rfl <;> rfl) (by unfold maxLen; omega) (by omega) hbase
  obtain ⟨g', c', rfl⟩ := ownsRow_succ ho
  exact ⟨g', c', w', hrun, by rw [lcells_snoc]; exact ho, hgr⟩

/-- What a rule says. -/
def says (x : Lim) : Int × Int × Bool × Bool := (x.s, x.e, x.z, x.g)
theorem But.cell {r n : Nat} {w w' : World} (h : But r n w w') {p : Addr} (hp : p.block < n) (hr : p.block ≠ r) : w'.cell? p = w.cell? p := by
  unfold World.cell?; rw [h.block _ hp hr]
theorem RS.but {w w' : World} {r n g : Nat} {M : List Lim} (h : RS w g M) (hb : But r n w w') (hn : g < n) (hr : g ≠ r) : RS w' g M := fun j x hx => by
  have hc : ∀ k, w'.cell? ⟨g, k, none⟩ = w.cell? ⟨g, k, none⟩ := fun k => hb.cell (p := ⟨g, k, none⟩) hn hr
  obtain ⟨a1, a2, a3, a4⟩ := h j x hx
  exact ⟨(hc _).trans a1, (hc _).trans a2, (hc _).trans a3, (hc _).trans a4⟩
theorem But.below' {r n m : Nat} {a b c : World} (h : But r n a b) (k : Below m b c) (hm : n ≤ m) : But r n a c := h.trans (But.of (k.mono hm))
theorem But.grown {r n : Nat} {a b c : World} (h : But r n a b) {base e size k : Nat} {v : Value} {xs : List Value} (hr : b.ownsRow base e size v k xs) (hn : n ≤ base) (hb : n ≤ b.heap.size) (hg : b.grownBy c v.ownBlock) : But r n a c :=
  h.trans ⟨hg.os, hg.tape, hg.output, hg.size, fun j hj _ => hg.block j (by omega) (fun e' => by
    rcases hr.2 with ⟨rfl, _⟩ | ⟨g, cap, cur, rfl, hg', _, _⟩
    · simp [Value.ownBlock] at e'
    · have : j = g := by simpa [Value.ownBlock] using e'
      omega)⟩

theorem BK.not_row {w : World} {b : Nat} {vs : Array Value} {t e : TypeId} (h : BK w b vs t) {base size k : Nat} {v : Value} {xs : List Value} (hr : w.ownsRow base e size v k xs) (hte : t ≠ e) : some b ≠ v.ownBlock := by
  rcases hr.2 with ⟨rfl, _⟩ | ⟨g, cap, cur, rfl, _, hgb, _⟩
  · simp [Value.ownBlock]
  · intro e'
    obtain rfl : b = g := by simpa [Value.ownBlock] using e'
    have := (show w.heap[b]? = _ from h).symm.trans hgb
    simp at this
    exact hte this.2
theorem new_nd {L : List Lim} {wr : World} {n0 : Nat} {z gt : Bool} {st ea : Int} (hL : ∀ x ∈ L, BC wr x.b x.s x.e 0 ∧ x.T = 0 ∧ n0 ≤ x.b) (hN : (L.map (·.b)).Nodup) : ((L ++ [(⟨wr.heap.size + 1, z, gt, st, ea, 0⟩ : Lim)]).map (·.b)).Nodup := by
  rw [List.map_append]
  refine List.nodup_append.2 ⟨hN, by simp, fun a ha b hb => ?_⟩
  obtain ⟨x, hx, rfl⟩ := List.mem_map.1 ha
  simp at hb
  have := (hL x hx).1.lt
  omega
theorem new_all {L : List Lim} {wr V w4 w6 w7 : World} {n0 P nb j : Nat} {z gt : Bool} {st ea : Int} {v : Value} {xs : List Value} {o : Array Value} {t : TypeId} (hL : ∀ x ∈ L, BC wr x.b x.s x.e 0 ∧ x.T = 0 ∧ n0 ≤ x.b) (hV : ∀ x ∈ L, BC V x.b x.s x.e 0) (C4 : BC w4 (wr.heap.size + 1) st ea 0)
    (b4 : Below (wr.heap.size + 1) V w4) (O5 : (w4.alloc (.cells o t)).ownsRow nb 60 3 v j xs) (G6 : (w4.alloc (.cells o t)).grownBy w6 v.ownBlock) (K7 : But P (wr.heap.size + 1 + 1) w6 w7) (h0 : n0 ≤ wr.heap.size) (h1 : P < wr.heap.size + 1) (hP0 : n0 ≤ P) (hPT : n0 ≤ n0) (hne : ∀ x ∈ L, x.b ≠ P) :
    ∀ x ∈ L ++ [(⟨wr.heap.size + 1, z, gt, st, ea, 0⟩ : Lim)], BC w7 x.b x.s x.e 0 ∧ x.T = 0 ∧ n0 ≤ x.b := by
  intro x hx
  rcases List.mem_append.1 hx with hx | hx
  · have l := (hL x hx).1.lt
    refine ⟨?_, (hL x hx).2⟩
    exact BC.but (BK.grown (BK.alloc ((hV x hx).below b4 (by omega)) _) O5 (by decide) G6) K7 (by omega) (hne x hx)
  · rw [List.mem_singleton.1 hx]
    exact ⟨BC.but (BK.grown (BK.alloc C4 _) O5 (by decide) G6) K7 (by show _ + 1 < _ ; omega) (by show _ + 1 ≠ _; omega), rfl, by show n0 ≤ wr.heap.size + 1; omega⟩

theorem ownsRow_below {w w' : World} {n base e size k : Nat} {v : Value} {xs : List Value} (h : w.ownsRow base e size v k xs) (hb : Below n w w') (hn : w.heap.size ≤ n) : w'.ownsRow base e size v k xs := by
  refine ⟨h.1, ?_⟩
  rcases h.2 with h1 | ⟨g, cap, cur, e1, e2, e3, e4⟩
  · exact .inl h1
  · exact .inr ⟨g, cap, cur, e1, e2, (hb.block g (by have := (Array.getElem?_eq_some_iff.1 e3).1; omega)).trans e3, e4⟩

set_option maxHeartbeats 2000000 in
theorem new_in (k p e w b l : Int) (al : Bool) (hal : (k == 7) = al) (M : List Lim) (hM : M.length ≤ 2) (h : okB k p e w b l = true)
    (hR : ∀ W, Calls Try.prog 18 #[cV k p e w b l] W fun x W' => ∃ g c, x = .returned (.slice (some ⟨g, 0, none⟩) M.length c) ∧ W.heap.size ≤ g ∧ g < W'.heap.size ∧ RS W' g M ∧ Below W.heap.size W W') (W : World) :
    Calls Try.prog 10 #[cV k p e w b l] W fun x W' => ∃ r a cap L nb, x = .returned (.tuple #[.pointer (some ⟨r, 0, none⟩), .int .i64 0]) ∧ W.heap.size ≤ r ∧ W.heap.size ≤ nb ∧ BK W' r #[.slice a M.length cap, .bool al, .int .i64 0, .int .i64 0, .int .i64 0, .int .i64 0] 50 ∧
      W'.ownsRow nb 60 3 (.slice a M.length cap) M.length (lcells L) ∧ L.map says = M.map says ∧ (∀ x ∈ L, BC W' x.b x.s x.e 0 ∧ x.T = 0 ∧ W.heap.size ≤ x.b) ∧ (L.map (·.b)).Nodup ∧ Below W.heap.size W W' := by
  have H : Hid (okB k p e w b l = true) := h
  have HR : Hid (∀ W, Calls Try.prog 18 #[cV k p e w b l] W fun x W' => ∃ g c, x = .returned (.slice (some ⟨g, 0, none⟩) M.length c) ∧ W.heap.size ≤ g ∧ g < W'.heap.size ∧ RS W' g M ∧ Below W.heap.size W W') := hR
  have HA : Hid ((k == 7) = al) := hal
  have C0 := cc_new W k p e w b l
  clear h hR hal
  go_enter Try.func10, Try.ntmps10
  go_wp2_with fail
  refine (right_ok H.out _).mono ?_
  rintro x w1 ⟨rfl, b1⟩
  have C1 := C0.below b1 C0.lt
  obtain ⟨c0, c1, c2, c3, c4, c5⟩ := C1.facts
  have B1 := below_box2 b1
  clear C0 b1
  go_wp2_with fail
  refine (always_calls k p e w b l _).mono ?_
  rintro x w2 ⟨rfl, b2⟩
  rw [H.out, Bool.and_true, HA.out]
  have C2 := C1.below b2 C1.lt
  have B2 := B1.trans (b2.mono B1.size)
  have r2 := C2.lt
  clear C1 B1 b2 c0 c1 c2 c3 c4 c5
  obtain ⟨c0, c1, c2, c3, c4, c5⟩ := C2.facts
  clear C2
  go_wp2_with fail
  refine (HR.out _).mono ?_
  rintro x w3 ⟨g, c, rfl, hg1, hg2, hRS, b3⟩
  have Q3 := (bk_new w2 #[.slice none 0 0, .bool al, .int .i64 0, .int .i64 0, .int .i64 0, .int .i64 0] 50).below b3 (by simp)
  have B3 : Below W.heap.size W w3 := (B2.alloc (by omega) _).trans (b3.mono (by simp; omega))
  have s3 := b3.size
  rw [size_box] at hg1 s3
  clear B2 b3 c0 c1 c2 c3 c4 c5 HR H
  go_wp2
  go_loopw [20] (fun iv wr => ∃ (j : Nat) (a : Option Addr) (c : Nat) (L : List Lim), j ≤ M.length ∧ iv = .int .i64 j ∧ BK wr w2.heap.size #[.slice a j c, .bool al, .int .i64 0, .int .i64 0, .int .i64 0, .int .i64 0] 50 ∧
      wr.ownsRow w3.heap.size 60 3 (.slice a j c) j (lcells L) ∧ L.map says = (M.take j).map says ∧ (∀ x ∈ L, BC wr x.b x.s x.e 0 ∧ x.T = 0 ∧ W.heap.size ≤ x.b) ∧ (L.map (·.b)).Nodup ∧ But w2.heap.size w3.heap.size w3 wr) (fun iv _ => M.length - (intOf iv).toNat)
  case atStart => exact ⟨0, none, 0, [], Nat.zero_le _, rfl, Q3, ⟨rfl, .inl ⟨rfl, rfl⟩⟩, rfl, by simp, by simp, But.refl _ _ _⟩
  case round =>
    obtain ⟨j, a, c, L, hj, rfl, hQ, hO, hS, hL, hN, hB⟩ := hrel
    by_cases hlt : j < M.length
    · obtain ⟨x, hx⟩ : ∃ x, M[j]? = some x := ⟨M[j], by rw [List.getElem?_eq_getElem]⟩
      obtain ⟨q0, q1, q2, q3⟩ := (hRS.but hB hg2 (by omega)) j x hx
      have sz := hB.size
      have hPlt := hQ.lt
      obtain ⟨xb, z, gt, st, ea, T⟩ := x
      simp only at q0 q1 q2 q3
      have HX : Hid ((M.take (j + 1)).map says = (M.take j).map says ++ [(st, ea, z, gt)]) := by show _ = _; rw [List.take_add_one, hx]; simp [says]
      have BX := (bk_new wr #[.int .i64 st, .int .i64 ea, .bool z, .bool gt] 54).drew
      have hQV := (hQ.alloc (.cells #[.int .i64 st, .int .i64 ea, .bool z, .bool gt] 54)).drew
      have hOV := hO.alloc (.cells #[.int .i64 st, .int .i64 ea, .bool z, .bool gt] 54)
      have hLV : ∀ x ∈ L, BC (wr.alloc (.cells #[.int .i64 st, .int .i64 ea, .bool z, .bool gt] 54)).drew x.b x.s x.e 0 := fun x hx => BK.drew (BK.alloc (hL x hx).1 _)
      have hnew := new_calls st ea (wr.alloc (.cells #[.int .i64 st, .int .i64 ea, .bool z, .bool gt] 54)).drew
      have hsz : (wr.alloc (.cells #[.int .i64 st, .int .i64 ea, .bool z, .bool gt] 54)).drew.heap.size = wr.heap.size + 1 := by simp
      rw [hsz] at hnew
      go_wp2
      have BV : But w2.heap.size w3.heap.size w3 (wr.alloc (.cells #[.int .i64 st, .int .i64 ea, .bool z, .bool gt] 54)).drew := (hB.below' (below_box wr _) sz).drew
      have hOV' : (wr.alloc (.cells #[.int .i64 st, .int .i64 ea, .bool z, .bool gt] 54)).drew.ownsRow w3.heap.size 60 3 (.slice a j c) j (lcells L) := hOV
      have hlen : j < 2 := by omega
      have HL : Hid (∀ x ∈ L, BC wr x.b x.s x.e 0 ∧ x.T = 0 ∧ W.heap.size ≤ x.b) := hL
      have HLV : Hid (∀ x ∈ L, BC (wr.alloc (.cells #[.int .i64 st, .int .i64 ea, .bool z, .bool gt] 54)).drew x.b x.s x.e 0) := hLV
      have hlb : w2.heap.size < wr.heap.size := hPlt
      have HNE : Hid (∀ x ∈ L, x.b ≠ w2.heap.size) := fun x hx e' => by have h1 := (hL x hx).1; rw [e'] at h1; exact absurd ((show _ = _ from h1).symm.trans hQ) (by simp)
      clear hL hLV hOV hx q0 q1 q2 q3 hRS hQ hB hO
      have p0 := hQV.cell 0 _ rfl
      refine wp_region_held_drew (S := (fun w' => BK w' wr.heap.size #[.int .i64 st, .int .i64 ea, .bool z, .bool gt] 54)) (by kernel_rfl) BX (fun hHeld => ?_)
      refine wpAnyH_take (i := 0) (oi := ({ dst := some 24, op := Op.move (Operand.tmp 5), type := 26, pos := _, after := #[], guard := none } : Oper)) (v := ?_) rfl (by kernel_rfl) (by kernel_rfl) (by kernel_rfl) (fun _ _ _ h => h) (Or.inl ⟨by rfl, ?_⟩) hHeld ?_
      rotate_left
      · (intro w hS; go_simp; try with_reducible rfl)
      try simp only [Act.put, List.setIfInBounds_toArray, List.set_cons_zero, List.set_cons_succ]
      refine wpAnyH_take (i := 1) (oi := ({ dst := some 25, op := Op.move (Operand.tmp 5), type := 26, pos := _, after := #[], guard := none } : Oper)) (v := ?_) rfl (by kernel_rfl) (by kernel_rfl) (by kernel_rfl) (fun _ _ _ h => h) (Or.inl ⟨by rfl, ?_⟩) hHeld ?_
      rotate_left
      · (intro w hS; go_simp; try with_reducible rfl)
      try simp only [Act.put, List.setIfInBounds_toArray, List.set_cons_zero, List.set_cons_succ]
      refine wpAnyH_take (i := 2) (oi := ({ dst := some 26, op := Op.nilCheck (Operand.tmp 25), type := 0, pos := _, after := #[{ on := 1, ground := Ground.data }], guard := none } : Oper)) (v := ?_) rfl (by kernel_rfl) (by kernel_rfl) (by kernel_rfl) (fun _ _ _ h => h) (Or.inl ⟨by rfl, ?_⟩) hHeld ?_
      rotate_left
      · (intro w hS; go_simp; try with_reducible rfl)
      try simp only [Act.put, List.setIfInBounds_toArray, List.set_cons_zero, List.set_cons_succ]
      refine wpAnyH_take (i := 3) (oi := ({ dst := some 27, op := Op.fieldAddr 50 (Operand.tmp 26) 0, type := 0, pos := _, after := #[{ on := 2, ground := Ground.data }], guard := none } : Oper)) (v := ?_) rfl (by kernel_rfl) (by kernel_rfl) (by kernel_rfl) (fun _ _ _ h => h) (Or.inl ⟨by rfl, ?_⟩) hHeld ?_
      rotate_left
      · (intro w hS; go_simp; try with_reducible rfl)
      try simp only [Act.put, List.setIfInBounds_toArray, List.set_cons_zero, List.set_cons_succ]
      refine wpAnyH_take (i := 5) (oi := ({ dst := some 29, op := Op.fieldAddr 54 (Operand.tmp 7) 0, type := 0, pos := _, after := #[], guard := none } : Oper)) (v := ?_) rfl (by kernel_rfl) (by kernel_rfl) (by kernel_rfl) (fun _ _ _ h => h) (Or.inl ⟨by rfl, ?_⟩) hHeld ?_
      rotate_left
      · (intro w hS; go_simp; try with_reducible rfl)
      try simp only [Act.put, List.setIfInBounds_toArray, List.set_cons_zero, List.set_cons_succ]
      refine wpAnyH_take (i := 6) (oi := ({ dst := some 30, op := Op.load 3 (Operand.tmp 29), type := 3, pos := _, after := #[{ on := 5, ground := Ground.data }], guard := none } : Oper)) (v := ?_) rfl (by kernel_rfl) (by kernel_rfl) (by kernel_rfl) (fun _ _ _ h => h) (Or.inl ⟨by rfl, ?_⟩) hHeld ?_
      rotate_left
      · (intro w hS; have h0 := BK.cell (show BK w _ _ _ from hS) 0 _ rfl; go_simp; try with_reducible rfl)
      try simp only [Act.put, List.setIfInBounds_toArray, List.set_cons_zero, List.set_cons_succ]
      refine wpAnyH_take (i := 7) (oi := ({ dst := some 31, op := Op.fieldAddr 54 (Operand.tmp 7) 1, type := 0, pos := _, after := #[], guard := none } : Oper)) (v := ?_) rfl (by kernel_rfl) (by kernel_rfl) (by kernel_rfl) (fun _ _ _ h => h) (Or.inl ⟨by rfl, ?_⟩) hHeld ?_
      rotate_left
      · (intro w hS; go_simp; try with_reducible rfl)
      try simp only [Act.put, List.setIfInBounds_toArray, List.set_cons_zero, List.set_cons_succ]
      refine wpAnyH_take (i := 8) (oi := ({ dst := some 32, op := Op.load 3 (Operand.tmp 31), type := 3, pos := _, after := #[{ on := 7, ground := Ground.data }], guard := none } : Oper)) (v := ?_) rfl (by kernel_rfl) (by kernel_rfl) (by kernel_rfl) (fun _ _ _ h => h) (Or.inl ⟨by rfl, ?_⟩) hHeld ?_
      rotate_left
      · (intro w hS; have h0 := BK.cell (show BK w _ _ _ from hS) 1 _ rfl; go_simp; try with_reducible rfl)
      try simp only [Act.put, List.setIfInBounds_toArray, List.set_cons_zero, List.set_cons_succ]
      refine wpAnyH_take (i := 11) (oi := ({ dst := some 35, op := Op.fieldAddr 54 (Operand.tmp 7) 2, type := 0, pos := _, after := #[], guard := none } : Oper)) (v := ?_) rfl (by kernel_rfl) (by kernel_rfl) (by kernel_rfl) (fun _ _ _ h => h) (Or.inl ⟨by rfl, ?_⟩) hHeld ?_
      rotate_left
      · (intro w hS; go_simp; try with_reducible rfl)
      try simp only [Act.put, List.setIfInBounds_toArray, List.set_cons_zero, List.set_cons_succ]
      refine wpAnyH_take (i := 12) (oi := ({ dst := some 36, op := Op.load 4 (Operand.tmp 35), type := 4, pos := _, after := #[{ on := 11, ground := Ground.data }], guard := none } : Oper)) (v := ?_) rfl (by kernel_rfl) (by kernel_rfl) (by kernel_rfl) (fun _ _ _ h => h) (Or.inl ⟨by rfl, ?_⟩) hHeld ?_
      rotate_left
      · (intro w hS; have h0 := BK.cell (show BK w _ _ _ from hS) 2 _ rfl; go_simp; try with_reducible rfl)
      try simp only [Act.put, List.setIfInBounds_toArray, List.set_cons_zero, List.set_cons_succ]
      refine wpAnyH_take (i := 13) (oi := ({ dst := some 37, op := Op.fieldAddr 54 (Operand.tmp 7) 3, type := 0, pos := _, after := #[], guard := none } : Oper)) (v := ?_) rfl (by kernel_rfl) (by kernel_rfl) (by kernel_rfl) (fun _ _ _ h => h) (Or.inl ⟨by rfl, ?_⟩) hHeld ?_
      rotate_left
      · (intro w hS; go_simp; try with_reducible rfl)
      try simp only [Act.put, List.setIfInBounds_toArray, List.set_cons_zero, List.set_cons_succ]
      refine wpAnyH_take (i := 14) (oi := ({ dst := some 38, op := Op.load 4 (Operand.tmp 37), type := 4, pos := _, after := #[{ on := 13, ground := Ground.data }], guard := none } : Oper)) (v := ?_) rfl (by kernel_rfl) (by kernel_rfl) (by kernel_rfl) (fun _ _ _ h => h) (Or.inl ⟨by rfl, ?_⟩) hHeld ?_
      rotate_left
      · (intro w hS; have h0 := BK.cell (show BK w _ _ _ from hS) 3 _ rfl; go_simp; try with_reducible rfl)
      try simp only [Act.put, List.setIfInBounds_toArray, List.set_cons_zero, List.set_cons_succ]
      refine wpAnyH_ready (rs := [4, 9]) (by kernel_rfl) (by simp) ?_
      refine AllReadyH.cons (o := ({ dst := some 28, op := Op.load 48 (Operand.tmp 27), type := 48, pos := _, after := #[{ on := 3, ground := Ground.data }], guard := none } : Oper)) rfl (fun K hK => ?_) (AllReadyH.cons (o := ({ dst := some 33, op := Op.call { callee := Callee.value (Operand.func 19), args := #[Operand.tmp 30, Operand.tmp 32], argTypes := #[3, 3] }, type := 55, pos := _, after := #[{ on := 6, ground := Ground.data }, { on := 8, ground := Ground.data }], guard := none } : Oper)) rfl (fun K hK => ?_) (AllReadyH.nil))
      · go_simp
        skip
        refine hK.out _ _ (by show BK _ _ _ _; assumption) (fun hHeld => ?_)
        clear hK K
        try simp only [Act.put, List.setIfInBounds_toArray, List.set_cons_zero, List.set_cons_succ]
        refine wpAnyH_ready (rs := [9]) (by kernel_rfl) (by simp) ?_
        refine AllReadyH.cons (o := ({ dst := some 33, op := Op.call { callee := Callee.value (Operand.func 19), args := #[Operand.tmp 30, Operand.tmp 32], argTypes := #[3, 3] }, type := 55, pos := _, after := #[{ on := 6, ground := Ground.data }, { on := 8, ground := Ground.data }], guard := none } : Oper)) rfl (fun K hK => ?_) AllReadyH.nil
        refine step_call (hnew) (enters_of Try.func19 (by kernel_rfl) rfl) _ _ rfl rfl rfl ?_
        rintro r w4 ⟨rfl, C4, b4⟩
        have BX4 := BX.below b4 (by omega)
        have Q4 := hQV.below b4 (by omega)
        have p4 := Q4.cell 0 _ rfl
        have O4 := ownsRow_below hOV' b4 (by omega)
        have N5 := bk_new w4 #[.iface 55 (.pointer (some ⟨wr.heap.size + 1, 0, none⟩)), .bool z, .bool gt] 60
        have BX5 := BX4.alloc (.cells #[.iface 55 (.pointer (some ⟨wr.heap.size + 1, 0, none⟩)), .bool z, .bool gt] 60)
        have Q5 := Q4.alloc (.cells #[.iface 55 (.pointer (some ⟨wr.heap.size + 1, 0, none⟩)), .bool z, .bool gt] 60)
        have p5 := Q5.cell 0 _ rfl
        have O5 := O4.alloc (.cells #[.iface 55 (.pointer (some ⟨wr.heap.size + 1, 0, none⟩)), .bool z, .bool gt] 60)
        obtain ⟨g', c', w6, hap, O6, G6⟩ := run_app_lim _ w3.heap.size (by have := b4.size; simp at this ⊢; omega) a j c L (by omega) O5 ⟨wr.heap.size + 1, z, gt, st, ea, 0⟩ w4.heap.size N5
        have BX6 := BX5.grown O5 (by decide) G6
        have Q6 := Q5.grown O5 (by decide) G6
        have p6 := Q6.cell 0 _ rfl
        have f6 := Q6.frozen 0
        have K7 : But w2.heap.size (wr.heap.size + 1 + 1) w6 (w6.setCell ⟨w2.heap.size, 0, none⟩ (.slice (some ⟨g', 0, none⟩) (j + 1) c')) := (But.refl w2.heap.size _ w6).set (p := ⟨w2.heap.size, 0, none⟩) rfl _
        have z4 : wr.heap.size + 1 < w4.heap.size := C4.lt
        have NRF : Hid (∃ (j' : Nat) (a : Option Addr) (c : Nat) (L : List Lim), j' ≤ M.length ∧ Value.int .i64 ((j : Int) + 1) = .int .i64 j' ∧ BK (w6.setCell ⟨w2.heap.size, 0, none⟩ (.slice (some ⟨g', 0, none⟩) (j + 1) c')) w2.heap.size #[.slice a j' c, .bool al, .int .i64 0, .int .i64 0, .int .i64 0, .int .i64 0] 50 ∧ (w6.setCell ⟨w2.heap.size, 0, none⟩ (.slice (some ⟨g', 0, none⟩) (j + 1) c')).ownsRow w3.heap.size 60 3 (.slice a j' c) j' (lcells L) ∧ L.map says = (M.take j').map says ∧ (∀ x ∈ L, BC (w6.setCell ⟨w2.heap.size, 0, none⟩ (.slice (some ⟨g', 0, none⟩) (j + 1) c')) x.b x.s x.e 0 ∧ x.T = 0 ∧ W.heap.size ≤ x.b) ∧ (L.map (·.b)).Nodup ∧ But w2.heap.size w3.heap.size w3 (w6.setCell ⟨w2.heap.size, 0, none⟩ (.slice (some ⟨g', 0, none⟩) (j + 1) c'))) := ⟨j + 1, some ⟨g', 0, none⟩, c', L ++ [⟨wr.heap.size + 1, z, gt, st, ea, 0⟩], by omega, by go_num, Q6.set 0 _, O6.kept (grownBy_setCell' w6 _ _) (.inr (Q6.not_row O6 (by decide)).symm), (by rw [HX.out, List.map_append, hS]; rfl), new_all HL.out HLV.out (show BC w4 (wr.heap.size + 1) st ea 0 from C4) b4 O5 G6 K7 (by omega) (by omega) (by omega) (Nat.le_refl _) HNE.out, new_nd HL.out hN, (((BV.below' b4 (by omega)).below' (below_box w4 _) (by omega)).grown O5 (Nat.le_refl _) (by simp; omega) G6).set (p := ⟨w2.heap.size, 0, none⟩) rfl _⟩
        have BX7 : BK (w6.setCell ⟨w2.heap.size, 0, none⟩ (.slice (some ⟨g', 0, none⟩) (j + 1) c')) wr.heap.size _ _ := (BX6.but ((But.refl w2.heap.size (wr.heap.size + 1) w6).set (p := ⟨w2.heap.size, 0, none⟩) rfl _) (by omega) (by omega))
        refine ⟨_, rfl, hK.out _ _ (by show BK _ _ _ _; assumption) (fun hHeld => ?_)⟩
        clear hK K
        try simp only [Act.put, List.setIfInBounds_toArray, List.set_cons_zero, List.set_cons_succ]
        refine wpAnyH_take (i := 10) (oi := ({ dst := some 34, op := Op.makeInterface 55 (Operand.tmp 33), type := 58, pos := _, after := #[{ on := 9, ground := Ground.data }], guard := none } : Oper)) (v := ?_) rfl (by kernel_rfl) (by kernel_rfl) (by kernel_rfl) (fun _ _ _ h => h) (Or.inl ⟨by rfl, ?_⟩) hHeld ?_
        rotate_left
        · (intro w hS; go_simp; try with_reducible rfl)
        try simp only [Act.put, List.setIfInBounds_toArray, List.set_cons_zero, List.set_cons_succ]
        refine wpAnyH_take (i := 15) (oi := ({ dst := some 39, op := Op.build 60 #[(0, Operand.tmp 34), (1, Operand.tmp 36), (2, Operand.tmp 38)], type := 60, pos := _, after := #[{ on := 10, ground := Ground.data }, { on := 12, ground := Ground.data }, { on := 14, ground := Ground.data }], guard := none } : Oper)) (v := ?_) rfl (by kernel_rfl) (by kernel_rfl) (by kernel_rfl) (fun _ _ _ h => h) (Or.inl ⟨by rfl, ?_⟩) hHeld ?_
        rotate_left
        · (intro w hS; go_simp; try with_reducible rfl)
        try simp only [Act.put, List.setIfInBounds_toArray, List.set_cons_zero, List.set_cons_succ]
        refine wpAnyH_ready (rs := [16]) (by kernel_rfl) (by simp) ?_
        refine AllReadyH.cons (o := ({ dst := some 40, op := Op.buildSlice 48 1 #[(0, Operand.tmp 39)], type := 48, pos := _, after := #[{ on := 15, ground := Ground.data }], guard := none } : Oper)) rfl (fun K hK => ?_) AllReadyH.nil
        go_simp
        skip
        refine hK.out _ _ (by show BK _ _ _ _; assumption) (fun hHeld => ?_)
        clear hK K
        try simp only [Act.put, List.setIfInBounds_toArray, List.set_cons_zero, List.set_cons_succ]
        refine wpAnyH_ready (rs := [17]) (by kernel_rfl) (by simp) ?_
        refine AllReadyH.cons (o := ({ dst := some 41, op := Op.call { callee := Callee.builtin Builtin.append, args := #[Operand.tmp 28, Operand.tmp 40], argTypes := #[48, 48] }, type := 48, pos := _, after := #[{ on := 4, ground := Ground.data }, { on := 16, ground := Ground.data }, { on := 9, ground := Ground.chain }], guard := none } : Oper)) rfl (fun K hK => ?_) AllReadyH.nil
        refine step_app hap (.tmp 28) (.tmp 40) (by rfl) (by rfl) (by rfl) (by rfl) (by rfl) ?_
        skip
        refine hK.out _ _ (by show BK _ _ _ _; assumption) (fun hHeld => ?_)
        clear hK K
        try simp only [Act.put, List.setIfInBounds_toArray, List.set_cons_zero, List.set_cons_succ]
        refine wpAnyH_take (i := 18) (oi := ({ dst := some 42, op := Op.nilCheck (Operand.tmp 24), type := 0, pos := _, after := #[{ on := 0, ground := Ground.data }, { on := 0, ground := Ground.phase }, { on := 1, ground := Ground.phase }, { on := 2, ground := Ground.phase }, { on := 3, ground := Ground.phase }, { on := 4, ground := Ground.phase }, { on := 5, ground := Ground.phase }, { on := 6, ground := Ground.phase }, { on := 7, ground := Ground.phase }, { on := 8, ground := Ground.phase }, { on := 9, ground := Ground.phase }, { on := 10, ground := Ground.phase }, { on := 11, ground := Ground.phase }, { on := 12, ground := Ground.phase }, { on := 13, ground := Ground.phase }, { on := 14, ground := Ground.phase }, { on := 15, ground := Ground.phase }, { on := 16, ground := Ground.phase }, { on := 17, ground := Ground.phase }], guard := none } : Oper)) (v := ?_) rfl (by kernel_rfl) (by kernel_rfl) (by kernel_rfl) (fun _ _ _ h => h) (Or.inl ⟨by rfl, ?_⟩) hHeld ?_
        rotate_left
        · (intro w hS; go_simp; try with_reducible rfl)
        try simp only [Act.put, List.setIfInBounds_toArray, List.set_cons_zero, List.set_cons_succ]
        refine wpAnyH_take (i := 19) (oi := ({ dst := some 43, op := Op.fieldAddr 50 (Operand.tmp 42) 0, type := 0, pos := _, after := #[{ on := 18, ground := Ground.data }, { on := 0, ground := Ground.phase }, { on := 1, ground := Ground.phase }, { on := 2, ground := Ground.phase }, { on := 3, ground := Ground.phase }, { on := 4, ground := Ground.phase }, { on := 5, ground := Ground.phase }, { on := 6, ground := Ground.phase }, { on := 7, ground := Ground.phase }, { on := 8, ground := Ground.phase }, { on := 9, ground := Ground.phase }, { on := 10, ground := Ground.phase }, { on := 11, ground := Ground.phase }, { on := 12, ground := Ground.phase }, { on := 13, ground := Ground.phase }, { on := 14, ground := Ground.phase }, { on := 15, ground := Ground.phase }, { on := 16, ground := Ground.phase }, { on := 17, ground := Ground.phase }], guard := none } : Oper)) (v := ?_) rfl (by kernel_rfl) (by kernel_rfl) (by kernel_rfl) (fun _ _ _ h => h) (Or.inl ⟨by rfl, ?_⟩) hHeld ?_
        rotate_left
        · (intro w hS; go_simp; try with_reducible rfl)
        try simp only [Act.put, List.setIfInBounds_toArray, List.set_cons_zero, List.set_cons_succ]
        refine wpAnyH_ready (rs := [20]) (by kernel_rfl) (by simp) ?_
        refine AllReadyH.cons (o := ({ dst := none, op := Op.store 48 (Operand.tmp 43) (Operand.tmp 41), type := 0, pos := _, after := #[{ on := 19, ground := Ground.data }, { on := 17, ground := Ground.data }, { on := 17, ground := Ground.chain }, { on := 0, ground := Ground.phase }, { on := 1, ground := Ground.phase }, { on := 2, ground := Ground.phase }, { on := 3, ground := Ground.phase }, { on := 4, ground := Ground.phase }, { on := 5, ground := Ground.phase }, { on := 6, ground := Ground.phase }, { on := 7, ground := Ground.phase }, { on := 8, ground := Ground.phase }, { on := 9, ground := Ground.phase }, { on := 10, ground := Ground.phase }, { on := 11, ground := Ground.phase }, { on := 12, ground := Ground.phase }, { on := 13, ground := Ground.phase }, { on := 14, ground := Ground.phase }, { on := 15, ground := Ground.phase }, { on := 16, ground := Ground.phase }, { on := 17, ground := Ground.phase }], guard := none } : Oper)) rfl (fun K hK => ?_) AllReadyH.nil
        go_simp
        skip
        refine hK.out _ _ (by show BK _ _ _ _; assumption) (fun hHeld => ?_)
        clear hK K
        try simp only [Act.put, List.setIfInBounds_toArray, List.set_cons_zero, List.set_cons_succ]
        refine wpAnyH_done (by kernel_rfl) ?_ _
        go_wp2
        go_roundw
        case rel => exact NRF.out
        case measure => simp [intOf]; omega
      · refine step_call (hnew) (enters_of Try.func19 (by kernel_rfl) rfl) _ _ rfl rfl rfl ?_
        rintro r w4 ⟨rfl, C4, b4⟩
        have BX4 := BX.below b4 (by omega)
        have Q4 := hQV.below b4 (by omega)
        have p4 := Q4.cell 0 _ rfl
        have O4 := ownsRow_below hOV' b4 (by omega)
        have N5 := bk_new w4 #[.iface 55 (.pointer (some ⟨wr.heap.size + 1, 0, none⟩)), .bool z, .bool gt] 60
        have BX5 := BX4.alloc (.cells #[.iface 55 (.pointer (some ⟨wr.heap.size + 1, 0, none⟩)), .bool z, .bool gt] 60)
        have Q5 := Q4.alloc (.cells #[.iface 55 (.pointer (some ⟨wr.heap.size + 1, 0, none⟩)), .bool z, .bool gt] 60)
        have p5 := Q5.cell 0 _ rfl
        have O5 := O4.alloc (.cells #[.iface 55 (.pointer (some ⟨wr.heap.size + 1, 0, none⟩)), .bool z, .bool gt] 60)
        obtain ⟨g', c', w6, hap, O6, G6⟩ := run_app_lim _ w3.heap.size (by have := b4.size; simp at this ⊢; omega) a j c L (by omega) O5 ⟨wr.heap.size + 1, z, gt, st, ea, 0⟩ w4.heap.size N5
        have BX6 := BX5.grown O5 (by decide) G6
        have Q6 := Q5.grown O5 (by decide) G6
        have p6 := Q6.cell 0 _ rfl
        have f6 := Q6.frozen 0
        have K7 : But w2.heap.size (wr.heap.size + 1 + 1) w6 (w6.setCell ⟨w2.heap.size, 0, none⟩ (.slice (some ⟨g', 0, none⟩) (j + 1) c')) := (But.refl w2.heap.size _ w6).set (p := ⟨w2.heap.size, 0, none⟩) rfl _
        have z4 : wr.heap.size + 1 < w4.heap.size := C4.lt
        have NRF : Hid (∃ (j' : Nat) (a : Option Addr) (c : Nat) (L : List Lim), j' ≤ M.length ∧ Value.int .i64 ((j : Int) + 1) = .int .i64 j' ∧ BK (w6.setCell ⟨w2.heap.size, 0, none⟩ (.slice (some ⟨g', 0, none⟩) (j + 1) c')) w2.heap.size #[.slice a j' c, .bool al, .int .i64 0, .int .i64 0, .int .i64 0, .int .i64 0] 50 ∧ (w6.setCell ⟨w2.heap.size, 0, none⟩ (.slice (some ⟨g', 0, none⟩) (j + 1) c')).ownsRow w3.heap.size 60 3 (.slice a j' c) j' (lcells L) ∧ L.map says = (M.take j').map says ∧ (∀ x ∈ L, BC (w6.setCell ⟨w2.heap.size, 0, none⟩ (.slice (some ⟨g', 0, none⟩) (j + 1) c')) x.b x.s x.e 0 ∧ x.T = 0 ∧ W.heap.size ≤ x.b) ∧ (L.map (·.b)).Nodup ∧ But w2.heap.size w3.heap.size w3 (w6.setCell ⟨w2.heap.size, 0, none⟩ (.slice (some ⟨g', 0, none⟩) (j + 1) c'))) := ⟨j + 1, some ⟨g', 0, none⟩, c', L ++ [⟨wr.heap.size + 1, z, gt, st, ea, 0⟩], by omega, by go_num, Q6.set 0 _, O6.kept (grownBy_setCell' w6 _ _) (.inr (Q6.not_row O6 (by decide)).symm), (by rw [HX.out, List.map_append, hS]; rfl), new_all HL.out HLV.out (show BC w4 (wr.heap.size + 1) st ea 0 from C4) b4 O5 G6 K7 (by omega) (by omega) (by omega) (Nat.le_refl _) HNE.out, new_nd HL.out hN, (((BV.below' b4 (by omega)).below' (below_box w4 _) (by omega)).grown O5 (Nat.le_refl _) (by simp; omega) G6).set (p := ⟨w2.heap.size, 0, none⟩) rfl _⟩
        have BX7 : BK (w6.setCell ⟨w2.heap.size, 0, none⟩ (.slice (some ⟨g', 0, none⟩) (j + 1) c')) wr.heap.size _ _ := (BX6.but ((But.refl w2.heap.size (wr.heap.size + 1) w6).set (p := ⟨w2.heap.size, 0, none⟩) rfl _) (by omega) (by omega))
        refine ⟨_, rfl, hK.out _ _ (by show BK _ _ _ _; assumption) (fun hHeld => ?_)⟩
        clear hK K
        try simp only [Act.put, List.setIfInBounds_toArray, List.set_cons_zero, List.set_cons_succ]
        refine wpAnyH_take (i := 10) (oi := ({ dst := some 34, op := Op.makeInterface 55 (Operand.tmp 33), type := 58, pos := _, after := #[{ on := 9, ground := Ground.data }], guard := none } : Oper)) (v := ?_) rfl (by kernel_rfl) (by kernel_rfl) (by kernel_rfl) (fun _ _ _ h => h) (Or.inl ⟨by rfl, ?_⟩) hHeld ?_
        rotate_left
        · (intro w hS; go_simp; try with_reducible rfl)
        try simp only [Act.put, List.setIfInBounds_toArray, List.set_cons_zero, List.set_cons_succ]
        refine wpAnyH_take (i := 15) (oi := ({ dst := some 39, op := Op.build 60 #[(0, Operand.tmp 34), (1, Operand.tmp 36), (2, Operand.tmp 38)], type := 60, pos := _, after := #[{ on := 10, ground := Ground.data }, { on := 12, ground := Ground.data }, { on := 14, ground := Ground.data }], guard := none } : Oper)) (v := ?_) rfl (by kernel_rfl) (by kernel_rfl) (by kernel_rfl) (fun _ _ _ h => h) (Or.inl ⟨by rfl, ?_⟩) hHeld ?_
        rotate_left
        · (intro w hS; go_simp; try with_reducible rfl)
        try simp only [Act.put, List.setIfInBounds_toArray, List.set_cons_zero, List.set_cons_succ]
        refine wpAnyH_ready (rs := [4, 16]) (by kernel_rfl) (by simp) ?_
        refine AllReadyH.cons (o := ({ dst := some 28, op := Op.load 48 (Operand.tmp 27), type := 48, pos := _, after := #[{ on := 3, ground := Ground.data }], guard := none } : Oper)) rfl (fun K hK => ?_) (AllReadyH.cons (o := ({ dst := some 40, op := Op.buildSlice 48 1 #[(0, Operand.tmp 39)], type := 48, pos := _, after := #[{ on := 15, ground := Ground.data }], guard := none } : Oper)) rfl (fun K hK => ?_) (AllReadyH.nil))
        · go_simp
          skip
          refine hK.out _ _ (by show BK _ _ _ _; assumption) (fun hHeld => ?_)
          clear hK K
          try simp only [Act.put, List.setIfInBounds_toArray, List.set_cons_zero, List.set_cons_succ]
          refine wpAnyH_ready (rs := [16]) (by kernel_rfl) (by simp) ?_
          refine AllReadyH.cons (o := ({ dst := some 40, op := Op.buildSlice 48 1 #[(0, Operand.tmp 39)], type := 48, pos := _, after := #[{ on := 15, ground := Ground.data }], guard := none } : Oper)) rfl (fun K hK => ?_) AllReadyH.nil
          go_simp
          skip
          refine hK.out _ _ (by show BK _ _ _ _; assumption) (fun hHeld => ?_)
          clear hK K
          try simp only [Act.put, List.setIfInBounds_toArray, List.set_cons_zero, List.set_cons_succ]
          refine wpAnyH_ready (rs := [17]) (by kernel_rfl) (by simp) ?_
          refine AllReadyH.cons (o := ({ dst := some 41, op := Op.call { callee := Callee.builtin Builtin.append, args := #[Operand.tmp 28, Operand.tmp 40], argTypes := #[48, 48] }, type := 48, pos := _, after := #[{ on := 4, ground := Ground.data }, { on := 16, ground := Ground.data }, { on := 9, ground := Ground.chain }], guard := none } : Oper)) rfl (fun K hK => ?_) AllReadyH.nil
          refine step_app hap (.tmp 28) (.tmp 40) (by rfl) (by rfl) (by rfl) (by rfl) (by rfl) ?_
          skip
          refine hK.out _ _ (by show BK _ _ _ _; assumption) (fun hHeld => ?_)
          clear hK K
          try simp only [Act.put, List.setIfInBounds_toArray, List.set_cons_zero, List.set_cons_succ]
          refine wpAnyH_take (i := 18) (oi := ({ dst := some 42, op := Op.nilCheck (Operand.tmp 24), type := 0, pos := _, after := #[{ on := 0, ground := Ground.data }, { on := 0, ground := Ground.phase }, { on := 1, ground := Ground.phase }, { on := 2, ground := Ground.phase }, { on := 3, ground := Ground.phase }, { on := 4, ground := Ground.phase }, { on := 5, ground := Ground.phase }, { on := 6, ground := Ground.phase }, { on := 7, ground := Ground.phase }, { on := 8, ground := Ground.phase }, { on := 9, ground := Ground.phase }, { on := 10, ground := Ground.phase }, { on := 11, ground := Ground.phase }, { on := 12, ground := Ground.phase }, { on := 13, ground := Ground.phase }, { on := 14, ground := Ground.phase }, { on := 15, ground := Ground.phase }, { on := 16, ground := Ground.phase }, { on := 17, ground := Ground.phase }], guard := none } : Oper)) (v := ?_) rfl (by kernel_rfl) (by kernel_rfl) (by kernel_rfl) (fun _ _ _ h => h) (Or.inl ⟨by rfl, ?_⟩) hHeld ?_
          rotate_left
          · (intro w hS; go_simp; try with_reducible rfl)
          try simp only [Act.put, List.setIfInBounds_toArray, List.set_cons_zero, List.set_cons_succ]
          refine wpAnyH_take (i := 19) (oi := ({ dst := some 43, op := Op.fieldAddr 50 (Operand.tmp 42) 0, type := 0, pos := _, after := #[{ on := 18, ground := Ground.data }, { on := 0, ground := Ground.phase }, { on := 1, ground := Ground.phase }, { on := 2, ground := Ground.phase }, { on := 3, ground := Ground.phase }, { on := 4, ground := Ground.phase }, { on := 5, ground := Ground.phase }, { on := 6, ground := Ground.phase }, { on := 7, ground := Ground.phase }, { on := 8, ground := Ground.phase }, { on := 9, ground := Ground.phase }, { on := 10, ground := Ground.phase }, { on := 11, ground := Ground.phase }, { on := 12, ground := Ground.phase }, { on := 13, ground := Ground.phase }, { on := 14, ground := Ground.phase }, { on := 15, ground := Ground.phase }, { on := 16, ground := Ground.phase }, { on := 17, ground := Ground.phase }], guard := none } : Oper)) (v := ?_) rfl (by kernel_rfl) (by kernel_rfl) (by kernel_rfl) (fun _ _ _ h => h) (Or.inl ⟨by rfl, ?_⟩) hHeld ?_
          rotate_left
          · (intro w hS; go_simp; try with_reducible rfl)
          try simp only [Act.put, List.setIfInBounds_toArray, List.set_cons_zero, List.set_cons_succ]
          refine wpAnyH_ready (rs := [20]) (by kernel_rfl) (by simp) ?_
          refine AllReadyH.cons (o := ({ dst := none, op := Op.store 48 (Operand.tmp 43) (Operand.tmp 41), type := 0, pos := _, after := #[{ on := 19, ground := Ground.data }, { on := 17, ground := Ground.data }, { on := 17, ground := Ground.chain }, { on := 0, ground := Ground.phase }, { on := 1, ground := Ground.phase }, { on := 2, ground := Ground.phase }, { on := 3, ground := Ground.phase }, { on := 4, ground := Ground.phase }, { on := 5, ground := Ground.phase }, { on := 6, ground := Ground.phase }, { on := 7, ground := Ground.phase }, { on := 8, ground := Ground.phase }, { on := 9, ground := Ground.phase }, { on := 10, ground := Ground.phase }, { on := 11, ground := Ground.phase }, { on := 12, ground := Ground.phase }, { on := 13, ground := Ground.phase }, { on := 14, ground := Ground.phase }, { on := 15, ground := Ground.phase }, { on := 16, ground := Ground.phase }, { on := 17, ground := Ground.phase }], guard := none } : Oper)) rfl (fun K hK => ?_) AllReadyH.nil
          go_simp
          skip
          refine hK.out _ _ (by show BK _ _ _ _; assumption) (fun hHeld => ?_)
          clear hK K
          try simp only [Act.put, List.setIfInBounds_toArray, List.set_cons_zero, List.set_cons_succ]
          refine wpAnyH_done (by kernel_rfl) ?_ _
          go_wp2
          go_roundw
          case rel => exact NRF.out
          case measure => simp [intOf]; omega
        · go_simp
          skip
          refine hK.out _ _ (by show BK _ _ _ _; assumption) (fun hHeld => ?_)
          clear hK K
          try simp only [Act.put, List.setIfInBounds_toArray, List.set_cons_zero, List.set_cons_succ]
          refine wpAnyH_ready (rs := [4]) (by kernel_rfl) (by simp) ?_
          refine AllReadyH.cons (o := ({ dst := some 28, op := Op.load 48 (Operand.tmp 27), type := 48, pos := _, after := #[{ on := 3, ground := Ground.data }], guard := none } : Oper)) rfl (fun K hK => ?_) AllReadyH.nil
          go_simp
          skip
          refine hK.out _ _ (by show BK _ _ _ _; assumption) (fun hHeld => ?_)
          clear hK K
          try simp only [Act.put, List.setIfInBounds_toArray, List.set_cons_zero, List.set_cons_succ]
          refine wpAnyH_ready (rs := [17]) (by kernel_rfl) (by simp) ?_
          refine AllReadyH.cons (o := ({ dst := some 41, op := Op.call { callee := Callee.builtin Builtin.append, args := #[Operand.tmp 28, Operand.tmp 40], argTypes := #[48, 48] }, type := 48, pos := _, after := #[{ on := 4, ground := Ground.data }, { on := 16, ground := Ground.data }, { on := 9, ground := Ground.chain }], guard := none } : Oper)) rfl (fun K hK => ?_) AllReadyH.nil
          refine step_app hap (.tmp 28) (.tmp 40) (by rfl) (by rfl) (by rfl) (by rfl) (by rfl) ?_
          skip
          refine hK.out _ _ (by show BK _ _ _ _; assumption) (fun hHeld => ?_)
          clear hK K
          try simp only [Act.put, List.setIfInBounds_toArray, List.set_cons_zero, List.set_cons_succ]
          refine wpAnyH_take (i := 18) (oi := ({ dst := some 42, op := Op.nilCheck (Operand.tmp 24), type := 0, pos := _, after := #[{ on := 0, ground := Ground.data }, { on := 0, ground := Ground.phase }, { on := 1, ground := Ground.phase }, { on := 2, ground := Ground.phase }, { on := 3, ground := Ground.phase }, { on := 4, ground := Ground.phase }, { on := 5, ground := Ground.phase }, { on := 6, ground := Ground.phase }, { on := 7, ground := Ground.phase }, { on := 8, ground := Ground.phase }, { on := 9, ground := Ground.phase }, { on := 10, ground := Ground.phase }, { on := 11, ground := Ground.phase }, { on := 12, ground := Ground.phase }, { on := 13, ground := Ground.phase }, { on := 14, ground := Ground.phase }, { on := 15, ground := Ground.phase }, { on := 16, ground := Ground.phase }, { on := 17, ground := Ground.phase }], guard := none } : Oper)) (v := ?_) rfl (by kernel_rfl) (by kernel_rfl) (by kernel_rfl) (fun _ _ _ h => h) (Or.inl ⟨by rfl, ?_⟩) hHeld ?_
          rotate_left
          · (intro w hS; go_simp; try with_reducible rfl)
          try simp only [Act.put, List.setIfInBounds_toArray, List.set_cons_zero, List.set_cons_succ]
          refine wpAnyH_take (i := 19) (oi := ({ dst := some 43, op := Op.fieldAddr 50 (Operand.tmp 42) 0, type := 0, pos := _, after := #[{ on := 18, ground := Ground.data }, { on := 0, ground := Ground.phase }, { on := 1, ground := Ground.phase }, { on := 2, ground := Ground.phase }, { on := 3, ground := Ground.phase }, { on := 4, ground := Ground.phase }, { on := 5, ground := Ground.phase }, { on := 6, ground := Ground.phase }, { on := 7, ground := Ground.phase }, { on := 8, ground := Ground.phase }, { on := 9, ground := Ground.phase }, { on := 10, ground := Ground.phase }, { on := 11, ground := Ground.phase }, { on := 12, ground := Ground.phase }, { on := 13, ground := Ground.phase }, { on := 14, ground := Ground.phase }, { on := 15, ground := Ground.phase }, { on := 16, ground := Ground.phase }, { on := 17, ground := Ground.phase }], guard := none } : Oper)) (v := ?_) rfl (by kernel_rfl) (by kernel_rfl) (by kernel_rfl) (fun _ _ _ h => h) (Or.inl ⟨by rfl, ?_⟩) hHeld ?_
          rotate_left
          · (intro w hS; go_simp; try with_reducible rfl)
          try simp only [Act.put, List.setIfInBounds_toArray, List.set_cons_zero, List.set_cons_succ]
          refine wpAnyH_ready (rs := [20]) (by kernel_rfl) (by simp) ?_
          refine AllReadyH.cons (o := ({ dst := none, op := Op.store 48 (Operand.tmp 43) (Operand.tmp 41), type := 0, pos := _, after := #[{ on := 19, ground := Ground.data }, { on := 17, ground := Ground.data }, { on := 17, ground := Ground.chain }, { on := 0, ground := Ground.phase }, { on := 1, ground := Ground.phase }, { on := 2, ground := Ground.phase }, { on := 3, ground := Ground.phase }, { on := 4, ground := Ground.phase }, { on := 5, ground := Ground.phase }, { on := 6, ground := Ground.phase }, { on := 7, ground := Ground.phase }, { on := 8, ground := Ground.phase }, { on := 9, ground := Ground.phase }, { on := 10, ground := Ground.phase }, { on := 11, ground := Ground.phase }, { on := 12, ground := Ground.phase }, { on := 13, ground := Ground.phase }, { on := 14, ground := Ground.phase }, { on := 15, ground := Ground.phase }, { on := 16, ground := Ground.phase }, { on := 17, ground := Ground.phase }], guard := none } : Oper)) rfl (fun K hK => ?_) AllReadyH.nil
          go_simp
          skip
          refine hK.out _ _ (by show BK _ _ _ _; assumption) (fun hHeld => ?_)
          clear hK K
          try simp only [Act.put, List.setIfInBounds_toArray, List.set_cons_zero, List.set_cons_succ]
          refine wpAnyH_done (by kernel_rfl) ?_ _
          go_wp2
          go_roundw
          case rel => exact NRF.out
          case measure => simp [intOf]; omega
    · obtain rfl : j = M.length := by omega
      clear hRS
      go_wp2
      go_ret2
      rw [List.take_length] at hS
      exact ⟨w2.heap.size, a, c, L, w3.heap.size, rfl, by omega, B3.size, hQ, hO, hS, hL, hN, B3.trans (hB.below B3.size (by omega))⟩
end Go.Proofs.Ytlaomjhibaoglaa
