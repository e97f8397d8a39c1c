/- Proved here: a map by keys that are structs, beside a table's entries. Conditions: as each theorem states them. -/
import Derived.Maps.OwnSet
import Derived.DeepKeys4
import Derived.OpenShut
import Derived.WideShapes
import Derived.Test.YtgimmaancnlbcaaSm
namespace Go.Proofs.Ytgimmaancnlbcaa
set_option linter.unusedSimpArgs false
set_option linter.unusedVariables false
open Go.RowKit Go.Shelf
open Go.Maps (Keyed)
open Go.WideShapes Go.WideMaps

/-- A number that an int can be; a key of such. -/
def okI (z : Int) : Prop := (Lit.int .i64 z).wf = true
def okK (k : Ky) : Prop := okI k.1 ∧ okI k.2.1 ∧ okI k.2.2

theorem mlaid : laidOutB Try.prog = true := by kernel_rfl
theorem mrow : (24 : TypeId) < Try.prog.types.size := of_decide_eq_true (by kernel_rfl)
theorem mwide : (match Try.prog.underlying 24 with | some (.array _ _) | some (.struct _) => true | _ => false) = true := by kernel_rfl
theorem mlaw : KeyLaw Try.prog 24 := deep_law_laid mlaid (m := 2) (by omega) mrow (by kernel_rfl) mwide
theorem mkeyed : Keyed Try.prog 24 := Keyed.of_law mlaw
theorem mformed (k : Ky) : (keyV k).formed Try.prog 24 = true := by
  have hc : Try.prog.cellsOf 24 = 3 := by kernel_rfl
  simp [Value.formed, Try.underlying24, hc]

/-- What a key reads as. -/
def kl (k : Ky) : Lit := .string (keyBytes [.int .i64 k.1, .int .i64 k.2.1, .int .i64 k.2.2])
theorem lits3 (d : Nat) (z : Int) (h : okI z) : Try.prog.keyLits (d + 1) 3 [.int .i64 z] = some [.int .i64 z] := by
  unfold Program.keyLits
  simp only [Try.underlying3]
  exact if_pos ⟨trivial, h⟩
theorem keyOf_key {k : Ky} (h : okK k) : keyOf Try.prog 24 (keyV k) = some (kl k) := by
  obtain ⟨h1, h2, h3⟩ := h
  have hk : Try.prog.keyType 24 = true := by kernel_rfl
  have hc : Try.prog.cellsOf 24 = 3 := by kernel_rfl
  have hi : Try.prog.cellsOf 3 = 1 := by kernel_rfl
  have hs : ∃ n, Try.prog.types.size = n + 1 := ⟨Try.prog.types.size - 1, (Nat.succ_pred_eq_of_pos (Nat.lt_of_le_of_lt (Nat.zero_le _) mrow)).symm⟩
  obtain ⟨n, hn⟩ := hs
  have e1 : Try.prog.keyLits (Try.prog.types.size + 1) 24 (keyV k).cells.toList = some [.int .i64 k.1, .int .i64 k.2.1, .int .i64 k.2.2] := by
    unfold Program.keyLits
    simp only [Try.underlying24, Value.cells, hc]
    rw [hn]
    simp [hi, lits3 n _ h1, lits3 n _ h2, lits3 n _ h3]
  unfold keyOf
  simp only [Try.underlying24, hk, mformed, e1, Bool.and_self, if_true, Option.map_some]
  rfl
theorem kl_inj {a b : Ky} (ha : okK a) (hb : okK b) (h : kl a = kl b) : a = b := by
  have h1 := keyOf_key ha
  have h2 := keyOf_key hb
  rw [h] at h1
  have := mkeyed.inj h1 h2
  obtain ⟨a1, a2, a3⟩ := a
  obtain ⟨b1, b2, b3⟩ := b
  simp at this
  simp [this]

/-- The map beside the entries. -/
structure MR (D : DataW Unit) (L : List En) : Prop where
  at' : ∀ k, okK k → D.atKey (kl k) (.lit (.int .i64 0)) = .lit (.int .i64 (getN L k)) ∧ Maps.has D (kl k) = getB L k
  size : Maps.size D = L.length
theorem mr_nil : MR (.map []) [] := ⟨fun k _ => ⟨rfl, rfl⟩, rfl⟩
theorem MR.put {D : DataW Unit} {L : List En} (h : MR D L) (ht : Maps.Tidy D) (hs : Srt L) {k : Ky} {n : Int} (hk : okK k) (hn : (fnd L k).2 = false) : MR (D.put (kl k) (.lit (.int .i64 n))) (ins L (k, n)) := by
  have hkl := mkeyed.key (keyOf_key hk)
  have hB : getB L k = false := by unfold getB; rw [← (fnd_look hs k).1]; exact hn
  refine ⟨fun q hq => ?_, ?_⟩
  · have hl := look_ins hs (k, n) hn q
    by_cases e : k = q
    · subst e
      rw [if_pos rfl] at hl
      rw [Maps.atKey_put_same ht.isMap hkl, Maps.has_put_same ht.isMap hkl]
      unfold getN getB
      rw [hl]
      exact ⟨rfl, rfl⟩
    · rw [if_neg e] at hl
      have hne : kl q ≠ kl k := fun e' => e (kl_inj hk hq e'.symm)
      rw [Maps.atKey_put_other hne, Maps.has_put_other hne]
      unfold getN getB
      rw [hl]
      exact h.at' q hq
  · rw [Maps.size_put ht, (h.at' k hk).2, hB, ins_length (e := (k, n)) hn, h.size]
    simp
theorem MR.del {D : DataW Unit} {L : List En} {room : Nat} (h : MR D L) (ht : Maps.Tidy D) (hs : Ok L room) {k : Ky} (hk : okK k) : MR (D.del (kl k)) (del L k) := by
  refine ⟨fun q hq => ?_, ?_⟩
  · have hl := look_del hs.srt k q
    by_cases e : k = q
    · subst e
      rw [if_pos rfl] at hl
      rw [Maps.atKey_del_same, Maps.has_del_same]
      unfold getN getB
      rw [hl]
      exact ⟨rfl, rfl⟩
    · rw [if_neg e] at hl
      have hne : kl q ≠ kl k := fun e' => e (kl_inj hk hq e'.symm)
      rw [Maps.atKey_del_other hne, Maps.has_del_other hne]
      unfold getN getB
      rw [hl]
      exact h.at' q hq
  · have h1 := Maps.size_del (k := kl k) ht
    rw [(h.at' k hk).2, h.size, ← hs.fndB] at h1
    cases hb : (fnd L k).2 with
    | true => have := del_length hb; rw [hb] at h1; simp at h1; omega
    | false => rw [del_none hs.srt hb]; rw [hb] at h1; simpa using h1

theorem mzero (w : World) : (zeroValue 3).run Try.prog w = .ok (.int .i64 0) w := by kernel_rfl
theorem look_run {w : World} {b n : Nat} {D : DataW Unit} {L : List En} (h : w.ownsMap Try.prog 24 (plainElem Try.prog 3) b n D) (hr : MR D L) {k : Ky} (hk : okK k) :
    (Instr.lookup 47 (.map (some b)) (keyV k) true).run Try.prog w = .ok (.tuple #[.int .i64 (getN L k), .bool (getB L k)]) w := by
  obtain ⟨v, ps, hrun, hv⟩ := h.look_ok mkeyed Try.underlying47 (mzero w) (plainElem_int Try.underlying3 (by decide)) (keyOf_key hk)
  obtain ⟨c, rfl, hc, _⟩ := plainElem_int_inv Try.underlying3 hv
  obtain ⟨h1, h2⟩ := hr.at' k hk
  have hc1 := congrArg Prod.fst hc
  rw [h1] at hc1
  simp at hc1
  rw [hrun, h2, hc1]
theorem map_below {w w' : World} {b n m : Nat} {D : DataW Unit} (h : w.ownsMap Try.prog 24 (plainElem Try.prog 3) b n D) (hb : Below m w w') (hm : w.heap.size ≤ m) : w'.ownsMap Try.prog 24 (plainElem Try.prog 3) b n D := by
  have hlt := h.lt
  obtain ⟨es, c, h1, h2⟩ := h
  exact ⟨es, c, (hb.block b (by omega)).trans h1, h2⟩
theorem map_but {w w' : World} {b n m r : Nat} {D : DataW Unit} (h : w.ownsMap Try.prog 24 (plainElem Try.prog 3) b n D) (hb : But r m w w') (hm : w.heap.size ≤ m) (hr : b ≠ r) : w'.ownsMap Try.prog 24 (plainElem Try.prog 3) b n D := by
  have hlt := h.lt
  obtain ⟨es, c, h1, h2⟩ := h
  exact ⟨es, c, (hb.block b (by omega) hr).trans h1, h2⟩
theorem but_grown {w w' : World} {b : Nat} (hg : w.grownBy w' (some b)) : But b w.heap.size w w' := ⟨hg.os, hg.tape, hg.output, hg.size, fun k hk hr => hg.block k hk (fun e => hr (Option.some.inj e))⟩

theorem step_mup {P : Program} {w w' : World} {t : TypeId} {M X V : Value} (hrun : (Instr.mapUpdate t M X V).run P w = .ok () w')
    {ops : Array Oper} {o : Oper} {a : Act} {K : Act → World → Prop} {Q : Exit → Act → World → Prop} {E : Prop} (m x v : Operand) (hgd : Region.wanted o (yielded ops a.tmps) = true)
    (ho : o.op = .mapUpdate t m x v) (hm : a.eval m = M) (hx : a.eval x = X) (hv : a.eval v = V)
    (h : K (a.put o.dst undef) w') : if Region.wanted o (yielded ops a.tmps) = true then Oper.wp P o a w K Q else E := by
  rw [if_pos hgd]
  unfold Oper.wp
  simp [execOp, ho, hm, hx, hv, hrun, Result.andThen]
  exact h

/-! ### The numbers that came in are ints -/
theorem one_wf {H : Type} {enc : TypeId × Value → H} {w : World} {base : Nat} {spare : Nat → Bool} {held : Bool} {fuel : Nat} {k m : Nat} {cs : List Value} {x : DataW H × List MemPlace} (hk : k < m)
    (h : DataW.trod enc Try.prog w base spare held fuel 3 (((cs.take m).drop k).take 1) = some x) : ∃ z : Int, cs[k]? = some (.int .i64 z) ∧ okI z := by
  obtain ⟨z, hz, _, hw⟩ := DataW.trod_int Try.underlying3 h
  refine ⟨z, ?_, hw⟩
  have : (((cs.take m).drop k).take 1)[0]? = some (.int .i64 z) := by rw [hz]; rfl
  rw [List.getElem?_take_of_lt (by omega), List.getElem?_drop, List.getElem?_take_of_lt (by omega)] at this
  simpa using this
theorem cell4_wf {H : Type} {enc : TypeId × Value → H} {w : World} {base : Nat} {spare : Nat → Bool} {held : Bool} {fuel : Nat} {cs : List Value} {x : DataW H × List MemPlace}
    (hf : DataW.trod enc Try.prog w base spare held fuel 31 cs = some x) : ∃ (a b c d : Int), cs[0]? = some (.int .i64 a) ∧ cs[1]? = some (.int .i64 b) ∧ cs[2]? = some (.int .i64 c) ∧ cs[3]? = some (.int .i64 d) ∧ okI a ∧ okI b ∧ okI c ∧ okI d := by
  obtain ⟨xs, m, _, _, hl, hx, hall⟩ := DataW.trod_struct Try.underlying31 hf
  have hl2 : xs.length = 2 := by rw [hx]; rfl
  have a1 : DataW.trod enc Try.prog w base spare held m 24 (List.take (Try.prog.cellsOf 24) (List.drop 0 cs)) = xs[0]? := hall 0 _ rfl
  have a2 : DataW.trod enc Try.prog w base spare held m 3 (List.take (Try.prog.cellsOf 3) (List.drop 3 cs)) = xs[1]? := hall 1 _ rfl
  rw [show Try.prog.cellsOf 24 = 3 by kernel_rfl] at a1
  rw [show Try.prog.cellsOf 3 = 1 by kernel_rfl] at a2
  obtain ⟨y, hy⟩ : ∃ y, xs[0]? = some y := ⟨xs[0]'(by omega), by rw [List.getElem?_eq_getElem]⟩
  obtain ⟨y2, hy2⟩ : ∃ y, xs[1]? = some y := ⟨xs[1]'(by omega), by rw [List.getElem?_eq_getElem]⟩
  rw [hy] at a1
  rw [hy2] at a2
  obtain ⟨ys, m2, _, _, hl3, hx3, hall3⟩ := DataW.trod_struct Try.underlying24 a1
  have hl4 : ys.length = 3 := by rw [hx3]; rfl
  have e0 : DataW.trod enc Try.prog w base spare held m2 3 (List.take (Try.prog.cellsOf 3) (List.drop 0 (List.take 3 (List.drop 0 cs)))) = ys[0]? := hall3 0 _ rfl
  have e1 : DataW.trod enc Try.prog w base spare held m2 3 (List.take (Try.prog.cellsOf 3) (List.drop 1 (List.take 3 (List.drop 0 cs)))) = ys[1]? := hall3 1 _ rfl
  have e2 : DataW.trod enc Try.prog w base spare held m2 3 (List.take (Try.prog.cellsOf 3) (List.drop 2 (List.take 3 (List.drop 0 cs)))) = ys[2]? := hall3 2 _ rfl
  rw [show Try.prog.cellsOf 3 = 1 by kernel_rfl] at e0 e1 e2
  obtain ⟨z0, hz0⟩ : ∃ y, ys[0]? = some y := ⟨ys[0]'(by omega), by rw [List.getElem?_eq_getElem]⟩
  obtain ⟨z1, hz1⟩ : ∃ y, ys[1]? = some y := ⟨ys[1]'(by omega), by rw [List.getElem?_eq_getElem]⟩
  obtain ⟨z2, hz2⟩ : ∃ y, ys[2]? = some y := ⟨ys[2]'(by omega), by rw [List.getElem?_eq_getElem]⟩
  rw [hz0] at e0
  rw [hz1] at e1
  rw [hz2] at e2
  obtain ⟨a, ha, wa⟩ := one_wf (m := 3) (k := 0) (by omega) e0
  obtain ⟨b, hb, wb⟩ := one_wf (m := 3) (k := 1) (by omega) e1
  obtain ⟨c, hc, wc⟩ := one_wf (m := 3) (k := 2) (by omega) e2
  obtain ⟨d, hd, _, wd⟩ := DataW.trod_int Try.underlying3 a2
  refine ⟨a, b, c, d, ha, hb, hc, ?_, wa, wb, wc, wd⟩
  have : (List.take 1 (List.drop 3 cs))[0]? = some (.int .i64 d) := by rw [hd]; rfl
  simpa using this
theorem wf_ents {H : Type} {enc : TypeId × Value → H} {w : World} {base : Nat} {spare : Nat → Bool} {held : Bool} {a : Option Addr} {len cap : Nat} {d : DataW H} {p : List MemPlace} {L : List En}
    (h : DataW.Trod enc Try.prog w base spare held 22 (.slice a len cap) d p) (hI : IsE w.heap.size w a len L) : ∀ x ∈ L, okK x.1 ∧ okI x.2 := by
  obtain ⟨fuel, hf⟩ := h
  intro x hx
  obtain ⟨i, hi, rfl⟩ := List.mem_iff_getElem.1 hx
  have hil : i < len := by rw [hI.1]; exact hi
  obtain ⟨b, off, e, hb, hc⟩ := hI.one hil (List.getElem?_eq_getElem hi)
  obtain ⟨c0, c1, c2, c3⟩ := hc w (Below.refl _ _)
  rcases DataW.trod_slice Try.underlying22 hf with ⟨hcs, _⟩ | ⟨y, l, c, elems, rest, n, _, hcs, _, _, hl, _, hlen, hel, _⟩
  · simp [Value.cells] at hcs
    omega
  · simp [Value.cells] at hcs
    obtain ⟨rfl, rfl, rfl⟩ := hcs
    rw [show Try.prog.cellsOf 31 = 4 by kernel_rfl] at hel
    have h1' := hel i hil
    rw [List.getElem?_eq_getElem (by omega)] at h1'
    obtain ⟨cs, h2', h3⟩ := Option.bind_eq_some_iff.1 h1'
    obtain ⟨_, _, h4⟩ := World.cells?_some h2'
    obtain ⟨q1, q2, q3, q4, y1, y2, y3, y4, w1, w2, w3, w4⟩ := cell4_wf h3
    simp only [Option.some.injEq] at e
    subst e
    have g0 := (h4 0 (by decide)).trans y1
    have g1 := (h4 1 (by decide)).trans y2
    have g2 := (h4 2 (by decide)).trans y3
    have g3 := (h4 3 (by decide)).trans y4
    rw [add_plain, add_plain] at g0 g1 g2 g3
    rw [Nat.add_zero] at g0
    have e0 := g0.symm.trans c0
    have e1 := g1.symm.trans c1
    have e2 := g2.symm.trans c2
    have e3 := g3.symm.trans c3
    simp at e0 e1 e2 e3
    rw [e0] at w1
    rw [e1] at w2
    rw [e2] at w3
    rw [e3] at w4
    exact ⟨⟨w1, w2, w3⟩, w4⟩
end Go.Proofs.Ytgimmaancnlbcaa
