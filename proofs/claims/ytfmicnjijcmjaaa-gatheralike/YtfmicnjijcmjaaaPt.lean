/- Proved here: how a slice of parts that came in reads. Conditions: as each theorem states them. -/
import Derived.OpenShut
import Derived.WideShapes
import Derived.Deep.MidRow
import Derived.Test.YtfmicnjijcmjaaaAd
namespace Go.Proofs.Ytfmicnjijcmjaaa
set_option linter.unusedSimpArgs false
set_option linter.unusedVariables false
open Go.RowKit Go.WideShapes

/-- What is taken at a time. -/
structure Pt where
  t : Int
  ps : List UInt8
  last : Bool
  tick : Bool
def partL (x : Pt) : List Value := .int .i64 x.t :: (vals x.ps ++ [.bool x.last, .bool x.tick])
def partV (x : Pt) : Array Value := (partL x).toArray
theorem partV_size (x : Pt) : (partV x).size = x.ps.length + 3 := by simp [partV, partL, vals]
theorem partV_one (x : Pt) : (partV x).all (·.oneCell') = true := by
  rw [Array.all_eq_true_iff_forall_mem]
  intro v hv
  simp only [partV, partL, List.mem_toArray, List.mem_cons, List.mem_append, vals, List.mem_map, List.not_mem_nil, or_false] at hv
  rcases hv with rfl | ⟨x, _, rfl⟩ | rfl | rfl <;> rfl
theorem partL_t (x : Pt) : (partL x)[0]? = some (.int .i64 x.t) := rfl
theorem partL_ps {x : Pt} {j : Nat} {v : Value} (h : (vals x.ps)[j]? = some v) : (partL x)[1 + j]? = some v := by
  have hj := (List.getElem?_eq_some_iff.1 h).1
  rw [Nat.add_comm]
  show (vals x.ps ++ [.bool x.last, .bool x.tick])[j]? = _
  rw [List.getElem?_append_left hj]; exact h
theorem partL_last {x : Pt} (h : x.ps.length = 48) : (partL x)[49]? = some (.bool x.last) := by
  show (vals x.ps ++ [.bool x.last, .bool x.tick])[48]? = _
  rw [List.getElem?_append_right (by rw [vals_length, h]; omega), vals_length, h]; rfl
theorem partL_tick {x : Pt} (h : x.ps.length = 48) : (partL x)[50]? = some (.bool x.tick) := by
  show (vals x.ps ++ [.bool x.last, .bool x.tick])[49]? = _
  rw [List.getElem?_append_right (by rw [vals_length, h]; omega), vals_length, h]; rfl
theorem partL_split {x : Pt} (h : x.ps.length = 48) {j : Nat} {v : Value} (hv : (partL x)[j]? = some v) : (j = 0 ∧ v = .int .i64 x.t) ∨ (∃ i u, j = 1 + i ∧ i < 48 ∧ x.ps[i]? = some u ∧ v = .int .u8 (u.toNat : Int)) ∨ (j = 49 ∧ v = .bool x.last) ∨ (j = 50 ∧ v = .bool x.tick) := by
  have hj : j < 51 := by have := (List.getElem?_eq_some_iff.1 hv).1; simpa [partL, vals, h] using this
  by_cases h0 : j = 0
  · subst h0; left; exact ⟨rfl, (Option.some.inj hv).symm⟩
  · by_cases h1 : j = 49
    · subst h1; rw [partL_last h] at hv; exact .inr (.inr (.inl ⟨rfl, (Option.some.inj hv).symm⟩))
    · by_cases h2 : j = 50
      · subst h2; rw [partL_tick h] at hv; exact .inr (.inr (.inr ⟨rfl, (Option.some.inj hv).symm⟩))
      · right; left
        obtain ⟨u, hu⟩ : ∃ u, x.ps[j - 1]? = some u := ⟨x.ps[j - 1]'(by omega), by rw [List.getElem?_eq_getElem]⟩
        have e := partL_ps (x := x) (j := j - 1) (v := .int .u8 (u.toNat : Int)) (by simp [vals, hu])
        rw [show 1 + (j - 1) = j by omega, hv] at e
        exact ⟨j - 1, u, by omega, by omega, hu, Option.some.inj e⟩

/-- A slice of parts holds L; it lies below n. -/
def IsP (n : Nat) (W : World) (a : Option Addr) (len : Nat) (L : List Pt) : Prop :=
  len = L.length ∧ (∀ x ∈ L, x.ps.length = 48) ∧ (L = [] ∨ ∃ b off, a = some ⟨b, off, none⟩ ∧ b < n ∧ ∀ i x, L[i]? = some x → W.rangeAt b (off + i * 51) (partL x))
theorem IsP.below {n k : Nat} {A B : World} (h : Below k A B) (hk : n ≤ k) {a : Option Addr} {len : Nat} {L : List Pt} : IsP n A a len L → IsP n B a len L
  | ⟨e, h1, .inl z⟩ => ⟨e, h1, .inl z⟩
  | ⟨e, h1, .inr ⟨b, off, ea, hb, hc⟩⟩ => ⟨e, h1, .inr ⟨b, off, ea, hb, fun i x hx => range_below (hc i x hx) h (by omega)⟩⟩
theorem info30 : (Try.prog.info? 30).map (fun i => (i.zero, i.size)) = some (some (.agg (partV ⟨0, zer 48, false, false⟩)), 51) := by kernel_rfl
theorem size30 : (Try.prog.info? 30).map (·.size) = some 51 := (zero_of_info info30).2
theorem zero30 (w : World) : (zeroValue 30).run Try.prog w = .ok (.agg (partV ⟨0, zer 48, false, false⟩)) w := (zero_of_info info30).1 w
/-- A part is read. -/
theorem IsP.at {n : Nat} {W : World} {a : Option Addr} {len : Nat} {L : List Pt} (h : IsP n W a len L) {i : Nat} (hi : i < len) :
    ∃ b off x, a = some ⟨b, off, none⟩ ∧ b < n ∧ L[i]? = some x ∧ x.ps.length = 48 ∧ ∀ W', Below n W W' → (Instr.loadAt 30 (.pointer (some ⟨b, off + i * 51, none⟩))).run Try.prog W' = .ok (.agg (partV x)) W' := by
  have hl : i < L.length := by have := h.1; omega
  have hx : L[i]? = some L[i] := List.getElem?_eq_getElem hl
  rcases h.2.2 with rfl | ⟨b, off, e, hb', hc⟩
  · cases hx
  · have h48 := h.2.1 _ (List.mem_of_getElem? hx)
    exact ⟨b, off, _, e, hb', hx, h48, fun W' hB => run_loadAt_mid W' b (off + i * 51) 30 (partL L[i]) _ (range_below (hc i _ hx) hB hb') Try.underlying30 rfl (by rw [size30]; congr 1; have := partV_size L[i]; rw [h48] at this; simpa [partV] using this.symm)⟩
/-- The cells of a part in a block of its own. -/
theorem BK.part {w : World} {g : Nat} {x : Pt} {t : TypeId} (h : BK w g (partV x) t) (h48 : x.ps.length = 48) :
    w.cell? ⟨g, 0, none⟩ = some (.int .i64 x.t) ∧ w.cell? ⟨g, 49, none⟩ = some (.bool x.last) ∧ w.cell? ⟨g, 50, none⟩ = some (.bool x.tick) ∧
    IsB w.heap.size w (some ⟨g, 1, none⟩) 48 x.ps ∧ (Instr.loadAt 28 (.pointer (some ⟨g, 1, none⟩))).run Try.prog w = .ok (.agg (payV x.ps)) w := by
  have key : ∀ j v, (partL x)[j]? = some v → w.cell? ⟨g, j, none⟩ = some v := fun j v hv => h.cell j v (by simpa [partV] using hv)
  refine ⟨key 0 _ rfl, key 49 _ (partL_last h48), key 50 _ (partL_tick h48), ⟨h48.symm, .inr ⟨g, 1, rfl, h.lt, fun j u hu => key (1 + j) _ (partL_ps (by simp [vals, hu]))⟩⟩, ?_⟩
  exact run_loadAt_mid w g 1 28 (vals x.ps) _ (fun j v hv => key (1 + j) v (partL_ps hv)) Try.underlying28 rfl (by rw [size24, vals_length, h48])

theorem list_of {α : Type} {P : Nat → α → Prop} : ∀ n, (∀ i, i < n → ∃ x, P i x) → ∃ L : List α, L.length = n ∧ ∀ i x, L[i]? = some x → P i x
  | 0, _ => ⟨[], rfl, by simp⟩
  | n + 1, h => by
    obtain ⟨L, hl, hL⟩ := list_of n (fun i hi => h i (by omega))
    obtain ⟨x, hx⟩ := h n (by omega)
    refine ⟨L ++ [x], by simp [hl], fun i y hy => ?_⟩
    by_cases hi : i < n
    · exact hL i y (by rw [List.getElem?_append_left (by omega)] at hy; exact hy)
    · rw [List.getElem?_append_right (by omega)] at hy
      have : i - L.length = 0 := by have := (List.getElem?_eq_some_iff.1 hy).1; simpa using this
      rw [this] at hy
      obtain rfl : x = y := Option.some.inj hy
      rw [show i = n by omega]; exact hx

theorem part_cells {H : Type} {enc : TypeId × Value → H} {w : World} {base : Nat} {spare : Nat → Bool} {held : Bool} {fuel : Nat} {cs : List Value} {x : DataW H × List MemPlace}
    (hf : DataW.trod enc Try.prog w base spare held fuel 30 cs = some x) : ∃ p : Pt, p.ps.length = 48 ∧ ∀ (j : Nat) (v : Value), (partL p)[j]? = some v → cs[j]? = some v := by
  obtain ⟨xs, m, _, _, hl, hx, hall⟩ := DataW.trod_struct Try.underlying30 hf
  have hl2 : xs.length = 4 := by rw [hx]; rfl
  have a0 : DataW.trod enc Try.prog w base spare held m 3 (List.take (Try.prog.cellsOf 3) (List.drop 0 cs)) = xs[0]? := hall 0 _ rfl
  have a1 : DataW.trod enc Try.prog w base spare held m 28 (List.take (Try.prog.cellsOf 28) (List.drop 1 cs)) = xs[1]? := hall 1 _ rfl
  have a2 : DataW.trod enc Try.prog w base spare held m 4 (List.take (Try.prog.cellsOf 4) (List.drop 49 cs)) = xs[2]? := hall 2 _ rfl
  have a3 : DataW.trod enc Try.prog w base spare held m 4 (List.take (Try.prog.cellsOf 4) (List.drop 50 cs)) = xs[3]? := hall 3 _ rfl
  rw [show Try.prog.cellsOf 3 = 1 by kernel_rfl] at a0
  rw [show Try.prog.cellsOf 28 = 48 by kernel_rfl] at a1
  rw [show Try.prog.cellsOf 4 = 1 by kernel_rfl] at a2 a3
  have gt : ∀ k, k < 4 → ∃ y, xs[k]? = some y := fun k hk => ⟨xs[k]'(by omega), by rw [List.getElem?_eq_getElem]⟩
  obtain ⟨y0, h0⟩ := gt 0 (by omega); obtain ⟨y1, h1⟩ := gt 1 (by omega); obtain ⟨y2, h2⟩ := gt 2 (by omega); obtain ⟨y3, h3⟩ := gt 3 (by omega)
  rw [h0] at a0; rw [h1] at a1; rw [h2] at a2; rw [h3] at a3
  obtain ⟨z, hz, _, _⟩ := DataW.trod_int Try.underlying3 a0
  obtain ⟨bl, hbl, _⟩ := DataW.trod_bool Try.underlying4 a2
  obtain ⟨bt, hbt, _⟩ := DataW.trod_bool Try.underlying4 a3
  obtain ⟨ys, f, _, _, hl3, hx3, hall3⟩ := DataW.trod_array Try.underlying28 a1
  rw [show Try.prog.cellsOf 5 = 1 by kernel_rfl] at hall3
  have key : ∀ j, j < 48 → ∃ y : UInt8, cs[1 + j]? = some (.int .u8 (y.toNat : Int)) := by
    intro i hi
    have e1 := hall3 i hi
    obtain ⟨y, hy⟩ : ∃ y, ys[i]? = some y := ⟨ys[i]'(by omega), by rw [List.getElem?_eq_getElem]⟩
    rw [hy] at e1
    obtain ⟨u, hu, _, hwf⟩ := DataW.trod_int Try.underlying5 e1
    obtain ⟨q, rfl⟩ := byte_of_wf hwf
    refine ⟨q, ?_⟩
    have : (List.take 1 (List.drop (i * 1) (List.take 48 (List.drop 1 cs))))[0]? = some (.int .u8 (q.toNat : Int)) := by rw [hu]; rfl
    rw [List.getElem?_take_of_lt (by omega), List.getElem?_drop, List.getElem?_take_of_lt (by omega), List.getElem?_drop] at this
    simpa using this
  obtain ⟨ps, hps, hP⟩ := list_of (P := fun j (y : UInt8) => cs[1 + j]? = some (.int .u8 (y.toNat : Int))) 48 key
  refine ⟨⟨z, ps, bl, bt⟩, hps, fun j v hv => ?_⟩
  rcases partL_split hps hv with ⟨rfl, rfl⟩ | ⟨i, u, rfl, hi, hu, rfl⟩ | ⟨rfl, rfl⟩ | ⟨rfl, rfl⟩
  · have : (List.take 1 (List.drop 0 cs))[0]? = some (.int .i64 z) := by rw [hz]; rfl
    simpa using this
  · exact hP i u hu
  · have : (List.take 1 (List.drop 49 cs))[0]? = some (.bool bl) := by rw [hbl]; rfl
    simpa using this
  · have : (List.take 1 (List.drop 50 cs))[0]? = some (.bool bt) := by rw [hbt]; rfl
    simpa using this

theorem open_parts {H : Type} {enc : TypeId × Value → H} {w : World} {base : Nat} {spare : Nat → Bool} {held : Bool} {a : Option Addr} {len cap : Nat} {d : DataW H} {p : List MemPlace}
    (h : DataW.Trod enc Try.prog w base spare held 22 (.slice a len cap) d p) : ∃ L, IsP w.heap.size w a len L ∧ len ≤ cap := by
  obtain ⟨fuel, hf⟩ := h
  rcases DataW.trod_slice Try.underlying22 hf with ⟨hcs, _⟩ | ⟨x, l, c, elems, rest, n, _, hcs, _, _, hl, _, hlen, hel, _⟩
  · simp [Value.cells] at hcs
    obtain ⟨rfl, rfl, rfl⟩ := hcs
    exact ⟨[], ⟨rfl, by simp, .inl rfl⟩, Nat.le_refl _⟩
  · simp [Value.cells] at hcs
    obtain ⟨rfl, rfl, rfl⟩ := hcs
    rw [show Try.prog.cellsOf 30 = 51 by kernel_rfl] at hel
    have key : ∀ i, i < len → ∃ q : Pt, q.ps.length = 48 ∧ ∀ (j : Nat) (v : Value), (partL q)[j]? = some v → w.cell? ((x.add (i * 51)).add j) = some v := by
      intro i hi
      have h1' := hel i hi
      rw [List.getElem?_eq_getElem (by omega)] at h1'
      obtain ⟨cs, h2', h3⟩ := Option.bind_eq_some_iff.1 h1'
      obtain ⟨_, _, h4⟩ := World.cells?_some h2'
      obtain ⟨q, hq, hc⟩ := part_cells h3
      refine ⟨q, hq, fun j v hv => ?_⟩
      have hj : j < 51 := by have := (List.getElem?_eq_some_iff.1 hv).1; simpa [partL, vals, hq] using this
      exact (h4 j hj).trans (hc j v hv)
    by_cases h0 : len = 0
    · subst h0
      exact ⟨[], ⟨rfl, by simp, .inl rfl⟩, hl⟩
    · obtain ⟨b, off, spot⟩ := x
      have hspot : spot = none := by
        obtain ⟨q, _, hy⟩ := key 0 (by omega)
        simpa [Addr.add] using World.cell?_spot (hy 0 _ rfl)
      subst hspot
      obtain ⟨L, hL, hP⟩ := list_of len key
      refine ⟨L, ⟨hL.symm, fun x hx => ?_, .inr ⟨b, off, rfl, ?_, fun i x hx j v hv => ?_⟩⟩, hl⟩
      · obtain ⟨i, hi⟩ := List.getElem?_of_mem hx
        exact (hP i x hi).1
      · obtain ⟨q, _, hy⟩ := key 0 (by omega)
        have := hy 0 _ rfl
        rw [add_plain, add_plain] at this
        exact World.block_lt_of_cell? w ⟨b, off + 0 * 51 + 0, none⟩ this
      · have := (hP i x hx).2 j v hv
        rw [add_plain, add_plain] at this
        exact this
end Go.Proofs.Ytfmicnjijcmjaaa
