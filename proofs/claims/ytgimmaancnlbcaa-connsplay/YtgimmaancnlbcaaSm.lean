/- Proved here: how entries of a slice of one's own read, what the law's own same answers, and how keys are appended. Conditions: as each theorem states them. -/
import Derived.Test.YtgimmaancnlbcaaPu
import Derived.Test.YtgimmaancnlbcaaOps
namespace Go.Proofs.Ytgimmaancnlbcaa
set_option linter.unusedSimpArgs false
set_option linter.unusedVariables false
open Go.RowKit Go.Shelf

theorem isE_row {w : World} {base : Nat} {e : TypeId} {a : Option Addr} {n c : Nat} {L : List En} (h : w.ownsRow base e 4 (.slice a n c) n (ecells L)) (hn : n = L.length) : IsE w.heap.size w a n L := by
  refine ⟨hn, ?_⟩
  rcases h.2 with ⟨_, h0⟩ | ⟨g, cap, cur, e, hg, hh, hc, hm, hsz, ht⟩
  · left; exact List.eq_nil_of_length_eq_zero (by omega)
  · right
    simp only [Value.slice.injEq] at e
    refine ⟨g, 0, e.1, (Array.getElem?_eq_some_iff.1 hh).1, fun j v hv => ?_⟩
    have hj : j < L.length * 4 := by have := (List.getElem?_eq_some_iff.1 hv).1; rwa [ecells_length] at this
    rw [Nat.zero_add]
    refine BK.cell (show BK w g cur _ from hh) j v ?_
    rw [← ht, List.getElem?_take_of_lt (by omega)] at hv
    simpa using hv
theorem row_but {w w' : World} {base size r m k : Nat} {e : TypeId} {v : Value} {xs : List Value} (h : w.ownsRow base e size v k xs) (hb : But r m w w') (hm : w.heap.size ≤ m) (hr : r < base) : w'.ownsRow base e size v k xs := by
  refine ⟨h.1, ?_⟩
  rcases h.2 with h | ⟨g, cap, cur, e1, hg, hh, hc⟩
  · exact .inl h
  · exact .inr ⟨g, cap, cur, e1, hg, (hb.block g (by have := (Array.getElem?_eq_some_iff.1 hh).1; omega) (by omega)).trans hh, hc⟩
theorem row_below {w w' : World} {base size m k : Nat} {e : TypeId} {v : Value} {xs : List Value} (h : w.ownsRow base e size v k xs) (hb : Below m w w') (hm : w.heap.size ≤ m) : w'.ownsRow base e size v k xs := by
  refine ⟨h.1, ?_⟩
  rcases h.2 with h | ⟨g, cap, cur, e1, hg, hh, hc⟩
  · exact .inl h
  · exact .inr ⟨g, cap, cur, e1, hg, (hb.block g (by have := (Array.getElem?_eq_some_iff.1 hh).1; omega)).trans hh, hc⟩
theorem row_mono {w : World} {base base' size k : Nat} {e : TypeId} {v : Value} {xs : List Value} (h : w.ownsRow base e size v k xs) (hb : base' ≤ base) : w.ownsRow base' e size v k xs := by
  refine ⟨h.1, ?_⟩
  rcases h.2 with h | ⟨g, cap, cur, e1, hg, hc⟩
  · exact .inl h
  · exact .inr ⟨g, cap, cur, e1, Nat.le_trans hb hg, hc⟩
/-- A block beside a slice that grew. -/
theorem bk_beside {X Y : World} {base size k b : Nat} {e t : TypeId} {v : Value} {xs : List Value} {vs : Array Value} (h : BK X b vs t) (hr : X.ownsRow base e size v k xs) (hg : X.grownBy Y v.ownBlock) (ht : t ≠ e) : BK Y b vs t := by
  refine (hg.block b h.lt (fun e' => ?_)).trans h
  rcases hr.2 with ⟨rfl, _⟩ | ⟨g, cap, cur, rfl, _, hgb, _⟩
  · simp [Value.ownBlock] at e'
  · obtain rfl : b = g := by simpa [Value.ownBlock] using e'
    rw [show X.heap[b]? = _ from h] at hgb
    cases hgb
    exact ht rfl
theorem row_beside {X Y : World} {base size k base' size' k' : Nat} {e t : TypeId} {v v' : Value} {xs xs' : List Value} (h : X.ownsRow base' t size' v' k' xs') (hr : X.ownsRow base e size v k xs) (hg : X.grownBy Y v.ownBlock) (ht : t ≠ e) : Y.ownsRow base' t size' v' k' xs' := by
  refine ⟨h.1, ?_⟩
  rcases h.2 with h | ⟨g, cap, cur, e1, hg', hh, hc⟩
  · exact .inl h
  · exact .inr ⟨g, cap, cur, e1, hg', bk_beside hh hr hg ht, hc⟩
theorem TB.beside {X Y : World} {base size k b room : Nat} {e : TypeId} {v : Value} {xs : List Value} {L : List En} (h : TB X b L room) (hr : X.ownsRow base e size v k xs) (hg : X.grownBy Y v.ownBlock) (ht : 62 ≠ e) : TB Y b L room := by
  obtain ⟨S, h1, h2, h3⟩ := h.ex; exact ⟨⟨S, h1, h2, bk_beside h3 hr hg ht⟩, h.ok⟩
theorem below_row {X Y : World} {base size k n : Nat} {e : TypeId} {v : Value} {xs : List Value} (hr : X.ownsRow base e size v k xs) (hg : X.grownBy Y v.ownBlock) (hn : n ≤ base) (hs : n ≤ X.heap.size) : Below n X Y := by
  refine (Below.refl n X).grown hg hs fun j e' => ?_
  rcases hr.2 with ⟨rfl, _⟩ | ⟨g, cap, cur, rfl, hb, _⟩
  · simp [Value.ownBlock] at e'
  · obtain rfl : g = j := by simpa [Value.ownBlock] using e'
    omega

/-- Keys side by side. -/
def kcells (L : List Ky) : List Value := L.flatMap fun k => [.int .i64 k.1, .int .i64 k.2.1, .int .i64 k.2.2]
theorem kcells_length (L : List Ky) : (kcells L).length = L.length * 3 := by
  induction L with
  | nil => rfl
  | cons x L ih => simp [kcells] at ih ⊢; omega
theorem kcells_append (L M : List Ky) : kcells (L ++ M) = kcells L ++ kcells M := by simp [kcells]
theorem kcells_get {L : List Ky} {j : Nat} {k : Ky} (h : L[j]? = some k) : (kcells L)[j * 3]? = some (.int .i64 k.1) ∧ (kcells L)[j * 3 + 1]? = some (.int .i64 k.2.1) ∧ (kcells L)[j * 3 + 1 + 1]? = some (.int .i64 k.2.2) := by
  induction L generalizing j with
  | nil => cases h
  | cons y L ih =>
    have e : kcells (y :: L) = .int .i64 y.1 :: .int .i64 y.2.1 :: .int .i64 y.2.2 :: kcells L := by simp [kcells]
    rw [e]
    cases j with
    | zero => simp at h; subst h; simp
    | succ j =>
      have := ih (j := j) (by simpa using h)
      rw [show (j + 1) * 3 = j * 3 + 1 + 1 + 1 by omega, show j * 3 + 1 + 1 + 1 + 1 = (j * 3 + 1) + 1 + 1 + 1 by omega, show (j * 3 + 1) + 1 + 1 + 1 + 1 = (j * 3 + 1 + 1) + 1 + 1 + 1 by omega]
      simpa using this
theorem info_key : (Try.prog.info? 24).map (fun i => (i.zero, i.size, i.bytes)) = some (some (.agg #[.int .i64 0, .int .i64 0, .int .i64 0]), 3, 24) := by kernel_rfl
theorem run_app_k (w : World) (base : Nat) (hbase : base ≤ w.heap.size) (v : Value) (n : Nat) (Ks : List Ky) (hv : w.ownsRow base 24 3 v n (kcells Ks)) (hn : n ≤ 100) (ty : TypeId) (k : Ky) (g2 : Nat) (h2 : BK w g2 #[.int .i64 k.1, .int .i64 k.2.1, .int .i64 k.2.2] 24) :
    ∃ g c w', (Builtin.append_ #[56, 56] ty #[v, .slice (some ⟨g2, 0, none⟩) 1 1]).run Try.prog w = .ok (.slice (some ⟨g, 0, none⟩) (n + 1) c) w' ∧ w'.ownsRow base 24 3 (.slice (some ⟨g, 0, none⟩) (n + 1) c) (n + 1) (kcells (Ks ++ [k])) ∧ w.grownBy w' v.ownBlock := by
  obtain ⟨i0, hi, hz0, hz1, hz2⟩ := info_parts info_key
  have hnews : ∀ j u, (kcells [k])[j]? = some u → w.cell? ((⟨g2, 0, none⟩ : Addr).add j) = some u := by
    intro j u hu
    rw [Addr.add_lit, Nat.zero_add]
    exact h2.cell j u (by simpa [kcells] using hu)
  have hone : ∀ u ∈ kcells [k], u.oneCell' = true := by
    intro u hu
    simp [kcells] at hu
    rcases hu with rfl | rfl | rfl <;> rfl
  obtain ⟨v', w', hrun, ho, hgr, _⟩ := run_append_own (P := Try.prog) w base 56 ty 24 i0 _ 3 24 Try.underlying56 hi hz0 hz1 hz2 rfl (by decide) _ _ _ hv ⟨g2, 0, none⟩ 1 1 (kcells [k]) rfl hnews hone (by unfold maxLen; omega) (by omega) hbase
  obtain ⟨g, c, rfl⟩ := ownsRow_succ ho
  exact ⟨g, c, w', hrun, by rw [kcells_append]; exact ho, hgr⟩
theorem kcell_row {w : World} {base : Nat} {g n c : Nat} {Ks : List Ky} (h : w.ownsRow base 24 3 (.slice (some ⟨g, 0, none⟩) n c) n (kcells Ks)) (hn : n = Ks.length) {j : Nat} {k : Ky} (hk : Ks[j]? = some k) :
    w.cell? ⟨g, j * 3, none⟩ = some (.int .i64 k.1) ∧ w.cell? ⟨g, j * 3 + 1, none⟩ = some (.int .i64 k.2.1) ∧ w.cell? ⟨g, j * 3 + 1 + 1, none⟩ = some (.int .i64 k.2.2) ∧ g < w.heap.size := by
  rcases h.2 with ⟨e, _⟩ | ⟨g', cap, cur, e, hg, hh, hc, hm, hsz, ht⟩
  · cases e
  · cases e
    have hj : j < Ks.length := (List.getElem?_eq_some_iff.1 hk).1
    obtain ⟨c0, c1, c2⟩ := kcells_get hk
    rw [← ht, List.getElem?_take_of_lt (by omega)] at c0 c1 c2
    exact ⟨BK.cell (show BK w g cur _ from hh) _ _ (by simpa using c0), BK.cell (show BK w g cur _ from hh) _ _ (by simpa using c1), BK.cell (show BK w g cur _ from hh) _ _ (by simpa using c2), (Array.getElem?_eq_some_iff.1 hh).1⟩

theorem IsE.one {n : Nat} {W : World} {a : Option Addr} {len : Nat} {L : List En} (h : IsE n W a len L) {i : Nat} (hi : i < len) {x : En} (hx : L[i]? = some x) :
    ∃ b off, a = some ⟨b, off, none⟩ ∧ b < n ∧ ∀ W', Below n W W' → W'.cell? ⟨b, off + i * 4, none⟩ = some (.int .i64 x.1.1) ∧ W'.cell? ⟨b, off + i * 4 + 1, none⟩ = some (.int .i64 x.1.2.1) ∧ W'.cell? ⟨b, off + i * 4 + 1 + 1, none⟩ = some (.int .i64 x.1.2.2) ∧ W'.cell? ⟨b, off + i * 4 + 1 + 1 + 1, none⟩ = some (.int .i64 x.2) := by
  obtain ⟨b, off, y, e, hb, hy, hc⟩ := h.at hi
  obtain rfl : y = x := Option.some.inj (hy.symm.trans hx)
  exact ⟨b, off, e, hb, hc⟩

set_option maxHeartbeats 1000000 in
theorem same_calls (a b : Option Addr) (la lb ca cb : Nat) (L : List En) (hL : L.length ≤ 1000) (w : World) (h1 : IsE w.heap.size w a la L) (h2 : IsE w.heap.size w b lb L) :
    Calls Try.prog 19 #[.slice a la ca, .slice b lb cb] w fun e w' => e = .returned (.bool true) ∧ Below w.heap.size w w' := by
  obtain rfl : la = L.length := h1.1
  obtain rfl : lb = L.length := h2.1
  have q0 : (((L.length : Int)) != (L.length : Int)) = false := by simp
  go_enter Try.func19, Try.ntmps19
  go_wp2
  go_loopw [13] (fun iv wr => ∃ (i : Nat), i ≤ L.length ∧ iv = .int .i64 i ∧ Below w.heap.size w wr) (fun iv _ => L.length - (intOf iv).toNat)
  case atStart => exact ⟨0, Nat.zero_le _, rfl, Below.refl _ _⟩
  case round =>
    obtain ⟨i, hi, rfl, B3⟩ := hrel
    by_cases hlt : i < L.length
    · obtain ⟨x, hx⟩ : ∃ x, L[i]? = some x := ⟨L[i], by rw [List.getElem?_eq_getElem]⟩
      obtain ⟨g, off, rfl, hg, hc⟩ := h1.one hlt hx
      obtain ⟨g', off', rfl, hg', hc'⟩ := h2.one hlt hx
      obtain ⟨c0, c1, c2, c3⟩ := hc _ B3
      obtain ⟨c4, c5, c6, c7⟩ := hc' _ B3
      have hq : ∀ w, (binOp .neq 65 (entV x) (entV x)).run Try.prog w = .ok (.bool false) w := fun w => by rw [neq_ent]; simp
      clear hx hc hc' h1 h2
      go_wp2
      go_region
      go_wp2
      go_roundw
      case rel => exact ⟨i + 1, by omega, by go_num, B3.drew⟩
      case measure => simp [intOf]; omega
    · obtain rfl : i = L.length := by omega
      clear h1 h2
      go_wp2
      go_ret
      exact ⟨rfl, B3⟩
end Go.Proofs.Ytgimmaancnlbcaa
