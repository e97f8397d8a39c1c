/- Proved here: what contract.Rules answers, of any contract. Conditions: as each theorem states them. -/
import Derived.Test.YtlaomjhibaoglaaSmall
namespace Go.Proofs.Ytlaomjhibaoglaa
set_option linter.unusedSimpArgs false
set_option linter.unusedVariables false
open Go.RowKit Go.Shelf

/-- A rule's four cells. -/
def R4 (w : World) (g : Nat) (s e : Int) (z t : Bool) : Prop := w.cell? ⟨g, 0, none⟩ = some (.int .i64 s) ∧ w.cell? ⟨g, 1, none⟩ = some (.int .i64 e) ∧ w.cell? ⟨g, 2, none⟩ = some (.bool z) ∧ w.cell? ⟨g, 3, none⟩ = some (.bool t)
def S4 (w : World) (g : Nat) (s e : Int) (z t : Bool) : Prop := w.cell? ⟨g, 4, none⟩ = some (.int .i64 s) ∧ w.cell? ⟨g, 5, none⟩ = some (.int .i64 e) ∧ w.cell? ⟨g, 6, none⟩ = some (.bool z) ∧ w.cell? ⟨g, 7, none⟩ = some (.bool t)
theorem R4.below {w w' : World} {n g : Nat} {s e : Int} {z t : Bool} (h : R4 w g s e z t) (hb : Below n w w') (hn : g < n) : R4 w' g s e z t := by
  have hc : ∀ k, w'.cell? ⟨g, k, none⟩ = w.cell? ⟨g, k, none⟩ := fun k => hb.cell (p := ⟨g, k, none⟩) hn
  exact ⟨(hc 0).trans h.1, (hc 1).trans h.2.1, (hc 2).trans h.2.2.1, (hc 3).trans h.2.2.2⟩
theorem S4.below {w w' : World} {n g : Nat} {s e : Int} {z t : Bool} (h : S4 w g s e z t) (hb : Below n w w') (hn : g < n) : S4 w' g s e z t := by
  have hc : ∀ k, w'.cell? ⟨g, k, none⟩ = w.cell? ⟨g, k, none⟩ := fun k => hb.cell (p := ⟨g, k, none⟩) hn
  exact ⟨(hc 4).trans h.1, (hc 5).trans h.2.1, (hc 6).trans h.2.2.1, (hc 7).trans h.2.2.2⟩

theorem BK.r4 {w : World} {g : Nat} {s e : Int} {z t : Bool} {ty : TypeId} (h : BK w g #[.int .i64 s, .int .i64 e, .bool z, .bool t] ty) : R4 w g s e z t := ⟨h.cell 0 _ rfl, h.cell 1 _ rfl, h.cell 2 _ rfl, h.cell 3 _ rfl⟩

/-- One rule, and another one appended. -/
theorem run_app_rule {P : Program} (t e : TypeId) (z : Array Value) (bytes : Nat) (ht : P.underlying t = some (.slice e)) (info : (P.info? e).map (fun i => (i.zero, i.size, i.bytes)) = some (some (.agg z), 4, bytes)) (hz : (Value.agg z).cells.size = 4) (hby : bytes ≤ 32)
    (w : World) (base g g2 : Nat) (hb : base ≤ g) (s1 e1 : Int) (z1 t1 : Bool) (s2 e2 : Int) (z2 t2 : Bool) (hg : BK w g #[.int .i64 s1, .int .i64 e1, .bool z1, .bool t1] e) (hg2 : R4 w g2 s2 e2 z2 t2) (ty : TypeId) :
    ∃ g' c' w', (Builtin.append_ #[t, t] ty #[.slice (some ⟨g, 0, none⟩) 1 1, .slice (some ⟨g2, 0, none⟩) 1 1]).run P w = .ok (.slice (some ⟨g', 0, none⟩) 2 c') w' ∧ base ≤ g' ∧ g' < w'.heap.size ∧ R4 w' g' s1 e1 z1 t1 ∧ S4 w' g' s2 e2 z2 t2 ∧ Below base w w' := by
  obtain ⟨i0, hi, hz0, hz1, hz2⟩ := info_parts info
  have hlt : g < w.heap.size := hg.lt
  have hown : w.ownsRow base e 4 (.slice (some ⟨g, 0, none⟩) 1 1) 1 [.int .i64 s1, .int .i64 e1, .bool z1, .bool t1] :=
    ⟨rfl, .inr ⟨g, 1, _, rfl, hb, hg, Nat.le_refl _, by unfold maxLen; omega, rfl, rfl⟩⟩
  obtain ⟨v', w', hrun, ho, hgr, hne⟩ := run_append_own (P := P) w base t ty e i0 (.agg z) 4 bytes ht hi hz0 hz1 hz2 hz (by decide) _ _ _ hown ⟨g2, 0, none⟩ 1 1 [.int .i64 s2, .int .i64 e2, .bool z2, .bool t2] rfl
    (by
      obtain ⟨r0, r1, r2, r3⟩ := hg2
      intro j u hu
      rw [Addr.add_lit, Nat.zero_add]
      match j, hu with
      | 0, hu => simp at hu; subst hu; exact r0
      | 1, hu => simp at hu; subst hu; exact r1
      | 2, hu => simp at hu; subst hu; exact r2
      | 3, hu => simp at hu; subst hu; exact r3
      | j + 4, hu => simp at hu)
    (by intro u hu; simp at hu; rcases hu with rfl | rfl | rfl | rfl <;> rfl) (by unfold maxLen; omega) (by omega) (by omega)
  have hB : Below base w w' := (Below.refl base w).grown hgr (by omega) (fun k e => (hown.lt k e).1)
  obtain ⟨hl, h⟩ := ho
  rcases h with ⟨e, hn⟩ | ⟨g', cap, cur, e, hg', hh, hc, hm, hsz, htk⟩
  · omega
  · subst e
    have hcell : ∀ k v, ([.int .i64 s1, .int .i64 e1, .bool z1, .bool t1, .int .i64 s2, .int .i64 e2, .bool z2, .bool t2] : List Value)[k]? = some v → w'.cell? ⟨g', k, none⟩ = some v := by
      intro k v hv
      have hk : k < 8 := by have := (List.getElem?_eq_some_iff.1 hv).1; simpa using this
      unfold World.cell?
      rw [show w'.heap[(⟨g', k, none⟩ : Addr).block]? = some (.cells cur _ (0, 0)) from hh]
      show cur[k]? = _
      have e1 : (cur.toList.take ((1 + 1) * 4))[k]? = some v := by rw [htk]; exact hv
      rw [List.getElem?_take_of_lt (by omega)] at e1
      simpa using e1
    exact ⟨g', cap, w', hrun, hg', (Array.getElem?_eq_some_iff.1 hh).1, ⟨hcell 0 _ rfl, hcell 1 _ rfl, hcell 2 _ rfl, hcell 3 _ rfl⟩, ⟨hcell 4 _ rfl, hcell 5 _ rfl, hcell 6 _ rfl, hcell 7 _ rfl⟩, hB⟩

set_option maxHeartbeats 1000000 in
theorem rules_no (k p e w b l : Int) (h : okB k p e w b l = false) (W : World) : Calls Try.prog 18 #[cV k p e w b l] W fun x W' => x = .returned (.slice none 0 0) ∧ Below W.heap.size W W' := by
  have H : Hid (okB k p e w b l = false) := h
  clear h
  go_enter Try.func18, Try.ntmps18
  go_wp2_with fail
  refine (right_no H.out _).mono ?_
  rintro x w1 ⟨E, rfl, hE, b1⟩
  rcases hE with rfl | rfl <;>
  · go_wp2
    go_ret
    exact ⟨rfl, below_box2 b1⟩

set_option maxHeartbeats 1000000 in
theorem rules_one (k p e w b l : Int) (h : okB k p e w b l = true) (hv : vbrB k = false) (W : World) : Calls Try.prog 18 #[cV k p e w b l] W fun x W' => ∃ g, x = .returned (.slice (some ⟨g, 0, none⟩) 1 1) ∧ W.heap.size ≤ g ∧ g < W'.heap.size ∧ R4 W' g p e false false ∧ Below W.heap.size W W' := by
  have H : Hid (okB k p e w b l = true) := h
  obtain ⟨p0, p1, e0, e1, w0, w1', b0, b1'⟩ := can_bounds h
  have C0 := cc_new W k p e w b l
  have n2 : (k == 2) = false := by have := vbrB_not.1 hv; simp; omega
  have n3 : (k == 3) = false := by have := vbrB_not.1 hv; simp; omega
  have n4 : (k == 4) = false := by have := vbrB_not.1 hv; simp; omega
  clear h hv
  go_enter Try.func18, Try.ntmps18
  go_wp2_with fail
  refine (right_ok H.out _).mono ?_
  rintro x w1 ⟨rfl, b1⟩
  have C1 := C0.below b1 C0.lt
  obtain ⟨c0, c1, c2, c3, c4, c5⟩ := C1.facts
  have B1 := below_box2 b1
  have r1 := C1.lt
  clear C0 C1 b1
  go_wp2
  go_ret
  have hb := bk_new w1 #[.int .i64 p, .int .i64 e, .bool false, .bool false] 54
  have s1 := B1.size
  exact ⟨_, rfl, s1, by simp; omega, BK.r4 (hb.alloc _), (B1.alloc s1 _).alloc (by simp; omega) _⟩

/-- What the second rule asks, and does, by its kind. -/
def zeroB (k : Int) : Bool := decide (3 ≤ k)
def tagB (k : Int) : Bool := decide (4 ≤ k)

set_option maxHeartbeats 2000000 in
theorem rules_two (k p e w b l : Int) (h : okB k p e w b l = true) (hv : vbrB k = true) (W : World) : Calls Try.prog 18 #[cV k p e w b l] W fun x W' => ∃ g c, x = .returned (.slice (some ⟨g, 0, none⟩) 2 c) ∧ W.heap.size ≤ g ∧ g < W'.heap.size ∧ R4 W' g p e false false ∧ S4 W' g w (b + e) (zeroB k) (tagB k) ∧ Below W.heap.size W W' := by
  have H : Hid (okB k p e w b l = true) := h
  obtain ⟨p0, p1, e0, e1, w0, w1', b0, b1'⟩ := can_bounds h
  have C0 := cc_new W k p e w b l
  have hk : k = 2 ∨ k = 3 ∨ k = 4 := by have := vbrB_iff.1 hv; omega
  have app : ∀ (z t : Bool) (w1 : World), W.heap.size ≤ w1.heap.size → ∃ g' c' w', (Builtin.append_ #[51, 51] 51 #[.slice (some ⟨w1.heap.size, 0, none⟩) 1 1, .slice (some ⟨w1.heap.size + 1 + 1, 0, none⟩) 1 1]).run Try.prog
      (((w1.alloc (.cells #[.int .i64 p, .int .i64 e, .bool false, .bool false] 54)).alloc (.cells #[.int .i64 w, .int .i64 (b + e), .bool z, .bool t] 54)).alloc (.cells #[.int .i64 w, .int .i64 (b + e), .bool z, .bool t] 54)) = .ok (.slice (some ⟨g', 0, none⟩) 2 c') w' ∧
      W.heap.size ≤ g' ∧ g' < w'.heap.size ∧ R4 w' g' p e false false ∧ S4 w' g' w (b + e) z t ∧ Below W.heap.size w1 w' := by
    intro z t w1 hs
    have hb := bk_new w1 #[.int .i64 p, .int .i64 e, .bool false, .bool false] 54
    have hb2 := bk_new ((w1.alloc (.cells #[.int .i64 p, .int .i64 e, .bool false, .bool false] 54)).alloc (.cells #[.int .i64 w, .int .i64 (b + e), .bool z, .bool t] 54)) #[.int .i64 w, .int .i64 (b + e), .bool z, .bool t] 54
    rw [size_box, size_box] at hb2
    obtain ⟨g', c', w', hr, h1, h2, h3, h4, h5⟩ := run_app_rule (P := Try.prog) 51 54 #[.int .i64 0, .int .i64 0, .bool false, .bool false] 24 Try.underlying51 (by kernel_rfl) (by kernel_rfl) (by decide) _ W.heap.size w1.heap.size (w1.heap.size + 1 + 1) hs p e false false w (b + e) z t ((hb.alloc _).alloc _) (BK.r4 hb2) 51
    exact ⟨g', c', w', hr, h1, h2, h3, h4, ((((Below.refl _ w1).alloc hs _).alloc (by simp; omega) _).alloc (by simp; omega) _).trans h5⟩
  have APP : Hid (∀ (z t : Bool) (w1 : World), _) := app
  clear h hv app
  rcases hk with rfl | rfl | rfl
  · go_enter Try.func18, Try.ntmps18
    go_wp2_with fail
    refine (right_ok H.out _).mono ?_
    rintro x w1 ⟨rfl, b1⟩
    have C1 := C0.below b1 C0.lt
    obtain ⟨c0, c1, c2, c3, c4, c5⟩ := C1.facts
    have B1 := below_box2 b1
    have r1 := C1.lt
    obtain ⟨g, c, w2, hap, h1, h2, h3, h4, h5⟩ := APP.out false false w1 B1.size
    clear C0 C1 b1
    go_wp2_with (at_builtin; refine wpList_app hap _ _ rfl rfl rfl rfl rfl ?_)
    go_ret
    exact ⟨g, c, rfl, h1, h2, h3, h4, B1.trans h5⟩
  · go_enter Try.func18, Try.ntmps18
    go_wp2_with fail
    refine (right_ok H.out _).mono ?_
    rintro x w1 ⟨rfl, b1⟩
    have C1 := C0.below b1 C0.lt
    obtain ⟨c0, c1, c2, c3, c4, c5⟩ := C1.facts
    have B1 := below_box2 b1
    have r1 := C1.lt
    obtain ⟨g, c, w2, hap, h1, h2, h3, h4, h5⟩ := APP.out true false w1 B1.size
    clear C0 C1 b1
    go_wp2_with (at_builtin; refine wpList_app hap _ _ rfl rfl rfl rfl rfl ?_)
    go_ret
    exact ⟨g, c, rfl, h1, h2, h3, h4, B1.trans h5⟩
  · go_enter Try.func18, Try.ntmps18
    go_wp2_with fail
    refine (right_ok H.out _).mono ?_
    rintro x w1 ⟨rfl, b1⟩
    have C1 := C0.below b1 C0.lt
    obtain ⟨c0, c1, c2, c3, c4, c5⟩ := C1.facts
    have B1 := below_box2 b1
    have r1 := C1.lt
    obtain ⟨g, c, w2, hap, h1, h2, h3, h4, h5⟩ := APP.out true true w1 B1.size
    clear C0 C1 b1
    go_wp2_with (at_builtin; refine wpList_app hap _ _ rfl rfl rfl rfl rfl ?_)
    go_ret
    exact ⟨g, c, rfl, h1, h2, h3, h4, B1.trans h5⟩
end Go.Proofs.Ytlaomjhibaoglaa
