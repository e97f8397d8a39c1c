/- Proved here: the walk of ConnsMap. Conditions: as each theorem states them. -/
import Derived.Test.YtgimmaancnlbcaaMk
namespace Go.Proofs.Ytgimmaancnlbcaa
set_option linter.unusedSimpArgs false
set_option linter.unusedVariables false
open Go.RowKit Go.Shelf

/-- The table and the map side by side. -/
structure MI (n0 t mb : Nat) (w W : World) (L : List En) (n : Nat) : Prop where
  tab : TB W t L 64
  ex : ∃ D, W.ownsMap Try.prog 24 (plainElem Try.prog 3) mb n D ∧ MR D L
  bel : Below n0 w W
  lt : n0 ≤ t ∧ t < mb ∧ n0 ≤ w.heap.size
theorem MI.below {n0 t mb n : Nat} {w W W' : World} {L : List En} {m : Nat} (h : MI n0 t mb w W L n) (hb : Below m W W') (hm : W.heap.size ≤ m) : MI n0 t mb w W' L n := by
  obtain ⟨D, h1, h2⟩ := h.ex
  exact ⟨h.tab.below hb (Nat.lt_of_lt_of_le h.tab.lt hm), ⟨D, map_below h1 hb hm, h2⟩, h.bel.trans (hb.mono (by have := h.bel.size; have := h.lt; omega)), h.lt⟩
theorem MI.alloc {n0 t mb n : Nat} {w W : World} {L : List En} (h : MI n0 t mb w W L n) (o : Obj) : MI n0 t mb w (W.alloc o) L n := h.below (below_box W o) (Nat.le_refl _)
theorem MI.drew {n0 t mb n : Nat} {w W : World} {L : List En} (h : MI n0 t mb w W L n) : MI n0 t mb w W.drew L n := h.below (Below.refl W.heap.size W).drew (Nat.le_refl _)
theorem MI.look {n0 t mb n : Nat} {w W : World} {L : List En} (h : MI n0 t mb w W L n) {k : Ky} (hk : okK k) :
    (Instr.lookup 47 (.map (some mb)) (keyV k) true).run Try.prog W = .ok (.tuple #[.int .i64 (getN L k), .bool (getB L k)]) W := by
  obtain ⟨D, h1, h2⟩ := h.ex
  exact look_run h1 h2 hk
theorem MI.len {n0 t mb n : Nat} {w W : World} {L : List En} (h : MI n0 t mb w W L n) (ty : TypeId) : (Builtin.len_ #[47] ty #[.map (some mb)]).run Try.prog W = .ok (.int .i64 (L.length : Int)) W := by
  obtain ⟨D, h1, h2⟩ := h.ex
  rw [← h2.size]
  exact h1.len Try.underlying47 ty
/-- Dropped from the table, and then from the map. -/
theorem MI.delete {n0 t mb n : Nat} {w W V : World} {L : List En} (h : MI n0 t mb w W L n) {k : Ky} (hk : okK k) (ht : TB V t (del L k) 64) (hq : But t W.heap.size W V) (ty : TypeId) :
    ∃ V', (Builtin.delete_ #[47, 24] ty #[.map (some mb), keyV k]).run Try.prog V = .ok (.tuple #[]) V' ∧ MI n0 t mb w V' (del L k) n := by
  obtain ⟨D, h1, h2⟩ := h.ex
  obtain ⟨l1, l2, l3⟩ := h.lt
  have h3 := map_but h1 hq (Nat.le_refl _) (by omega)
  obtain ⟨V', hrun, h4, h5⟩ := h3.drop mkeyed Try.underlying47 (keyOf_key hk) ty
  have hg := but_grown h5.grown
  exact ⟨V', hrun, ht.but hg ht.lt (by omega), ⟨_, h4, h2.del (h1.tidy mkeyed) h.tab.ok hk⟩, (h.bel.trans (hq.below (by have := h.bel.size; omega) l1)).trans (hg.below (by have := h.bel.size; have := hq.size; omega) (by omega)), h.lt⟩
/-- Put into the table, and then into the map. -/
theorem MI.store {n0 t mb n : Nat} {w V : World} {L : List En} {k : Ky} {x : Int} (ht : TB V t (ins L (k, x)) 64) (hf : (fnd L k).2 = false) (hs : Ok L 64) (hk : okK k) (hx : okI x) (hn : n ≤ 100)
    (ex : ∃ D, V.ownsMap Try.prog 24 (plainElem Try.prog 3) mb n D ∧ MR D L) (bel : Below n0 w V) (lt : n0 ≤ t ∧ t < mb ∧ n0 ≤ w.heap.size) :
    ∃ V', (Instr.mapUpdate 47 (.map (some mb)) (keyV k) (.int .i64 x)).run Try.prog V = .ok () V' ∧ MI n0 t mb w V' (ins L (k, x)) (n + 1) ∧ But mb V.heap.size V V' := by
  obtain ⟨D, h1, h2⟩ := ex
  obtain ⟨l1, l2, l3⟩ := lt
  obtain ⟨V', hrun, h4, h5⟩ := h1.store mkeyed Try.underlying47 (by unfold maxLen; omega) (keyOf_key hk) (plainElem_int Try.underlying3 hx)
  have hg := but_grown h5.grown
  exact ⟨V', hrun, ⟨ht.but hg ht.lt (by omega), ⟨_, h4, h2.put (h1.tidy mkeyed) hs.srt hk hf⟩, bel.trans (hg.below (by have := bel.size; omega) (by omega)), l1, l2, l3⟩, hg⟩

theorem MI.mono {n0 t mb n n' : Nat} {w W : World} {L : List En} (h : MI n0 t mb w W L n) (hn : n ≤ n') : MI n0 t mb w W L n' := by
  obtain ⟨D, h1, h2⟩ := h.ex
  exact ⟨h.tab, ⟨D, h1.mono hn, h2⟩, h.bel, h.lt⟩
theorem putL_same {T : List En} {room : Nat} {k : Ky} {n : Int} (he : putE T room k ≠ 0) : putL T room (k, n) = T := by unfold putL; rw [if_neg he]
theorem run_mkmap (w : World) : (Instr.makeMap 47 none).run Try.prog w = .ok (.map (some w.heap.size)) (w.alloc (.map #[] 0)) := by
  simp [Instr.makeMap, go_sem]
set_option maxHeartbeats 8000000 in
set_option maxRecDepth 20000 in
theorem map_walk (s : Option Addr) (len cap : Nat) (M : List En) (w : World) (hL : IsE w.heap.size w s len M) (hwf : ∀ x ∈ M, okK x.1 ∧ okI x.2) :
    Calls Try.prog 4 #[.slice s len cap] w fun e w' => e = .returned (.bool true) ∧ Below w.heap.size w w' := by
  by_cases hl1 : 60 < len
  · have q1 : decide (60 < (len : Int)) = true := by simp; omega
    clear hL
    go_enter Try.func4, Try.ntmps4
    go_wp2_with fail
    refine (awake_calls _).mono ?_
    rintro e w1 ⟨rfl, b1⟩
    go_wp2_with fail
    refine (awake_calls _).mono ?_
    rintro e w2 ⟨rfl, b2⟩
    go_wp2
    go_ret
    exact ⟨rfl, b1.trans (b2.mono b1.size)⟩
  · have q1 : decide (60 < (len : Int)) = false := by simp; omega
    have R64 : roomN 64 = 64 := by decide
    go_enter Try.func4, Try.ntmps4
    go_wp2_with fail
    refine (awake_calls _).mono ?_
    rintro x w1 ⟨rfl, b1⟩
    go_wp2_with fail
    refine (new_calls 64 _).mono ?_
    rintro x w2 ⟨rfl, T2, b2⟩
    rw [R64] at T2
    have hl60 : len ≤ 60 := by omega
    have J3 : MI w.heap.size w1.heap.size w2.heap.size w (w2.alloc (.map #[] 0)) [] 0 :=
      ⟨T2.alloc _, ⟨.map [], World.ownsMap_made w2 _ _ _, mr_nil⟩, (b1.trans (b2.mono b1.size)).trans ((below_box w2 _).mono (Nat.le_trans b1.size b2.size)), b1.size, T2.lt, Nat.le_refl _⟩
    clear T2 b1 b2 R64 q1 hl1
    have hmk := run_mkmap w2
    generalize w1.heap.size = t at *
    go_wp2
    generalize w2.alloc (.map #[] 0) = w3 at *
    generalize w2.heap.size = mb at *
    go_loopw [29] (fun iv wr => ∃ (i : Nat) (L : List En), i ≤ len ∧ iv = .int .i64 i ∧ L.length ≤ i ∧ MI w.heap.size t mb w wr L i) (fun iv _ => len - (intOf iv).toNat)
    case atStart => exact ⟨0, [], Nat.zero_le _, rfl, Nat.le_refl _, J3⟩
    case round =>
      obtain ⟨i, L, hi, rfl, hLi, J4⟩ := hrel
      clear J3
      by_cases hlt : i < len
      · obtain ⟨g, off, x, rfl, hg, hx, hc⟩ := hL.at hlt
        obtain ⟨hxk, hxn⟩ := hwf x (List.mem_of_getElem? hx)
        obtain ⟨c0, c1, c2, c3⟩ := hc _ J4.bel
        have J5 := J4.alloc (.cells #[.int .i64 x.1.1, .int .i64 x.1.2.1, .int .i64 x.1.2.2] 24)
        have KK := bk_new wr #[.int .i64 x.1.1, .int .i64 x.1.2.1, .int .i64 x.1.2.2] 24
        have hlook := J5.look hxk
        have hgl : g < wr.heap.size := by have := J4.bel.size; omega
        obtain ⟨d0, d1, d2, d3⟩ := hc _ J5.bel
        by_cases hneg : x.2 < 0
        · have dn : decide (x.2 < 0) = true := decide_eq_true hneg
          have bb : (getB L x.1 != getB L x.1) = false := by simp
          have nn : (getN L x.1 != getN L x.1) = false := by simp
          have hdr := drop_calls J5.tab x.1
          have HJ : Hid (MI w.heap.size t mb w (wr.alloc (.cells #[.int .i64 x.1.1, .int .i64 x.1.2.1, .int .i64 x.1.2.2] 24)) L i) := J5
          have HLD : Hid ((del L x.1).length ≤ i + 1) := by
            show _ ≤ _
            cases hb : (fnd L x.1).2 with
            | true => have := del_length hb; omega
            | false => rw [del_none J5.tab.ok.srt hb]; omega
          clear hx J4 J5 hneg
          go_wp2_with fail
          refine hdr.mono ?_
          rintro e w6 ⟨rfl, T6, q6⟩
          obtain ⟨w7, hdel, J7⟩ := MI.delete HJ.out hxk T6 q6 0
          have K6 := KK.but q6 KK.lt (by have := HJ.out.tab.lt; have := HJ.out.lt; have := T6.lt; intro e; have := J7.lt; have h9 := HJ.out.ex; obtain ⟨D, h9, _⟩ := h9; have := h9.lt; simp at this; omega)
          have k0 := K6.cell 0 _ rfl
          have k1 := K6.cell 1 _ rfl
          have k2 := K6.cell 2 _ rfl
          clear hdr T6 q6 c0 c1 c2 c3 d0 d1 d2 d3 KK hlook
          go_wp2
          go_roundw
          case rel => exact ⟨i + 1, del L x.1, by omega, by go_num, HLD.out, J7.mono (by omega)⟩
          case measure => simp [intOf]; omega
        · have dn : decide (x.2 < 0) = false := decide_eq_false hneg
          have hfb := J5.tab.ok.fndB x.1
          have J6 := J5.drew
          have T6 := J6.tab
          have HJ : Hid (MI w.heap.size t mb w (wr.alloc (.cells #[.int .i64 x.1.1, .int .i64 x.1.2.1, .int .i64 x.1.2.2] 24)).drew L i) := J6
          have KKd := KK.drew
          have k0 := KKd.cell 0 _ rfl
          have k1 := KKd.cell 1 _ rfl
          have k2 := KKd.cell 2 _ rfl
          have hmbw : mb < wr.heap.size := by obtain ⟨D, h9, _⟩ := J4.ex; exact h9.lt
          have htw : t < wr.heap.size := by obtain ⟨D, h9, _⟩ := J4.ex; have := h9.lt; have := J4.lt; omega
          clear hx J4 J5 J6 hneg KK
          cases hB : getB L x.1 with
          | true =>
            rw [hB] at hlook hfb
            obtain ⟨E, hE⟩ : ∃ E, putE L 64 x.1 = E := ⟨_, rfl⟩
            have hne : putE L 64 x.1 ≠ 0 := fun e => by have := (putE_zero e).2.1; rw [hfb] at this; cases this
            have hE0 : (E == 0) = false := by rw [← hE]; simpa using hne
            have HE : Hid (putE L 64 x.1 = E) := hE
            have HT : Hid (putL L 64 (x.1, x.2) = L) := putL_same hne
            clear hE hne hB hfb
            go_wp2
            refine wp_region_held_drew (S := (fun w' => w'.cell? ⟨wr.heap.size, 0, none⟩ = some (.int .i64 x.1.1) ∧ w'.cell? ⟨wr.heap.size, 1, none⟩ = some (.int .i64 x.1.2.1) ∧ w'.cell? ⟨wr.heap.size, 2, none⟩ = some (.int .i64 x.1.2.2) ∧ w'.cell? ⟨g, off + i * 4 + 1 + 1 + 1, none⟩ = some (.int .i64 x.2))) (by kernel_rfl) ⟨k0, k1, k2, d3⟩ (fun hHeld => ?_)
            refine wpAnyH_take (i := 0) (oi := ({ dst := some 65, op := Op.move (Operand.tmp 3), type := 26, pos := _, after := #[], guard := none } : Oper)) (v := ?_) rfl (by kernel_rfl) (by kernel_rfl) (by kernel_rfl) (fun _ _ _ h => h) (Or.inl ⟨by rfl, ?_⟩) hHeld ?_
            rotate_left
            · (intro w hS; go_simp; try with_reducible rfl)
            try simp only [Act.put, List.setIfInBounds_toArray, List.set_cons_zero, List.set_cons_succ]
            refine wpAnyH_take (i := 1) (oi := ({ dst := some 66, op := Op.load 24 (Operand.tmp 6), type := 24, pos := _, after := #[], guard := none } : Oper)) (v := ?_) rfl (by kernel_rfl) (by kernel_rfl) (by kernel_rfl) (fun _ _ _ h => h) (Or.inl ⟨by rfl, ?_⟩) hHeld ?_
            rotate_left
            · (intro w hS; go_simp; try with_reducible rfl)
            try simp only [Act.put, List.setIfInBounds_toArray, List.set_cons_zero, List.set_cons_succ]
            refine wpAnyH_take (i := 2) (oi := ({ dst := some 67, op := Op.move (Operand.tmp 0), type := 22, pos := _, after := #[], guard := none } : Oper)) (v := ?_) rfl (by kernel_rfl) (by kernel_rfl) (by kernel_rfl) (fun _ _ _ h => h) (Or.inl ⟨by rfl, ?_⟩) hHeld ?_
            rotate_left
            · (intro w hS; go_simp; try with_reducible rfl)
            try simp only [Act.put, List.setIfInBounds_toArray, List.set_cons_zero, List.set_cons_succ]
            refine wpAnyH_take (i := 3) (oi := ({ dst := some 68, op := Op.move (Operand.tmp 5), type := 3, pos := _, after := #[], guard := none } : Oper)) (v := ?_) rfl (by kernel_rfl) (by kernel_rfl) (by kernel_rfl) (fun _ _ _ h => h) (Or.inl ⟨by rfl, ?_⟩) hHeld ?_
            rotate_left
            · (intro w hS; go_simp; try with_reducible rfl)
            try simp only [Act.put, List.setIfInBounds_toArray, List.set_cons_zero, List.set_cons_succ]
            refine wpAnyH_take (i := 4) (oi := ({ dst := some 69, op := Op.indexAddr 22 (Operand.tmp 67) (Operand.tmp 68), type := 0, pos := _, after := #[{ on := 2, ground := Ground.data }, { on := 3, ground := Ground.data }], guard := none } : Oper)) (v := ?_) rfl (by kernel_rfl) (by kernel_rfl) (by kernel_rfl) (fun _ _ _ h => h) (Or.inl ⟨by rfl, ?_⟩) hHeld ?_
            rotate_left
            · (intro w hS; go_simp; try with_reducible rfl)
            try simp only [Act.put, List.setIfInBounds_toArray, List.set_cons_zero, List.set_cons_succ]
            refine wpAnyH_take (i := 5) (oi := ({ dst := some 70, op := Op.fieldAddr 31 (Operand.tmp 69) 1, type := 0, pos := _, after := #[{ on := 4, ground := Ground.data }], guard := none } : Oper)) (v := ?_) rfl (by kernel_rfl) (by kernel_rfl) (by kernel_rfl) (fun _ _ _ h => h) (Or.inl ⟨by rfl, ?_⟩) hHeld ?_
            rotate_left
            · (intro w hS; go_simp; try with_reducible rfl)
            try simp only [Act.put, List.setIfInBounds_toArray, List.set_cons_zero, List.set_cons_succ]
            refine wpAnyH_take (i := 6) (oi := ({ dst := some 71, op := Op.load 3 (Operand.tmp 70), type := 3, pos := _, after := #[{ on := 5, ground := Ground.data }], guard := none } : Oper)) (v := ?_) rfl (by kernel_rfl) (by kernel_rfl) (by kernel_rfl) (fun _ _ _ h => h) (Or.inl ⟨by rfl, ?_⟩) hHeld ?_
            rotate_left
            · (intro w hS; go_simp; try with_reducible rfl)
            try simp only [Act.put, List.setIfInBounds_toArray, List.set_cons_zero, List.set_cons_succ]
            refine wpAnyH_ready (rs := [7]) (by kernel_rfl) (by simp) ?_
            refine AllReadyH.cons (o := ({ dst := some 72, op := Op.call { callee := Callee.value (Operand.func 12), args := #[Operand.tmp 65, Operand.tmp 66, Operand.tmp 71], argTypes := #[26, 24, 3] }, type := 32, pos := _, after := #[{ on := 0, ground := Ground.data }, { on := 1, ground := Ground.data }, { on := 6, ground := Ground.data }], guard := none } : Oper)) rfl (fun K hK => ?_) AllReadyH.nil
            refine step_call (put_calls T6 x.1 x.2) (enters_of Try.func12 (by kernel_rfl) rfl) _ _ rfl rfl rfl ?_
            rintro e V ⟨rfl, T7, q7⟩
            rw [HE.out]
            rw [HT.out] at T7
            have K7 := KKd.but q7 KKd.lt (by omega)
            have B7 := HJ.out.bel.trans (q7.below HJ.out.bel.size HJ.out.lt.1)
            refine ⟨_, rfl, hK.out _ _ ⟨K7.cell 0 _ rfl, K7.cell 1 _ rfl, K7.cell 2 _ rfl, (hc _ B7).2.2.2⟩ (fun hHeld => ?_)⟩
            clear hK K
            try simp only [Act.put, List.setIfInBounds_toArray, List.set_cons_zero, List.set_cons_succ]
            refine wpAnyH_take (i := 8) (oi := ({ dst := some 11, op := Op.assign (Operand.tmp 72), type := 32, pos := _, after := #[{ on := 7, ground := Ground.data }, { on := 7, ground := Ground.chain }, { on := 0, ground := Ground.phase }, { on := 1, ground := Ground.phase }, { on := 2, ground := Ground.phase }, { on := 3, ground := Ground.phase }, { on := 4, ground := Ground.phase }, { on := 5, ground := Ground.phase }, { on := 6, ground := Ground.phase }, { on := 7, ground := Ground.phase }], guard := none } : Oper)) (v := ?_) rfl (by kernel_rfl) (by kernel_rfl) (by kernel_rfl) (fun _ _ _ h => h) (Or.inl ⟨by rfl, ?_⟩) hHeld ?_
            rotate_left
            · (intro w hS; go_simp; try with_reducible rfl)
            try simp only [Act.put, List.setIfInBounds_toArray, List.set_cons_zero, List.set_cons_succ]
            refine wpAnyH_done (by kernel_rfl) ?_ _
            skip
            have J7 : MI w.heap.size t mb w V L i := by
              obtain ⟨D, h1, h2⟩ := HJ.out.ex
              exact ⟨T7, ⟨D, map_but h1 q7 (Nat.le_refl _) (by have := HJ.out.lt; omega), h2⟩, B7, HJ.out.lt⟩
            clear T6 q7 c0 c1 c2 c3 d0 d1 d2 d3 k0 k1 k2 hlook
            go_wp2
            go_roundw
            case rel => exact ⟨i + 1, L, by omega, by go_num, by omega, J7.mono (by omega)⟩
            case measure => simp [intOf]; omega
          | false =>
            rw [hB] at hlook hfb
            cases hR : rightK x.1 with
            | false =>
              have hE : putE L 64 x.1 = 1 := by unfold putE; rw [if_pos hR]
              have HE : Hid (putE L 64 x.1 = 1) := hE
              have HT : Hid (putL L 64 (x.1, x.2) = L) := putL_same (by rw [hE]; decide)
              have HR : Hid (rightK x.1 = false) := hR
              clear hE hB hfb hR
              go_wp2
              refine wp_region_held_drew (S := (fun w' => w'.cell? ⟨wr.heap.size, 0, none⟩ = some (.int .i64 x.1.1) ∧ w'.cell? ⟨wr.heap.size, 1, none⟩ = some (.int .i64 x.1.2.1) ∧ w'.cell? ⟨wr.heap.size, 2, none⟩ = some (.int .i64 x.1.2.2) ∧ w'.cell? ⟨g, off + i * 4 + 1 + 1 + 1, none⟩ = some (.int .i64 x.2))) (by kernel_rfl) ⟨k0, k1, k2, d3⟩ (fun hHeld => ?_)
              refine wpAnyH_take (i := 0) (oi := ({ dst := some 65, op := Op.move (Operand.tmp 3), type := 26, pos := _, after := #[], guard := none } : Oper)) (v := ?_) rfl (by kernel_rfl) (by kernel_rfl) (by kernel_rfl) (fun _ _ _ h => h) (Or.inl ⟨by rfl, ?_⟩) hHeld ?_
              rotate_left
              · (intro w hS; go_simp; try with_reducible rfl)
              try simp only [Act.put, List.setIfInBounds_toArray, List.set_cons_zero, List.set_cons_succ]
              refine wpAnyH_take (i := 1) (oi := ({ dst := some 66, op := Op.load 24 (Operand.tmp 6), type := 24, pos := _, after := #[], guard := none } : Oper)) (v := ?_) rfl (by kernel_rfl) (by kernel_rfl) (by kernel_rfl) (fun _ _ _ h => h) (Or.inl ⟨by rfl, ?_⟩) hHeld ?_
              rotate_left
              · (intro w hS; go_simp; try with_reducible rfl)
              try simp only [Act.put, List.setIfInBounds_toArray, List.set_cons_zero, List.set_cons_succ]
              refine wpAnyH_take (i := 2) (oi := ({ dst := some 67, op := Op.move (Operand.tmp 0), type := 22, pos := _, after := #[], guard := none } : Oper)) (v := ?_) rfl (by kernel_rfl) (by kernel_rfl) (by kernel_rfl) (fun _ _ _ h => h) (Or.inl ⟨by rfl, ?_⟩) hHeld ?_
              rotate_left
              · (intro w hS; go_simp; try with_reducible rfl)
              try simp only [Act.put, List.setIfInBounds_toArray, List.set_cons_zero, List.set_cons_succ]
              refine wpAnyH_take (i := 3) (oi := ({ dst := some 68, op := Op.move (Operand.tmp 5), type := 3, pos := _, after := #[], guard := none } : Oper)) (v := ?_) rfl (by kernel_rfl) (by kernel_rfl) (by kernel_rfl) (fun _ _ _ h => h) (Or.inl ⟨by rfl, ?_⟩) hHeld ?_
              rotate_left
              · (intro w hS; go_simp; try with_reducible rfl)
              try simp only [Act.put, List.setIfInBounds_toArray, List.set_cons_zero, List.set_cons_succ]
              refine wpAnyH_take (i := 4) (oi := ({ dst := some 69, op := Op.indexAddr 22 (Operand.tmp 67) (Operand.tmp 68), type := 0, pos := _, after := #[{ on := 2, ground := Ground.data }, { on := 3, ground := Ground.data }], guard := none } : Oper)) (v := ?_) rfl (by kernel_rfl) (by kernel_rfl) (by kernel_rfl) (fun _ _ _ h => h) (Or.inl ⟨by rfl, ?_⟩) hHeld ?_
              rotate_left
              · (intro w hS; go_simp; try with_reducible rfl)
              try simp only [Act.put, List.setIfInBounds_toArray, List.set_cons_zero, List.set_cons_succ]
              refine wpAnyH_take (i := 5) (oi := ({ dst := some 70, op := Op.fieldAddr 31 (Operand.tmp 69) 1, type := 0, pos := _, after := #[{ on := 4, ground := Ground.data }], guard := none } : Oper)) (v := ?_) rfl (by kernel_rfl) (by kernel_rfl) (by kernel_rfl) (fun _ _ _ h => h) (Or.inl ⟨by rfl, ?_⟩) hHeld ?_
              rotate_left
              · (intro w hS; go_simp; try with_reducible rfl)
              try simp only [Act.put, List.setIfInBounds_toArray, List.set_cons_zero, List.set_cons_succ]
              refine wpAnyH_take (i := 6) (oi := ({ dst := some 71, op := Op.load 3 (Operand.tmp 70), type := 3, pos := _, after := #[{ on := 5, ground := Ground.data }], guard := none } : Oper)) (v := ?_) rfl (by kernel_rfl) (by kernel_rfl) (by kernel_rfl) (fun _ _ _ h => h) (Or.inl ⟨by rfl, ?_⟩) hHeld ?_
              rotate_left
              · (intro w hS; go_simp; try with_reducible rfl)
              try simp only [Act.put, List.setIfInBounds_toArray, List.set_cons_zero, List.set_cons_succ]
              refine wpAnyH_ready (rs := [7]) (by kernel_rfl) (by simp) ?_
              refine AllReadyH.cons (o := ({ dst := some 72, op := Op.call { callee := Callee.value (Operand.func 12), args := #[Operand.tmp 65, Operand.tmp 66, Operand.tmp 71], argTypes := #[26, 24, 3] }, type := 32, pos := _, after := #[{ on := 0, ground := Ground.data }, { on := 1, ground := Ground.data }, { on := 6, ground := Ground.data }], guard := none } : Oper)) rfl (fun K hK => ?_) AllReadyH.nil
              refine step_call (put_calls T6 x.1 x.2) (enters_of Try.func12 (by kernel_rfl) rfl) _ _ rfl rfl rfl ?_
              rintro e V ⟨rfl, T7, q7⟩
              rw [HE.out]
              rw [HT.out] at T7
              have K7 := KKd.but q7 KKd.lt (by omega)
              have B7 := HJ.out.bel.trans (q7.below HJ.out.bel.size HJ.out.lt.1)
              refine ⟨_, rfl, hK.out _ _ ⟨K7.cell 0 _ rfl, K7.cell 1 _ rfl, K7.cell 2 _ rfl, (hc _ B7).2.2.2⟩ (fun hHeld => ?_)⟩
              clear hK K
              try simp only [Act.put, List.setIfInBounds_toArray, List.set_cons_zero, List.set_cons_succ]
              refine wpAnyH_take (i := 8) (oi := ({ dst := some 11, op := Op.assign (Operand.tmp 72), type := 32, pos := _, after := #[{ on := 7, ground := Ground.data }, { on := 7, ground := Ground.chain }, { on := 0, ground := Ground.phase }, { on := 1, ground := Ground.phase }, { on := 2, ground := Ground.phase }, { on := 3, ground := Ground.phase }, { on := 4, ground := Ground.phase }, { on := 5, ground := Ground.phase }, { on := 6, ground := Ground.phase }, { on := 7, ground := Ground.phase }], guard := none } : Oper)) (v := ?_) rfl (by kernel_rfl) (by kernel_rfl) (by kernel_rfl) (fun _ _ _ h => h) (Or.inl ⟨by rfl, ?_⟩) hHeld ?_
              rotate_left
              · (intro w hS; go_simp; try with_reducible rfl)
              try simp only [Act.put, List.setIfInBounds_toArray, List.set_cons_zero, List.set_cons_succ]
              refine wpAnyH_done (by kernel_rfl) ?_ _
              skip
              have J7 : MI w.heap.size t mb w V L i := by
                obtain ⟨D, h1, h2⟩ := HJ.out.ex
                exact ⟨T7, ⟨D, map_but h1 q7 (Nat.le_refl _) (by have := HJ.out.lt; omega), h2⟩, B7, HJ.out.lt⟩
              have m0 := K7.cell 0 _ rfl
              have m1 := K7.cell 1 _ rfl
              have m2 := K7.cell 2 _ rfl
              clear T6 q7 c0 c1 c2 c3 d0 d1 d2 d3 k0 k1 k2 hlook
              go_wp2_with fail
              refine (right_calls x.1 _).mono ?_
              rintro e V8 ⟨rfl, b8⟩
              rw [HR.out]
              have J8 := J7.below b8 (Nat.le_refl _)
              clear J7 m0 m1 m2
              go_wp2
              go_roundw
              case rel => exact ⟨i + 1, L, by omega, by go_num, by omega, J8.mono (by omega)⟩
              case measure => simp [intOf]; omega
            | true =>
              have hE : putE L 64 x.1 = 0 := by unfold putE; rw [if_neg (by rw [hR]; decide), if_neg (by rw [hfb]; decide), if_neg (by omega)]
              have HE : Hid (putE L 64 x.1 = 0) := hE
              have HT : Hid (putL L 64 (x.1, x.2) = ins L (x.1, x.2)) := by show _ = _; unfold putL; rw [if_pos hE]
              have HR : Hid (rightK x.1 = true) := hR
              have HF : Hid ((fnd L x.1).2 = false) := hfb
              have HO : Hid (Ok L 64) := T6.ok
              clear hE hB hfb hR
              go_wp2
              refine wp_region_held_drew (S := (fun w' => w'.cell? ⟨wr.heap.size, 0, none⟩ = some (.int .i64 x.1.1) ∧ w'.cell? ⟨wr.heap.size, 1, none⟩ = some (.int .i64 x.1.2.1) ∧ w'.cell? ⟨wr.heap.size, 2, none⟩ = some (.int .i64 x.1.2.2) ∧ w'.cell? ⟨g, off + i * 4 + 1 + 1 + 1, none⟩ = some (.int .i64 x.2))) (by kernel_rfl) ⟨k0, k1, k2, d3⟩ (fun hHeld => ?_)
              refine wpAnyH_take (i := 0) (oi := ({ dst := some 65, op := Op.move (Operand.tmp 3), type := 26, pos := _, after := #[], guard := none } : Oper)) (v := ?_) rfl (by kernel_rfl) (by kernel_rfl) (by kernel_rfl) (fun _ _ _ h => h) (Or.inl ⟨by rfl, ?_⟩) hHeld ?_
              rotate_left
              · (intro w hS; go_simp; try with_reducible rfl)
              try simp only [Act.put, List.setIfInBounds_toArray, List.set_cons_zero, List.set_cons_succ]
              refine wpAnyH_take (i := 1) (oi := ({ dst := some 66, op := Op.load 24 (Operand.tmp 6), type := 24, pos := _, after := #[], guard := none } : Oper)) (v := ?_) rfl (by kernel_rfl) (by kernel_rfl) (by kernel_rfl) (fun _ _ _ h => h) (Or.inl ⟨by rfl, ?_⟩) hHeld ?_
              rotate_left
              · (intro w hS; go_simp; try with_reducible rfl)
              try simp only [Act.put, List.setIfInBounds_toArray, List.set_cons_zero, List.set_cons_succ]
              refine wpAnyH_take (i := 2) (oi := ({ dst := some 67, op := Op.move (Operand.tmp 0), type := 22, pos := _, after := #[], guard := none } : Oper)) (v := ?_) rfl (by kernel_rfl) (by kernel_rfl) (by kernel_rfl) (fun _ _ _ h => h) (Or.inl ⟨by rfl, ?_⟩) hHeld ?_
              rotate_left
              · (intro w hS; go_simp; try with_reducible rfl)
              try simp only [Act.put, List.setIfInBounds_toArray, List.set_cons_zero, List.set_cons_succ]
              refine wpAnyH_take (i := 3) (oi := ({ dst := some 68, op := Op.move (Operand.tmp 5), type := 3, pos := _, after := #[], guard := none } : Oper)) (v := ?_) rfl (by kernel_rfl) (by kernel_rfl) (by kernel_rfl) (fun _ _ _ h => h) (Or.inl ⟨by rfl, ?_⟩) hHeld ?_
              rotate_left
              · (intro w hS; go_simp; try with_reducible rfl)
              try simp only [Act.put, List.setIfInBounds_toArray, List.set_cons_zero, List.set_cons_succ]
              refine wpAnyH_take (i := 4) (oi := ({ dst := some 69, op := Op.indexAddr 22 (Operand.tmp 67) (Operand.tmp 68), type := 0, pos := _, after := #[{ on := 2, ground := Ground.data }, { on := 3, ground := Ground.data }], guard := none } : Oper)) (v := ?_) rfl (by kernel_rfl) (by kernel_rfl) (by kernel_rfl) (fun _ _ _ h => h) (Or.inl ⟨by rfl, ?_⟩) hHeld ?_
              rotate_left
              · (intro w hS; go_simp; try with_reducible rfl)
              try simp only [Act.put, List.setIfInBounds_toArray, List.set_cons_zero, List.set_cons_succ]
              refine wpAnyH_take (i := 5) (oi := ({ dst := some 70, op := Op.fieldAddr 31 (Operand.tmp 69) 1, type := 0, pos := _, after := #[{ on := 4, ground := Ground.data }], guard := none } : Oper)) (v := ?_) rfl (by kernel_rfl) (by kernel_rfl) (by kernel_rfl) (fun _ _ _ h => h) (Or.inl ⟨by rfl, ?_⟩) hHeld ?_
              rotate_left
              · (intro w hS; go_simp; try with_reducible rfl)
              try simp only [Act.put, List.setIfInBounds_toArray, List.set_cons_zero, List.set_cons_succ]
              refine wpAnyH_take (i := 6) (oi := ({ dst := some 71, op := Op.load 3 (Operand.tmp 70), type := 3, pos := _, after := #[{ on := 5, ground := Ground.data }], guard := none } : Oper)) (v := ?_) rfl (by kernel_rfl) (by kernel_rfl) (by kernel_rfl) (fun _ _ _ h => h) (Or.inl ⟨by rfl, ?_⟩) hHeld ?_
              rotate_left
              · (intro w hS; go_simp; try with_reducible rfl)
              try simp only [Act.put, List.setIfInBounds_toArray, List.set_cons_zero, List.set_cons_succ]
              refine wpAnyH_ready (rs := [7]) (by kernel_rfl) (by simp) ?_
              refine AllReadyH.cons (o := ({ dst := some 72, op := Op.call { callee := Callee.value (Operand.func 12), args := #[Operand.tmp 65, Operand.tmp 66, Operand.tmp 71], argTypes := #[26, 24, 3] }, type := 32, pos := _, after := #[{ on := 0, ground := Ground.data }, { on := 1, ground := Ground.data }, { on := 6, ground := Ground.data }], guard := none } : Oper)) rfl (fun K hK => ?_) AllReadyH.nil
              refine step_call (put_calls T6 x.1 x.2) (enters_of Try.func12 (by kernel_rfl) rfl) _ _ rfl rfl rfl ?_
              rintro e V ⟨rfl, T7, q7⟩
              rw [HE.out]
              rw [HT.out] at T7
              have K7 := KKd.but q7 KKd.lt (by omega)
              have B7 := HJ.out.bel.trans (q7.below HJ.out.bel.size HJ.out.lt.1)
              refine ⟨_, rfl, hK.out _ _ ⟨K7.cell 0 _ rfl, K7.cell 1 _ rfl, K7.cell 2 _ rfl, (hc _ B7).2.2.2⟩ (fun hHeld => ?_)⟩
              clear hK K
              try simp only [Act.put, List.setIfInBounds_toArray, List.set_cons_zero, List.set_cons_succ]
              refine wpAnyH_take (i := 8) (oi := ({ dst := some 11, op := Op.assign (Operand.tmp 72), type := 32, pos := _, after := #[{ on := 7, ground := Ground.data }, { on := 7, ground := Ground.chain }, { on := 0, ground := Ground.phase }, { on := 1, ground := Ground.phase }, { on := 2, ground := Ground.phase }, { on := 3, ground := Ground.phase }, { on := 4, ground := Ground.phase }, { on := 5, ground := Ground.phase }, { on := 6, ground := Ground.phase }, { on := 7, ground := Ground.phase }], guard := none } : Oper)) (v := ?_) rfl (by kernel_rfl) (by kernel_rfl) (by kernel_rfl) (fun _ _ _ h => h) (Or.inl ⟨by rfl, ?_⟩) hHeld ?_
              rotate_left
              · (intro w hS; go_simp; try with_reducible rfl)
              try simp only [Act.put, List.setIfInBounds_toArray, List.set_cons_zero, List.set_cons_succ]
              refine wpAnyH_done (by kernel_rfl) ?_ _
              skip
              have hex : ∃ D, V.ownsMap Try.prog 24 (plainElem Try.prog 3) mb i D ∧ MR D L := by
                obtain ⟨D, h1, h2⟩ := HJ.out.ex
                exact ⟨D, map_but h1 q7 (Nat.le_refl _) (by have := HJ.out.lt; omega), h2⟩
              have m0 := K7.cell 0 _ rfl
              have m1 := K7.cell 1 _ rfl
              have m2 := K7.cell 2 _ rfl
              have hlt3 := HJ.out.lt
              clear T6 q7 c0 c1 c2 c3 d0 d1 d2 d3 k0 k1 k2 hlook
              go_wp2_with fail
              refine (right_calls x.1 _).mono ?_
              rintro e V8 ⟨rfl, b8⟩
              rw [HR.out]
              have T8 := (T7.below b8 T7.lt).drew
              have K8 := (K7.below b8 K7.lt).drew
              have B8 := (B7.trans (b8.mono B7.size)).drew
              have hex8 : ∃ D, V8.drew.ownsMap Try.prog 24 (plainElem Try.prog 3) mb i D ∧ MR D L := by
                obtain ⟨D, h1, h2⟩ := hex
                exact ⟨D, (map_below h1 b8 (Nat.le_refl _)).drew, h2⟩
              have d3' := (hc _ B8).2.2.2
              have p0 := K8.cell 0 _ rfl
              have p1 := K8.cell 1 _ rfl
              have p2 := K8.cell 2 _ rfl
              obtain ⟨V9, hup, J9, u9⟩ := MI.store T8 HF.out HO.out hxk hxn (by omega) hex8 B8 hlt3
              have HL9 : Hid ((ins L (x.1, x.2)).length = L.length + 1) := ins_length HF.out
              have hmw : mb < wr.heap.size := hmbw
              have K9 := K8.but u9 K8.lt (by omega)
              clear m0 m1 m2 T7 K7 B7 hex b8 hex8 T8
              go_wp2
              refine wp_region_held_drew (S := (fun w' => w'.cell? ⟨wr.heap.size, 0, none⟩ = some (.int .i64 x.1.1) ∧ w'.cell? ⟨wr.heap.size, 1, none⟩ = some (.int .i64 x.1.2.1) ∧ w'.cell? ⟨wr.heap.size, 2, none⟩ = some (.int .i64 x.1.2.2) ∧ w'.cell? ⟨g, off + i * 4 + 1 + 1 + 1, none⟩ = some (.int .i64 x.2))) (by kernel_rfl) ⟨p0, p1, p2, d3'⟩ (fun hHeld => ?_)
              refine wpAnyH_take (i := 0) (oi := ({ dst := some 84, op := Op.move (Operand.tmp 4), type := 47, pos := _, after := #[], guard := none } : Oper)) (v := ?_) rfl (by kernel_rfl) (by kernel_rfl) (by kernel_rfl) (fun _ _ _ h => h) (Or.inl ⟨by rfl, ?_⟩) hHeld ?_
              rotate_left
              · (intro w hS; go_simp; try with_reducible rfl)
              try simp only [Act.put, List.setIfInBounds_toArray, List.set_cons_zero, List.set_cons_succ]
              refine wpAnyH_take (i := 1) (oi := ({ dst := some 85, op := Op.load 24 (Operand.tmp 6), type := 24, pos := _, after := #[], guard := none } : Oper)) (v := ?_) rfl (by kernel_rfl) (by kernel_rfl) (by kernel_rfl) (fun _ _ _ h => h) (Or.inl ⟨by rfl, ?_⟩) hHeld ?_
              rotate_left
              · (intro w hS; go_simp; try with_reducible rfl)
              try simp only [Act.put, List.setIfInBounds_toArray, List.set_cons_zero, List.set_cons_succ]
              refine wpAnyH_take (i := 2) (oi := ({ dst := some 86, op := Op.move (Operand.tmp 0), type := 22, pos := _, after := #[], guard := none } : Oper)) (v := ?_) rfl (by kernel_rfl) (by kernel_rfl) (by kernel_rfl) (fun _ _ _ h => h) (Or.inl ⟨by rfl, ?_⟩) hHeld ?_
              rotate_left
              · (intro w hS; go_simp; try with_reducible rfl)
              try simp only [Act.put, List.setIfInBounds_toArray, List.set_cons_zero, List.set_cons_succ]
              refine wpAnyH_take (i := 3) (oi := ({ dst := some 87, op := Op.move (Operand.tmp 5), type := 3, pos := _, after := #[], guard := none } : Oper)) (v := ?_) rfl (by kernel_rfl) (by kernel_rfl) (by kernel_rfl) (fun _ _ _ h => h) (Or.inl ⟨by rfl, ?_⟩) hHeld ?_
              rotate_left
              · (intro w hS; go_simp; try with_reducible rfl)
              try simp only [Act.put, List.setIfInBounds_toArray, List.set_cons_zero, List.set_cons_succ]
              refine wpAnyH_take (i := 4) (oi := ({ dst := some 88, op := Op.indexAddr 22 (Operand.tmp 86) (Operand.tmp 87), type := 0, pos := _, after := #[{ on := 2, ground := Ground.data }, { on := 3, ground := Ground.data }], guard := none } : Oper)) (v := ?_) rfl (by kernel_rfl) (by kernel_rfl) (by kernel_rfl) (fun _ _ _ h => h) (Or.inl ⟨by rfl, ?_⟩) hHeld ?_
              rotate_left
              · (intro w hS; go_simp; try with_reducible rfl)
              try simp only [Act.put, List.setIfInBounds_toArray, List.set_cons_zero, List.set_cons_succ]
              refine wpAnyH_take (i := 5) (oi := ({ dst := some 89, op := Op.fieldAddr 31 (Operand.tmp 88) 1, type := 0, pos := _, after := #[{ on := 4, ground := Ground.data }], guard := none } : Oper)) (v := ?_) rfl (by kernel_rfl) (by kernel_rfl) (by kernel_rfl) (fun _ _ _ h => h) (Or.inl ⟨by rfl, ?_⟩) hHeld ?_
              rotate_left
              · (intro w hS; go_simp; try with_reducible rfl)
              try simp only [Act.put, List.setIfInBounds_toArray, List.set_cons_zero, List.set_cons_succ]
              refine wpAnyH_take (i := 6) (oi := ({ dst := some 90, op := Op.load 3 (Operand.tmp 89), type := 3, pos := _, after := #[{ on := 5, ground := Ground.data }], guard := none } : Oper)) (v := ?_) rfl (by kernel_rfl) (by kernel_rfl) (by kernel_rfl) (fun _ _ _ h => h) (Or.inl ⟨by rfl, ?_⟩) hHeld ?_
              rotate_left
              · (intro w hS; go_simp; try with_reducible rfl)
              try simp only [Act.put, List.setIfInBounds_toArray, List.set_cons_zero, List.set_cons_succ]
              refine wpAnyH_ready (rs := [7]) (by kernel_rfl) (by simp) ?_
              refine AllReadyH.cons (o := ({ dst := none, op := Op.mapUpdate 47 (Operand.tmp 84) (Operand.tmp 85) (Operand.tmp 90), type := 0, pos := _, after := #[{ on := 0, ground := Ground.data }, { on := 1, ground := Ground.data }, { on := 6, ground := Ground.data }, { on := 0, ground := Ground.phase }, { on := 1, ground := Ground.phase }, { on := 2, ground := Ground.phase }, { on := 3, ground := Ground.phase }, { on := 4, ground := Ground.phase }, { on := 5, ground := Ground.phase }, { on := 6, ground := Ground.phase }], guard := none } : Oper)) rfl (fun K hK => ?_) AllReadyH.nil
              refine step_mup hup _ _ _ rfl rfl rfl rfl rfl ?_
              skip
              refine hK.out _ _ ⟨K9.cell 0 _ rfl, K9.cell 1 _ rfl, K9.cell 2 _ rfl, (hc _ J9.bel).2.2.2⟩ (fun hHeld => ?_)
              clear hK K
              try simp only [Act.put, List.setIfInBounds_toArray, List.set_cons_zero, List.set_cons_succ]
              refine wpAnyH_done (by kernel_rfl) ?_ _
              skip
              clear p0 p1 p2 d3' hup K8 B8
              go_wp2
              go_roundw
              case rel => exact ⟨i + 1, ins L (x.1, x.2), by omega, by go_num, by have := HL9.out; omega, J9⟩
              case measure => simp [intOf]; omega
      · obtain rfl : i = len := by omega
        go_wp2
        go_loopw [94] (fun iv wz => ∃ (m : Nat), m ≤ i ∧ iv = .int .i64 m ∧ MI w.heap.size t mb w wz L i) (fun iv _ => i - (intOf iv).toNat)
        case atStart => exact ⟨0, Nat.zero_le _, rfl, J4⟩
        case round =>
          obtain ⟨m, hm, rfl, J5⟩ := hrel
          clear J4
          by_cases hlt2 : m < i
          · obtain ⟨g, off, x, rfl, hg, hx, hc⟩ := hL.at hlt2
            obtain ⟨hxk, hxn⟩ := hwf x (List.mem_of_getElem? hx)
            obtain ⟨c0, c1, c2, c3⟩ := hc _ J5.bel
            have hlook := J5.look hxk
            have bb : (getB L x.1 != getB L x.1) = false := by simp
            have nn : (getN L x.1 != getN L x.1) = false := by simp
            clear hx
            go_wp2_with fail
            refine (get_calls J5.tab x.1).mono ?_
            rintro e V6 ⟨rfl, b6⟩
            have J6 := J5.below b6 (Nat.le_refl _)
            clear J5 c0 c1 c2 c3 hlook b6
            go_wp2
            go_roundw
            case rel => exact ⟨m + 1, by omega, by go_num, J6⟩
            case measure => simp [intOf]; omega
          · have hLen := J5.len 3
            have ll : ((L.length : Int) == (L.length : Int)) = true := by simp
            go_wp2_with fail
            refine (len_calls J5.tab).mono ?_
            rintro e V6 ⟨rfl, e6⟩
            rw [e6]
            clear e6
            go_wp2
            go_ret
            exact ⟨rfl, J5.bel⟩
end Go.Proofs.Ytgimmaancnlbcaa
