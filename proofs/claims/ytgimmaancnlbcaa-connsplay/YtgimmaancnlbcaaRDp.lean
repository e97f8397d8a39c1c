/- Proved here: what the document's Drop answers, and leaves. Conditions: as each theorem states them. -/
import Derived.Test.YtgimmaancnlbcaaAp
namespace Go.Proofs.Ytgimmaancnlbcaa
set_option linter.unusedSimpArgs false
set_option linter.unusedVariables false
open Go.RowKit Go.Shelf

theorem row_zero (w : World) (t : TypeId) : (w.alloc (.cells #[] t)).ownsRow w.heap.size t 4 (.slice (some ⟨w.heap.size, 0, none⟩) 0 0) 0 (ecells []) := World.ownsRow_made w #[] 0 (Nat.le_refl _) (by decide) rfl

set_option maxHeartbeats 8000000 in
set_option maxRecDepth 20000 in
theorem rdrop_calls {w : World} {q room : Nat} {L : List En} (h : RT w q L room) (hok : Ok L room) (k : Ky) :
    Calls Try.prog 15 #[.pointer (some ⟨q, 0, none⟩), keyV k] w fun e w' => e = .returned (.tuple #[.int .i64 (getN L k), .bool (getB L k)]) ∧ RT w' q (del L k) room ∧ But q w.heap.size w w' := by
  have B0 := below_box w (.cells #[.int .i64 k.1, .int .i64 k.2.1, .int .i64 k.2.2] 24)
  have R0 := h.below B0 (Nat.le_refl _)
  have hqw := h.lt
  have HO : Hid (Ok L room) := hok
  have hlen : L.length ≤ 64 := Nat.le_trans hok.len hok.room
  clear h
  go_enter Try.func15, Try.ntmps15
  go_wp2_with fail
  refine (rat_calls R0 hok k).mono ?_
  rintro e w1 ⟨rfl, b1⟩
  have R1 := R0.below b1 (Nat.le_refl _)
  have B1 := B0.trans (b1.mono B0.size)
  clear R0 hok b1 B0
  cases hb : (fnd L k).2 with
  | false =>
    rw [atN_neg hb]
    have HB : Hid ((fnd L k).2 = false) := hb
    clear hb
    go_wp2
    go_returns
    exact ⟨ret_get (HO.out.get_no HB.out), by rw [del_none HO.out.srt HB.out]; exact R1, But.of B1⟩
  | true =>
    rw [atN_pos hb]
    obtain ⟨x, hx, hk⟩ := fnd_there hb
    have hi2 := fnd_lt hb
    have HG : Hid (getN L k = x.2 ∧ getB L k = true) := HO.out.get_yes hb hx
    have HD : Hid (del L k = L.take (fnd L k).1 ++ L.drop ((fnd L k).1 + 1)) := del_at hb
    obtain ⟨a, c, h1, h2⟩ := R1.ex
    obtain ⟨i, hii⟩ : ∃ i, (fnd L k).1 = i := ⟨_, rfl⟩
    rw [hii] at hx hi2 HD ⊢
    have E1 := isE_row h2 rfl
    have hlc : L.length ≤ c := by
      rcases h2.2 with ⟨e, e0⟩ | ⟨g, cap, cur, e, _, _, hc, _⟩
      · omega
      · simp only [Value.slice.injEq] at e; omega
    have hcn : a = none → c = 0 := by
      intro ha
      rcases h2.2 with ⟨e, e0⟩ | ⟨g, cap, cur, e, _⟩
      · simp only [Value.slice.injEq] at e; omega
      · rw [ha] at e; cases e
    obtain ⟨g, off, ha, hg, hc⟩ := E1.one hi2 hx
    obtain ⟨y0, y1, y2, y3⟩ := hc _ (Below.refl _ _)
    have q0 := h1.cell 0 _ rfl
    have HLEN : Hid (i + (L.length - (i + 1)) = (del L k).length) := by
      have := HD.out
      show _ = _
      rw [this]; simp only [List.length_append, List.length_take, List.length_drop]; omega
    have HLST : Hid (L.take i ++ L.drop (i + 1) = del L k) := HD.out.symm
    clear hb hx hk hii R1 h2 hc HD
    subst ha
    go_wp2
    generalize (some ⟨g, off, none⟩ : Option Addr) = a at *
    clear y0 y1 y2 y3
    have Z0 : Below w1.heap.size w1 w1.drew := (Below.refl _ _).drew
    have ZA := below_al Z0 (Nat.le_refl _) (.cells #[] 65)
    have hS : ∀ W', Below w1.heap.size w1 W' → W'.cell? ⟨q, 0, none⟩ = some (.slice a L.length c) := fun W' hW => (h1.below hW h1.lt).cell 0 _ rfl
    have hE : ∀ W', Below w1.heap.size w1 W' → IsE W'.heap.size W' a i (L.take i) := fun W' hW => (E1.up hW hW.size).pre (by omega)
    have hic : i ≤ c := by omega
    have hw1 : IntKind.i64.wrap ((i : Int) + 1) = (i : Int) + 1 := by rw [IntKind.wrap_i64]; omega
    have hsn := suf_none (i := i + 1) hcn
    have hE2 : ∀ W', Below w1.heap.size w1 W' → IsE W'.heap.size W' (if c = i + 1 then a else a.map (·.add ((i + 1) * 4))) (L.length - (i + 1)) (L.drop (i + 1)) := fun W' hW => (E1.up hW hW.size).suf hlc (by omega)
    have hsf : ∀ W, (Instr.slice 38 (.slice a L.length c) (some (.int .i64 ((i : Int) + 1))) none none).run Try.prog W = .ok (.slice (if c = i + 1 then a else a.map (·.add ((i + 1) * 4))) (L.length - (i + 1)) (c - (i + 1))) W := fun W => run_suf W a L.length c (i + 1) _ (by omega) (by omega) hlc
    obtain ⟨a9, ha9⟩ : ∃ a9, (if c = i + 1 then a else a.map (·.add ((i + 1) * 4))) = a9 := ⟨_, rfl⟩
    rw [ha9] at hsn
    simp only [ha9] at hE2 hsf
    clear ha9
    have row0 : w1.drew.ownsRow w1.heap.size 65 4 (.slice none 0 0) 0 (ecells []) := World.ownsRow_nil _ _ _ _
    have rowA : (w1.drew.alloc (.cells #[] 65)).ownsRow w1.heap.size 65 4 (.slice (some ⟨w1.heap.size, 0, none⟩) 0 0) 0 (ecells []) := row_zero w1.drew 65
    have qA : (w1.alloc (.cells #[] 65)).cell? ⟨q, 0, none⟩ = some (.slice a L.length c) := hS _ (below_al (Below.refl w1.heap.size w1) (Nat.le_refl _) _)
    refine wp_region_held_drew (S := (fun _ => True)) (by kernel_rfl) trivial (fun hHeld => ?_)
    refine wpAnyH_take (i := 0) (oi := ({ dst := some 21, op := Op.move (Operand.tmp 0), type := 28, pos := _, after := #[], guard := none } : Oper)) (v := ?_) rfl (by kernel_rfl) (by kernel_rfl) (by kernel_rfl) (fun _ _ _ h => h) (Or.inl ⟨by rfl, ?_⟩) hHeld ?_
    rotate_left
    · (intro w hS; go_simp; try with_reducible rfl)
    try simp only [Act.put, List.setIfInBounds_toArray, List.set_cons_zero, List.set_cons_succ]
    refine wpAnyH_take (i := 2) (oi := ({ dst := some 23, op := Op.move (Operand.tmp 0), type := 28, pos := _, after := #[], guard := none } : Oper)) (v := ?_) rfl (by kernel_rfl) (by kernel_rfl) (by kernel_rfl) (fun _ _ _ h => h) (Or.inl ⟨by rfl, ?_⟩) hHeld ?_
    rotate_left
    · (intro w hS; go_simp; try with_reducible rfl)
    try simp only [Act.put, List.setIfInBounds_toArray, List.set_cons_zero, List.set_cons_succ]
    refine wpAnyH_take (i := 3) (oi := ({ dst := some 24, op := Op.nilCheck (Operand.tmp 23), type := 0, pos := _, after := #[{ on := 2, ground := Ground.data }], guard := none } : Oper)) (v := ?_) rfl (by kernel_rfl) (by kernel_rfl) (by kernel_rfl) (fun _ _ _ h => h) (Or.inl ⟨by rfl, ?_⟩) hHeld ?_
    rotate_left
    · (intro w hS; go_simp; try with_reducible rfl)
    try simp only [Act.put, List.setIfInBounds_toArray, List.set_cons_zero, List.set_cons_succ]
    refine wpAnyH_take (i := 4) (oi := ({ dst := some 25, op := Op.fieldAddr 40 (Operand.tmp 24) 0, type := 0, pos := _, after := #[{ on := 3, ground := Ground.data }], guard := none } : Oper)) (v := ?_) rfl (by kernel_rfl) (by kernel_rfl) (by kernel_rfl) (fun _ _ _ h => h) (Or.inl ⟨by rfl, ?_⟩) hHeld ?_
    rotate_left
    · (intro w hS; go_simp; try with_reducible rfl)
    try simp only [Act.put, List.setIfInBounds_toArray, List.set_cons_zero, List.set_cons_succ]
    refine wpAnyH_take (i := 6) (oi := ({ dst := some 27, op := Op.move (Operand.tmp 6), type := 3, pos := _, after := #[], guard := none } : Oper)) (v := ?_) rfl (by kernel_rfl) (by kernel_rfl) (by kernel_rfl) (fun _ _ _ h => h) (Or.inl ⟨by rfl, ?_⟩) hHeld ?_
    rotate_left
    · (intro w hS; go_simp; try with_reducible rfl)
    try simp only [Act.put, List.setIfInBounds_toArray, List.set_cons_zero, List.set_cons_succ]
    refine wpAnyH_take (i := 9) (oi := ({ dst := some 30, op := Op.move (Operand.tmp 0), type := 28, pos := _, after := #[], guard := none } : Oper)) (v := ?_) rfl (by kernel_rfl) (by kernel_rfl) (by kernel_rfl) (fun _ _ _ h => h) (Or.inl ⟨by rfl, ?_⟩) hHeld ?_
    rotate_left
    · (intro w hS; go_simp; try with_reducible rfl)
    try simp only [Act.put, List.setIfInBounds_toArray, List.set_cons_zero, List.set_cons_succ]
    refine wpAnyH_take (i := 10) (oi := ({ dst := some 31, op := Op.nilCheck (Operand.tmp 30), type := 0, pos := _, after := #[{ on := 9, ground := Ground.data }], guard := none } : Oper)) (v := ?_) rfl (by kernel_rfl) (by kernel_rfl) (by kernel_rfl) (fun _ _ _ h => h) (Or.inl ⟨by rfl, ?_⟩) hHeld ?_
    rotate_left
    · (intro w hS; go_simp; try with_reducible rfl)
    try simp only [Act.put, List.setIfInBounds_toArray, List.set_cons_zero, List.set_cons_succ]
    refine wpAnyH_take (i := 11) (oi := ({ dst := some 32, op := Op.fieldAddr 40 (Operand.tmp 31) 0, type := 0, pos := _, after := #[{ on := 10, ground := Ground.data }], guard := none } : Oper)) (v := ?_) rfl (by kernel_rfl) (by kernel_rfl) (by kernel_rfl) (fun _ _ _ h => h) (Or.inl ⟨by rfl, ?_⟩) hHeld ?_
    rotate_left
    · (intro w hS; go_simp; try with_reducible rfl)
    try simp only [Act.put, List.setIfInBounds_toArray, List.set_cons_zero, List.set_cons_succ]
    refine wpAnyH_take (i := 13) (oi := ({ dst := some 34, op := Op.move (Operand.tmp 6), type := 3, pos := _, after := #[], guard := none } : Oper)) (v := ?_) rfl (by kernel_rfl) (by kernel_rfl) (by kernel_rfl) (fun _ _ _ h => h) (Or.inl ⟨by rfl, ?_⟩) hHeld ?_
    rotate_left
    · (intro w hS; go_simp; try with_reducible rfl)
    try simp only [Act.put, List.setIfInBounds_toArray, List.set_cons_zero, List.set_cons_succ]
    refine wpAnyH_take (i := 14) (oi := ({ dst := some 35, op := Op.binOp BinOp.add 3 (Operand.tmp 34) (Operand.const (Value.int IntKind.i64 1)) 3, type := 3, pos := _, after := #[{ on := 13, ground := Ground.data }], guard := none } : Oper)) (v := ?_) rfl (by kernel_rfl) (by kernel_rfl) (by kernel_rfl) (fun _ _ _ h => h) (Or.inl ⟨by rfl, ?_⟩) hHeld ?_
    rotate_left
    · (intro w hS; go_simp; try with_reducible rfl)
    try simp only [Act.put, List.setIfInBounds_toArray, List.set_cons_zero, List.set_cons_succ]
    refine wpAnyH_ready (rs := [1, 5, 12]) (by kernel_rfl) (by simp) ?_
    refine AllReadyH.cons (o := ({ dst := some 22, op := Op.buildSlice 38 0 #[], type := 38, pos := _, after := #[], guard := none } : Oper)) rfl (fun K hK => ?_) (AllReadyH.cons (o := ({ dst := some 26, op := Op.load 38 (Operand.tmp 25), type := 38, pos := _, after := #[{ on := 4, ground := Ground.data }], guard := none } : Oper)) rfl (fun K hK => ?_) (AllReadyH.cons (o := ({ dst := some 33, op := Op.load 38 (Operand.tmp 32), type := 38, pos := _, after := #[{ on := 11, ground := Ground.data }], guard := none } : Oper)) rfl (fun K hK => ?_) (AllReadyH.nil)))
    · go_simp
      skip
      refine hK.out _ _ trivial (fun hHeld => ?_)
      clear hK K
      try simp only [Act.put, List.setIfInBounds_toArray, List.set_cons_zero, List.set_cons_succ]
      refine wpAnyH_ready (rs := [5, 12]) (by kernel_rfl) (by simp) ?_
      refine AllReadyH.cons (o := ({ dst := some 26, op := Op.load 38 (Operand.tmp 25), type := 38, pos := _, after := #[{ on := 4, ground := Ground.data }], guard := none } : Oper)) rfl (fun K hK => ?_) (AllReadyH.cons (o := ({ dst := some 33, op := Op.load 38 (Operand.tmp 32), type := 38, pos := _, after := #[{ on := 11, ground := Ground.data }], guard := none } : Oper)) rfl (fun K hK => ?_) (AllReadyH.nil))
      · go_simp
        skip
        refine hK.out _ _ trivial (fun hHeld => ?_)
        clear hK K
        try simp only [Act.put, List.setIfInBounds_toArray, List.set_cons_zero, List.set_cons_succ]
        refine wpAnyH_take (i := 7) (oi := ({ dst := some 28, op := Op.slice 38 (Operand.tmp 26) none (some (Operand.tmp 27)) none, type := 38, pos := _, after := #[{ on := 5, ground := Ground.data }, { on := 6, ground := Ground.data }], guard := none } : Oper)) (v := ?_) rfl (by kernel_rfl) (by kernel_rfl) (by kernel_rfl) (fun _ _ _ h => h) (Or.inl ⟨by rfl, ?_⟩) hHeld ?_
        rotate_left
        · (intro w hS; go_simp; first|rfl|(rw [run_pre _ a L.length c i _ rfl hic]; rfl))
        try simp only [Act.put, List.setIfInBounds_toArray, List.set_cons_zero, List.set_cons_succ]
        refine wpAnyH_ready (rs := [8, 12]) (by kernel_rfl) (by simp) ?_
        refine AllReadyH.cons (o := ({ dst := some 29, op := Op.call { callee := Callee.builtin Builtin.append, args := #[Operand.tmp 22, Operand.tmp 28], argTypes := #[38, 38] }, type := 38, pos := _, after := #[{ on := 1, ground := Ground.data }, { on := 7, ground := Ground.data }], guard := none } : Oper)) rfl (fun K hK => ?_) (AllReadyH.cons (o := ({ dst := some 33, op := Op.load 38 (Operand.tmp 32), type := 38, pos := _, after := #[{ on := 11, ground := Ground.data }], guard := none } : Oper)) rfl (fun K hK => ?_) (AllReadyH.nil))
        · refine step_app_e (va := .slice (some ⟨w1.heap.size, 0, none⟩) 0 0) (base := w1.heap.size) (n := 0) (A := []) (B := L.take i) ZA.size rowA (hE _ ZA) hcn (by omega) _ _ rfl rfl rfl rfl ?_
          intro a8 c8 W8 row8 gr8
          simp only [Nat.zero_add, List.nil_append] at row8 ⊢
          have Z8 : Below w1.heap.size w1 W8 := ZA.trans (below_row rowA gr8 (Nat.le_refl _) ZA.size)
          have q8 := hS _ Z8
          refine hK.out _ _ trivial (fun hHeld => ?_)
          clear hK K
          try simp only [Act.put, List.setIfInBounds_toArray, List.set_cons_zero, List.set_cons_succ]
          refine wpAnyH_ready (rs := [12]) (by kernel_rfl) (by simp) ?_
          refine AllReadyH.cons (o := ({ dst := some 33, op := Op.load 38 (Operand.tmp 32), type := 38, pos := _, after := #[{ on := 11, ground := Ground.data }], guard := none } : Oper)) rfl (fun K hK => ?_) AllReadyH.nil
          go_simp
          skip
          refine hK.out _ _ trivial (fun hHeld => ?_)
          clear hK K
          try simp only [Act.put, List.setIfInBounds_toArray, List.set_cons_zero, List.set_cons_succ]
          refine wpAnyH_take (i := 15) (oi := ({ dst := some 36, op := Op.slice 38 (Operand.tmp 33) (some (Operand.tmp 35)) none none, type := 38, pos := _, after := #[{ on := 12, ground := Ground.data }, { on := 14, ground := Ground.data }], guard := none } : Oper)) (v := ?_) rfl (by kernel_rfl) (by kernel_rfl) (by kernel_rfl) (fun _ _ _ h => h) (Or.inl ⟨by rfl, ?_⟩) hHeld ?_
          rotate_left
          · (intro w hS; go_simp; first|rfl|(rw [hsf]; rfl))
          try simp only [Act.put, List.setIfInBounds_toArray, List.set_cons_zero, List.set_cons_succ]
          refine wpAnyH_ready (rs := [16]) (by kernel_rfl) (by simp) ?_
          refine AllReadyH.cons (o := ({ dst := some 37, op := Op.call { callee := Callee.builtin Builtin.append, args := #[Operand.tmp 29, Operand.tmp 36], argTypes := #[38, 38] }, type := 38, pos := _, after := #[{ on := 8, ground := Ground.data }, { on := 15, ground := Ground.data }, { on := 8, ground := Ground.chain }], guard := none } : Oper)) rfl (fun K hK => ?_) AllReadyH.nil
          refine step_app_e (va := .slice a8 i c8) (base := w1.heap.size) (n := i) (A := L.take i) (B := L.drop (i + 1)) Z8.size row8 (hE2 _ Z8) hsn (by omega) _ _ rfl rfl rfl rfl ?_
          intro a16 c16 W16 row16 gr16
          have Z16 : Below w1.heap.size w1 W16 := Z8.trans (below_row row8 gr16 (Nat.le_refl _) Z8.size)
          have h16 := h1.below Z16 h1.lt
          have p0 := h16.cell 0 _ rfl
          have f0 := h16.frozen 0
          have hBq : But q W16.heap.size W16 (W16.setCell ⟨q, 0, none⟩ (.slice a16 (i + (L.length - (i + 1))) c16)) := (But.refl q W16.heap.size W16).set (p := ⟨q, 0, none⟩) rfl _
          have hF := h16.set 0 (.slice a16 (i + (L.length - (i + 1))) c16)
          refine hK.out _ _ trivial (fun hHeld => ?_)
          clear hK K
          try simp only [Act.put, List.setIfInBounds_toArray, List.set_cons_zero, List.set_cons_succ]
          refine wpAnyH_take (i := 17) (oi := ({ dst := some 38, op := Op.nilCheck (Operand.tmp 21), type := 0, pos := _, after := #[{ on := 0, ground := Ground.data }, { on := 0, ground := Ground.phase }, { on := 1, ground := Ground.phase }, { on := 2, ground := Ground.phase }, { on := 3, ground := Ground.phase }, { on := 4, ground := Ground.phase }, { on := 5, ground := Ground.phase }, { on := 6, ground := Ground.phase }, { on := 7, ground := Ground.phase }, { on := 8, ground := Ground.phase }, { on := 9, ground := Ground.phase }, { on := 10, ground := Ground.phase }, { on := 11, ground := Ground.phase }, { on := 12, ground := Ground.phase }, { on := 13, ground := Ground.phase }, { on := 14, ground := Ground.phase }, { on := 15, ground := Ground.phase }, { on := 16, ground := Ground.phase }], guard := none } : Oper)) (v := ?_) rfl (by kernel_rfl) (by kernel_rfl) (by kernel_rfl) (fun _ _ _ h => h) (Or.inl ⟨by rfl, ?_⟩) hHeld ?_
          rotate_left
          · (intro w hS; go_simp; try with_reducible rfl)
          try simp only [Act.put, List.setIfInBounds_toArray, List.set_cons_zero, List.set_cons_succ]
          refine wpAnyH_take (i := 18) (oi := ({ dst := some 39, op := Op.fieldAddr 40 (Operand.tmp 38) 0, type := 0, pos := _, after := #[{ on := 17, ground := Ground.data }, { on := 0, ground := Ground.phase }, { on := 1, ground := Ground.phase }, { on := 2, ground := Ground.phase }, { on := 3, ground := Ground.phase }, { on := 4, ground := Ground.phase }, { on := 5, ground := Ground.phase }, { on := 6, ground := Ground.phase }, { on := 7, ground := Ground.phase }, { on := 8, ground := Ground.phase }, { on := 9, ground := Ground.phase }, { on := 10, ground := Ground.phase }, { on := 11, ground := Ground.phase }, { on := 12, ground := Ground.phase }, { on := 13, ground := Ground.phase }, { on := 14, ground := Ground.phase }, { on := 15, ground := Ground.phase }, { on := 16, ground := Ground.phase }], guard := none } : Oper)) (v := ?_) rfl (by kernel_rfl) (by kernel_rfl) (by kernel_rfl) (fun _ _ _ h => h) (Or.inl ⟨by rfl, ?_⟩) hHeld ?_
          rotate_left
          · (intro w hS; go_simp; try with_reducible rfl)
          try simp only [Act.put, List.setIfInBounds_toArray, List.set_cons_zero, List.set_cons_succ]
          refine wpAnyH_ready (rs := [19]) (by kernel_rfl) (by simp) ?_
          refine AllReadyH.cons (o := ({ dst := none, op := Op.store 38 (Operand.tmp 39) (Operand.tmp 37), type := 0, pos := _, after := #[{ on := 18, ground := Ground.data }, { on := 16, ground := Ground.data }, { on := 16, ground := Ground.chain }, { on := 0, ground := Ground.phase }, { on := 1, ground := Ground.phase }, { on := 2, ground := Ground.phase }, { on := 3, ground := Ground.phase }, { on := 4, ground := Ground.phase }, { on := 5, ground := Ground.phase }, { on := 6, ground := Ground.phase }, { on := 7, ground := Ground.phase }, { on := 8, ground := Ground.phase }, { on := 9, ground := Ground.phase }, { on := 10, ground := Ground.phase }, { on := 11, ground := Ground.phase }, { on := 12, ground := Ground.phase }, { on := 13, ground := Ground.phase }, { on := 14, ground := Ground.phase }, { on := 15, ground := Ground.phase }, { on := 16, ground := Ground.phase }], guard := none } : Oper)) rfl (fun K hK => ?_) AllReadyH.nil
          go_simp
          skip
          refine hK.out _ _ trivial (fun hHeld => ?_)
          clear hK K
          try simp only [Act.put, List.setIfInBounds_toArray, List.set_cons_zero, List.set_cons_succ]
          refine wpAnyH_done (by kernel_rfl) ?_ _
          have rowF := row_mono (row_other row16 hBq (Nat.le_refl _) h16 (by decide)) (Nat.zero_le _)
          have BF := (But.of (r := q) (B1.trans (Z16.mono B1.size))).trans (hBq.mono (Nat.le_trans B1.size Z16.size))
          go_wp2
          go_returns
          exact ⟨ret_get HG.out, ⟨a16, c16, by rw [← HLEN.out]; exact hF, by rw [← HLEN.out, ← HLST.out]; exact rowF⟩, BF⟩
        · go_simp
          skip
          refine hK.out _ _ trivial (fun hHeld => ?_)
          clear hK K
          try simp only [Act.put, List.setIfInBounds_toArray, List.set_cons_zero, List.set_cons_succ]
          refine wpAnyH_take (i := 15) (oi := ({ dst := some 36, op := Op.slice 38 (Operand.tmp 33) (some (Operand.tmp 35)) none none, type := 38, pos := _, after := #[{ on := 12, ground := Ground.data }, { on := 14, ground := Ground.data }], guard := none } : Oper)) (v := ?_) rfl (by kernel_rfl) (by kernel_rfl) (by kernel_rfl) (fun _ _ _ h => h) (Or.inl ⟨by rfl, ?_⟩) hHeld ?_
          rotate_left
          · (intro w hS; go_simp; first|rfl|(rw [hsf]; rfl))
          try simp only [Act.put, List.setIfInBounds_toArray, List.set_cons_zero, List.set_cons_succ]
          refine wpAnyH_ready (rs := [8]) (by kernel_rfl) (by simp) ?_
          refine AllReadyH.cons (o := ({ dst := some 29, op := Op.call { callee := Callee.builtin Builtin.append, args := #[Operand.tmp 22, Operand.tmp 28], argTypes := #[38, 38] }, type := 38, pos := _, after := #[{ on := 1, ground := Ground.data }, { on := 7, ground := Ground.data }], guard := none } : Oper)) rfl (fun K hK => ?_) AllReadyH.nil
          refine step_app_e (va := .slice (some ⟨w1.heap.size, 0, none⟩) 0 0) (base := w1.heap.size) (n := 0) (A := []) (B := L.take i) ZA.size rowA (hE _ ZA) hcn (by omega) _ _ rfl rfl rfl rfl ?_
          intro a8 c8 W8 row8 gr8
          simp only [Nat.zero_add, List.nil_append] at row8 ⊢
          have Z8 : Below w1.heap.size w1 W8 := ZA.trans (below_row rowA gr8 (Nat.le_refl _) ZA.size)
          have q8 := hS _ Z8
          refine hK.out _ _ trivial (fun hHeld => ?_)
          clear hK K
          try simp only [Act.put, List.setIfInBounds_toArray, List.set_cons_zero, List.set_cons_succ]
          refine wpAnyH_ready (rs := [16]) (by kernel_rfl) (by simp) ?_
          refine AllReadyH.cons (o := ({ dst := some 37, op := Op.call { callee := Callee.builtin Builtin.append, args := #[Operand.tmp 29, Operand.tmp 36], argTypes := #[38, 38] }, type := 38, pos := _, after := #[{ on := 8, ground := Ground.data }, { on := 15, ground := Ground.data }, { on := 8, ground := Ground.chain }], guard := none } : Oper)) rfl (fun K hK => ?_) AllReadyH.nil
          refine step_app_e (va := .slice a8 i c8) (base := w1.heap.size) (n := i) (A := L.take i) (B := L.drop (i + 1)) Z8.size row8 (hE2 _ Z8) hsn (by omega) _ _ rfl rfl rfl rfl ?_
          intro a16 c16 W16 row16 gr16
          have Z16 : Below w1.heap.size w1 W16 := Z8.trans (below_row row8 gr16 (Nat.le_refl _) Z8.size)
          have h16 := h1.below Z16 h1.lt
          have p0 := h16.cell 0 _ rfl
          have f0 := h16.frozen 0
          have hBq : But q W16.heap.size W16 (W16.setCell ⟨q, 0, none⟩ (.slice a16 (i + (L.length - (i + 1))) c16)) := (But.refl q W16.heap.size W16).set (p := ⟨q, 0, none⟩) rfl _
          have hF := h16.set 0 (.slice a16 (i + (L.length - (i + 1))) c16)
          refine hK.out _ _ trivial (fun hHeld => ?_)
          clear hK K
          try simp only [Act.put, List.setIfInBounds_toArray, List.set_cons_zero, List.set_cons_succ]
          refine wpAnyH_take (i := 17) (oi := ({ dst := some 38, op := Op.nilCheck (Operand.tmp 21), type := 0, pos := _, after := #[{ on := 0, ground := Ground.data }, { on := 0, ground := Ground.phase }, { on := 1, ground := Ground.phase }, { on := 2, ground := Ground.phase }, { on := 3, ground := Ground.phase }, { on := 4, ground := Ground.phase }, { on := 5, ground := Ground.phase }, { on := 6, ground := Ground.phase }, { on := 7, ground := Ground.phase }, { on := 8, ground := Ground.phase }, { on := 9, ground := Ground.phase }, { on := 10, ground := Ground.phase }, { on := 11, ground := Ground.phase }, { on := 12, ground := Ground.phase }, { on := 13, ground := Ground.phase }, { on := 14, ground := Ground.phase }, { on := 15, ground := Ground.phase }, { on := 16, ground := Ground.phase }], guard := none } : Oper)) (v := ?_) rfl (by kernel_rfl) (by kernel_rfl) (by kernel_rfl) (fun _ _ _ h => h) (Or.inl ⟨by rfl, ?_⟩) hHeld ?_
          rotate_left
          · (intro w hS; go_simp; try with_reducible rfl)
          try simp only [Act.put, List.setIfInBounds_toArray, List.set_cons_zero, List.set_cons_succ]
          refine wpAnyH_take (i := 18) (oi := ({ dst := some 39, op := Op.fieldAddr 40 (Operand.tmp 38) 0, type := 0, pos := _, after := #[{ on := 17, ground := Ground.data }, { on := 0, ground := Ground.phase }, { on := 1, ground := Ground.phase }, { on := 2, ground := Ground.phase }, { on := 3, ground := Ground.phase }, { on := 4, ground := Ground.phase }, { on := 5, ground := Ground.phase }, { on := 6, ground := Ground.phase }, { on := 7, ground := Ground.phase }, { on := 8, ground := Ground.phase }, { on := 9, ground := Ground.phase }, { on := 10, ground := Ground.phase }, { on := 11, ground := Ground.phase }, { on := 12, ground := Ground.phase }, { on := 13, ground := Ground.phase }, { on := 14, ground := Ground.phase }, { on := 15, ground := Ground.phase }, { on := 16, ground := Ground.phase }], guard := none } : Oper)) (v := ?_) rfl (by kernel_rfl) (by kernel_rfl) (by kernel_rfl) (fun _ _ _ h => h) (Or.inl ⟨by rfl, ?_⟩) hHeld ?_
          rotate_left
          · (intro w hS; go_simp; try with_reducible rfl)
          try simp only [Act.put, List.setIfInBounds_toArray, List.set_cons_zero, List.set_cons_succ]
          refine wpAnyH_ready (rs := [19]) (by kernel_rfl) (by simp) ?_
          refine AllReadyH.cons (o := ({ dst := none, op := Op.store 38 (Operand.tmp 39) (Operand.tmp 37), type := 0, pos := _, after := #[{ on := 18, ground := Ground.data }, { on := 16, ground := Ground.data }, { on := 16, ground := Ground.chain }, { on := 0, ground := Ground.phase }, { on := 1, ground := Ground.phase }, { on := 2, ground := Ground.phase }, { on := 3, ground := Ground.phase }, { on := 4, ground := Ground.phase }, { on := 5, ground := Ground.phase }, { on := 6, ground := Ground.phase }, { on := 7, ground := Ground.phase }, { on := 8, ground := Ground.phase }, { on := 9, ground := Ground.phase }, { on := 10, ground := Ground.phase }, { on := 11, ground := Ground.phase }, { on := 12, ground := Ground.phase }, { on := 13, ground := Ground.phase }, { on := 14, ground := Ground.phase }, { on := 15, ground := Ground.phase }, { on := 16, ground := Ground.phase }], guard := none } : Oper)) rfl (fun K hK => ?_) AllReadyH.nil
          go_simp
          skip
          refine hK.out _ _ trivial (fun hHeld => ?_)
          clear hK K
          try simp only [Act.put, List.setIfInBounds_toArray, List.set_cons_zero, List.set_cons_succ]
          refine wpAnyH_done (by kernel_rfl) ?_ _
          have rowF := row_mono (row_other row16 hBq (Nat.le_refl _) h16 (by decide)) (Nat.zero_le _)
          have BF := (But.of (r := q) (B1.trans (Z16.mono B1.size))).trans (hBq.mono (Nat.le_trans B1.size Z16.size))
          go_wp2
          go_returns
          exact ⟨ret_get HG.out, ⟨a16, c16, by rw [← HLEN.out]; exact hF, by rw [← HLEN.out, ← HLST.out]; exact rowF⟩, BF⟩
      · go_simp
        skip
        refine hK.out _ _ trivial (fun hHeld => ?_)
        clear hK K
        try simp only [Act.put, List.setIfInBounds_toArray, List.set_cons_zero, List.set_cons_succ]
        refine wpAnyH_take (i := 15) (oi := ({ dst := some 36, op := Op.slice 38 (Operand.tmp 33) (some (Operand.tmp 35)) none none, type := 38, pos := _, after := #[{ on := 12, ground := Ground.data }, { on := 14, ground := Ground.data }], guard := none } : Oper)) (v := ?_) rfl (by kernel_rfl) (by kernel_rfl) (by kernel_rfl) (fun _ _ _ h => h) (Or.inl ⟨by rfl, ?_⟩) hHeld ?_
        rotate_left
        · (intro w hS; go_simp; first|rfl|(rw [hsf]; rfl))
        try simp only [Act.put, List.setIfInBounds_toArray, List.set_cons_zero, List.set_cons_succ]
        refine wpAnyH_ready (rs := [5]) (by kernel_rfl) (by simp) ?_
        refine AllReadyH.cons (o := ({ dst := some 26, op := Op.load 38 (Operand.tmp 25), type := 38, pos := _, after := #[{ on := 4, ground := Ground.data }], guard := none } : Oper)) rfl (fun K hK => ?_) AllReadyH.nil
        go_simp
        skip
        refine hK.out _ _ trivial (fun hHeld => ?_)
        clear hK K
        try simp only [Act.put, List.setIfInBounds_toArray, List.set_cons_zero, List.set_cons_succ]
        refine wpAnyH_take (i := 7) (oi := ({ dst := some 28, op := Op.slice 38 (Operand.tmp 26) none (some (Operand.tmp 27)) none, type := 38, pos := _, after := #[{ on := 5, ground := Ground.data }, { on := 6, ground := Ground.data }], guard := none } : Oper)) (v := ?_) rfl (by kernel_rfl) (by kernel_rfl) (by kernel_rfl) (fun _ _ _ h => h) (Or.inl ⟨by rfl, ?_⟩) hHeld ?_
        rotate_left
        · (intro w hS; go_simp; first|rfl|(rw [run_pre _ a L.length c i _ rfl hic]; rfl))
        try simp only [Act.put, List.setIfInBounds_toArray, List.set_cons_zero, List.set_cons_succ]
        refine wpAnyH_ready (rs := [8]) (by kernel_rfl) (by simp) ?_
        refine AllReadyH.cons (o := ({ dst := some 29, op := Op.call { callee := Callee.builtin Builtin.append, args := #[Operand.tmp 22, Operand.tmp 28], argTypes := #[38, 38] }, type := 38, pos := _, after := #[{ on := 1, ground := Ground.data }, { on := 7, ground := Ground.data }], guard := none } : Oper)) rfl (fun K hK => ?_) AllReadyH.nil
        refine step_app_e (va := .slice (some ⟨w1.heap.size, 0, none⟩) 0 0) (base := w1.heap.size) (n := 0) (A := []) (B := L.take i) ZA.size rowA (hE _ ZA) hcn (by omega) _ _ rfl rfl rfl rfl ?_
        intro a8 c8 W8 row8 gr8
        simp only [Nat.zero_add, List.nil_append] at row8 ⊢
        have Z8 : Below w1.heap.size w1 W8 := ZA.trans (below_row rowA gr8 (Nat.le_refl _) ZA.size)
        have q8 := hS _ Z8
        refine hK.out _ _ trivial (fun hHeld => ?_)
        clear hK K
        try simp only [Act.put, List.setIfInBounds_toArray, List.set_cons_zero, List.set_cons_succ]
        refine wpAnyH_ready (rs := [16]) (by kernel_rfl) (by simp) ?_
        refine AllReadyH.cons (o := ({ dst := some 37, op := Op.call { callee := Callee.builtin Builtin.append, args := #[Operand.tmp 29, Operand.tmp 36], argTypes := #[38, 38] }, type := 38, pos := _, after := #[{ on := 8, ground := Ground.data }, { on := 15, ground := Ground.data }, { on := 8, ground := Ground.chain }], guard := none } : Oper)) rfl (fun K hK => ?_) AllReadyH.nil
        refine step_app_e (va := .slice a8 i c8) (base := w1.heap.size) (n := i) (A := L.take i) (B := L.drop (i + 1)) Z8.size row8 (hE2 _ Z8) hsn (by omega) _ _ rfl rfl rfl rfl ?_
        intro a16 c16 W16 row16 gr16
        have Z16 : Below w1.heap.size w1 W16 := Z8.trans (below_row row8 gr16 (Nat.le_refl _) Z8.size)
        have h16 := h1.below Z16 h1.lt
        have p0 := h16.cell 0 _ rfl
        have f0 := h16.frozen 0
        have hBq : But q W16.heap.size W16 (W16.setCell ⟨q, 0, none⟩ (.slice a16 (i + (L.length - (i + 1))) c16)) := (But.refl q W16.heap.size W16).set (p := ⟨q, 0, none⟩) rfl _
        have hF := h16.set 0 (.slice a16 (i + (L.length - (i + 1))) c16)
        refine hK.out _ _ trivial (fun hHeld => ?_)
        clear hK K
        try simp only [Act.put, List.setIfInBounds_toArray, List.set_cons_zero, List.set_cons_succ]
        refine wpAnyH_take (i := 17) (oi := ({ dst := some 38, op := Op.nilCheck (Operand.tmp 21), type := 0, pos := _, after := #[{ on := 0, ground := Ground.data }, { on := 0, ground := Ground.phase }, { on := 1, ground := Ground.phase }, { on := 2, ground := Ground.phase }, { on := 3, ground := Ground.phase }, { on := 4, ground := Ground.phase }, { on := 5, ground := Ground.phase }, { on := 6, ground := Ground.phase }, { on := 7, ground := Ground.phase }, { on := 8, ground := Ground.phase }, { on := 9, ground := Ground.phase }, { on := 10, ground := Ground.phase }, { on := 11, ground := Ground.phase }, { on := 12, ground := Ground.phase }, { on := 13, ground := Ground.phase }, { on := 14, ground := Ground.phase }, { on := 15, ground := Ground.phase }, { on := 16, ground := Ground.phase }], guard := none } : Oper)) (v := ?_) rfl (by kernel_rfl) (by kernel_rfl) (by kernel_rfl) (fun _ _ _ h => h) (Or.inl ⟨by rfl, ?_⟩) hHeld ?_
        rotate_left
        · (intro w hS; go_simp; try with_reducible rfl)
        try simp only [Act.put, List.setIfInBounds_toArray, List.set_cons_zero, List.set_cons_succ]
        refine wpAnyH_take (i := 18) (oi := ({ dst := some 39, op := Op.fieldAddr 40 (Operand.tmp 38) 0, type := 0, pos := _, after := #[{ on := 17, ground := Ground.data }, { on := 0, ground := Ground.phase }, { on := 1, ground := Ground.phase }, { on := 2, ground := Ground.phase }, { on := 3, ground := Ground.phase }, { on := 4, ground := Ground.phase }, { on := 5, ground := Ground.phase }, { on := 6, ground := Ground.phase }, { on := 7, ground := Ground.phase }, { on := 8, ground := Ground.phase }, { on := 9, ground := Ground.phase }, { on := 10, ground := Ground.phase }, { on := 11, ground := Ground.phase }, { on := 12, ground := Ground.phase }, { on := 13, ground := Ground.phase }, { on := 14, ground := Ground.phase }, { on := 15, ground := Ground.phase }, { on := 16, ground := Ground.phase }], guard := none } : Oper)) (v := ?_) rfl (by kernel_rfl) (by kernel_rfl) (by kernel_rfl) (fun _ _ _ h => h) (Or.inl ⟨by rfl, ?_⟩) hHeld ?_
        rotate_left
        · (intro w hS; go_simp; try with_reducible rfl)
        try simp only [Act.put, List.setIfInBounds_toArray, List.set_cons_zero, List.set_cons_succ]
        refine wpAnyH_ready (rs := [19]) (by kernel_rfl) (by simp) ?_
        refine AllReadyH.cons (o := ({ dst := none, op := Op.store 38 (Operand.tmp 39) (Operand.tmp 37), type := 0, pos := _, after := #[{ on := 18, ground := Ground.data }, { on := 16, ground := Ground.data }, { on := 16, ground := Ground.chain }, { on := 0, ground := Ground.phase }, { on := 1, ground := Ground.phase }, { on := 2, ground := Ground.phase }, { on := 3, ground := Ground.phase }, { on := 4, ground := Ground.phase }, { on := 5, ground := Ground.phase }, { on := 6, ground := Ground.phase }, { on := 7, ground := Ground.phase }, { on := 8, ground := Ground.phase }, { on := 9, ground := Ground.phase }, { on := 10, ground := Ground.phase }, { on := 11, ground := Ground.phase }, { on := 12, ground := Ground.phase }, { on := 13, ground := Ground.phase }, { on := 14, ground := Ground.phase }, { on := 15, ground := Ground.phase }, { on := 16, ground := Ground.phase }], guard := none } : Oper)) rfl (fun K hK => ?_) AllReadyH.nil
        go_simp
        skip
        refine hK.out _ _ trivial (fun hHeld => ?_)
        clear hK K
        try simp only [Act.put, List.setIfInBounds_toArray, List.set_cons_zero, List.set_cons_succ]
        refine wpAnyH_done (by kernel_rfl) ?_ _
        have rowF := row_mono (row_other row16 hBq (Nat.le_refl _) h16 (by decide)) (Nat.zero_le _)
        have BF := (But.of (r := q) (B1.trans (Z16.mono B1.size))).trans (hBq.mono (Nat.le_trans B1.size Z16.size))
        go_wp2
        go_returns
        exact ⟨ret_get HG.out, ⟨a16, c16, by rw [← HLEN.out]; exact hF, by rw [← HLEN.out, ← HLST.out]; exact rowF⟩, BF⟩
    · go_simp
      skip
      refine hK.out _ _ trivial (fun hHeld => ?_)
      clear hK K
      try simp only [Act.put, List.setIfInBounds_toArray, List.set_cons_zero, List.set_cons_succ]
      refine wpAnyH_take (i := 7) (oi := ({ dst := some 28, op := Op.slice 38 (Operand.tmp 26) none (some (Operand.tmp 27)) none, type := 38, pos := _, after := #[{ on := 5, ground := Ground.data }, { on := 6, ground := Ground.data }], guard := none } : Oper)) (v := ?_) rfl (by kernel_rfl) (by kernel_rfl) (by kernel_rfl) (fun _ _ _ h => h) (Or.inl ⟨by rfl, ?_⟩) hHeld ?_
      rotate_left
      · (intro w hS; go_simp; first|rfl|(rw [run_pre _ a L.length c i _ rfl hic]; rfl))
      try simp only [Act.put, List.setIfInBounds_toArray, List.set_cons_zero, List.set_cons_succ]
      refine wpAnyH_ready (rs := [1, 12]) (by kernel_rfl) (by simp) ?_
      refine AllReadyH.cons (o := ({ dst := some 22, op := Op.buildSlice 38 0 #[], type := 38, pos := _, after := #[], guard := none } : Oper)) rfl (fun K hK => ?_) (AllReadyH.cons (o := ({ dst := some 33, op := Op.load 38 (Operand.tmp 32), type := 38, pos := _, after := #[{ on := 11, ground := Ground.data }], guard := none } : Oper)) rfl (fun K hK => ?_) (AllReadyH.nil))
      · go_simp
        skip
        refine hK.out _ _ trivial (fun hHeld => ?_)
        clear hK K
        try simp only [Act.put, List.setIfInBounds_toArray, List.set_cons_zero, List.set_cons_succ]
        refine wpAnyH_ready (rs := [8, 12]) (by kernel_rfl) (by simp) ?_
        refine AllReadyH.cons (o := ({ dst := some 29, op := Op.call { callee := Callee.builtin Builtin.append, args := #[Operand.tmp 22, Operand.tmp 28], argTypes := #[38, 38] }, type := 38, pos := _, after := #[{ on := 1, ground := Ground.data }, { on := 7, ground := Ground.data }], guard := none } : Oper)) rfl (fun K hK => ?_) (AllReadyH.cons (o := ({ dst := some 33, op := Op.load 38 (Operand.tmp 32), type := 38, pos := _, after := #[{ on := 11, ground := Ground.data }], guard := none } : Oper)) rfl (fun K hK => ?_) (AllReadyH.nil))
        · refine step_app_e (va := .slice (some ⟨w1.heap.size, 0, none⟩) 0 0) (base := w1.heap.size) (n := 0) (A := []) (B := L.take i) ZA.size rowA (hE _ ZA) hcn (by omega) _ _ rfl rfl rfl rfl ?_
          intro a8 c8 W8 row8 gr8
          simp only [Nat.zero_add, List.nil_append] at row8 ⊢
          have Z8 : Below w1.heap.size w1 W8 := ZA.trans (below_row rowA gr8 (Nat.le_refl _) ZA.size)
          have q8 := hS _ Z8
          refine hK.out _ _ trivial (fun hHeld => ?_)
          clear hK K
          try simp only [Act.put, List.setIfInBounds_toArray, List.set_cons_zero, List.set_cons_succ]
          refine wpAnyH_ready (rs := [12]) (by kernel_rfl) (by simp) ?_
          refine AllReadyH.cons (o := ({ dst := some 33, op := Op.load 38 (Operand.tmp 32), type := 38, pos := _, after := #[{ on := 11, ground := Ground.data }], guard := none } : Oper)) rfl (fun K hK => ?_) AllReadyH.nil
          go_simp
          skip
          refine hK.out _ _ trivial (fun hHeld => ?_)
          clear hK K
          try simp only [Act.put, List.setIfInBounds_toArray, List.set_cons_zero, List.set_cons_succ]
          refine wpAnyH_take (i := 15) (oi := ({ dst := some 36, op := Op.slice 38 (Operand.tmp 33) (some (Operand.tmp 35)) none none, type := 38, pos := _, after := #[{ on := 12, ground := Ground.data }, { on := 14, ground := Ground.data }], guard := none } : Oper)) (v := ?_) rfl (by kernel_rfl) (by kernel_rfl) (by kernel_rfl) (fun _ _ _ h => h) (Or.inl ⟨by rfl, ?_⟩) hHeld ?_
          rotate_left
          · (intro w hS; go_simp; first|rfl|(rw [hsf]; rfl))
          try simp only [Act.put, List.setIfInBounds_toArray, List.set_cons_zero, List.set_cons_succ]
          refine wpAnyH_ready (rs := [16]) (by kernel_rfl) (by simp) ?_
          refine AllReadyH.cons (o := ({ dst := some 37, op := Op.call { callee := Callee.builtin Builtin.append, args := #[Operand.tmp 29, Operand.tmp 36], argTypes := #[38, 38] }, type := 38, pos := _, after := #[{ on := 8, ground := Ground.data }, { on := 15, ground := Ground.data }, { on := 8, ground := Ground.chain }], guard := none } : Oper)) rfl (fun K hK => ?_) AllReadyH.nil
          refine step_app_e (va := .slice a8 i c8) (base := w1.heap.size) (n := i) (A := L.take i) (B := L.drop (i + 1)) Z8.size row8 (hE2 _ Z8) hsn (by omega) _ _ rfl rfl rfl rfl ?_
          intro a16 c16 W16 row16 gr16
          have Z16 : Below w1.heap.size w1 W16 := Z8.trans (below_row row8 gr16 (Nat.le_refl _) Z8.size)
          have h16 := h1.below Z16 h1.lt
          have p0 := h16.cell 0 _ rfl
          have f0 := h16.frozen 0
          have hBq : But q W16.heap.size W16 (W16.setCell ⟨q, 0, none⟩ (.slice a16 (i + (L.length - (i + 1))) c16)) := (But.refl q W16.heap.size W16).set (p := ⟨q, 0, none⟩) rfl _
          have hF := h16.set 0 (.slice a16 (i + (L.length - (i + 1))) c16)
          refine hK.out _ _ trivial (fun hHeld => ?_)
          clear hK K
          try simp only [Act.put, List.setIfInBounds_toArray, List.set_cons_zero, List.set_cons_succ]
          refine wpAnyH_take (i := 17) (oi := ({ dst := some 38, op := Op.nilCheck (Operand.tmp 21), type := 0, pos := _, after := #[{ on := 0, ground := Ground.data }, { on := 0, ground := Ground.phase }, { on := 1, ground := Ground.phase }, { on := 2, ground := Ground.phase }, { on := 3, ground := Ground.phase }, { on := 4, ground := Ground.phase }, { on := 5, ground := Ground.phase }, { on := 6, ground := Ground.phase }, { on := 7, ground := Ground.phase }, { on := 8, ground := Ground.phase }, { on := 9, ground := Ground.phase }, { on := 10, ground := Ground.phase }, { on := 11, ground := Ground.phase }, { on := 12, ground := Ground.phase }, { on := 13, ground := Ground.phase }, { on := 14, ground := Ground.phase }, { on := 15, ground := Ground.phase }, { on := 16, ground := Ground.phase }], guard := none } : Oper)) (v := ?_) rfl (by kernel_rfl) (by kernel_rfl) (by kernel_rfl) (fun _ _ _ h => h) (Or.inl ⟨by rfl, ?_⟩) hHeld ?_
          rotate_left
          · (intro w hS; go_simp; try with_reducible rfl)
          try simp only [Act.put, List.setIfInBounds_toArray, List.set_cons_zero, List.set_cons_succ]
          refine wpAnyH_take (i := 18) (oi := ({ dst := some 39, op := Op.fieldAddr 40 (Operand.tmp 38) 0, type := 0, pos := _, after := #[{ on := 17, ground := Ground.data }, { on := 0, ground := Ground.phase }, { on := 1, ground := Ground.phase }, { on := 2, ground := Ground.phase }, { on := 3, ground := Ground.phase }, { on := 4, ground := Ground.phase }, { on := 5, ground := Ground.phase }, { on := 6, ground := Ground.phase }, { on := 7, ground := Ground.phase }, { on := 8, ground := Ground.phase }, { on := 9, ground := Ground.phase }, { on := 10, ground := Ground.phase }, { on := 11, ground := Ground.phase }, { on := 12, ground := Ground.phase }, { on := 13, ground := Ground.phase }, { on := 14, ground := Ground.phase }, { on := 15, ground := Ground.phase }, { on := 16, ground := Ground.phase }], guard := none } : Oper)) (v := ?_) rfl (by kernel_rfl) (by kernel_rfl) (by kernel_rfl) (fun _ _ _ h => h) (Or.inl ⟨by rfl, ?_⟩) hHeld ?_
          rotate_left
          · (intro w hS; go_simp; try with_reducible rfl)
          try simp only [Act.put, List.setIfInBounds_toArray, List.set_cons_zero, List.set_cons_succ]
          refine wpAnyH_ready (rs := [19]) (by kernel_rfl) (by simp) ?_
          refine AllReadyH.cons (o := ({ dst := none, op := Op.store 38 (Operand.tmp 39) (Operand.tmp 37), type := 0, pos := _, after := #[{ on := 18, ground := Ground.data }, { on := 16, ground := Ground.data }, { on := 16, ground := Ground.chain }, { on := 0, ground := Ground.phase }, { on := 1, ground := Ground.phase }, { on := 2, ground := Ground.phase }, { on := 3, ground := Ground.phase }, { on := 4, ground := Ground.phase }, { on := 5, ground := Ground.phase }, { on := 6, ground := Ground.phase }, { on := 7, ground := Ground.phase }, { on := 8, ground := Ground.phase }, { on := 9, ground := Ground.phase }, { on := 10, ground := Ground.phase }, { on := 11, ground := Ground.phase }, { on := 12, ground := Ground.phase }, { on := 13, ground := Ground.phase }, { on := 14, ground := Ground.phase }, { on := 15, ground := Ground.phase }, { on := 16, ground := Ground.phase }], guard := none } : Oper)) rfl (fun K hK => ?_) AllReadyH.nil
          go_simp
          skip
          refine hK.out _ _ trivial (fun hHeld => ?_)
          clear hK K
          try simp only [Act.put, List.setIfInBounds_toArray, List.set_cons_zero, List.set_cons_succ]
          refine wpAnyH_done (by kernel_rfl) ?_ _
          have rowF := row_mono (row_other row16 hBq (Nat.le_refl _) h16 (by decide)) (Nat.zero_le _)
          have BF := (But.of (r := q) (B1.trans (Z16.mono B1.size))).trans (hBq.mono (Nat.le_trans B1.size Z16.size))
          go_wp2
          go_returns
          exact ⟨ret_get HG.out, ⟨a16, c16, by rw [← HLEN.out]; exact hF, by rw [← HLEN.out, ← HLST.out]; exact rowF⟩, BF⟩
        · go_simp
          skip
          refine hK.out _ _ trivial (fun hHeld => ?_)
          clear hK K
          try simp only [Act.put, List.setIfInBounds_toArray, List.set_cons_zero, List.set_cons_succ]
          refine wpAnyH_take (i := 15) (oi := ({ dst := some 36, op := Op.slice 38 (Operand.tmp 33) (some (Operand.tmp 35)) none none, type := 38, pos := _, after := #[{ on := 12, ground := Ground.data }, { on := 14, ground := Ground.data }], guard := none } : Oper)) (v := ?_) rfl (by kernel_rfl) (by kernel_rfl) (by kernel_rfl) (fun _ _ _ h => h) (Or.inl ⟨by rfl, ?_⟩) hHeld ?_
          rotate_left
          · (intro w hS; go_simp; first|rfl|(rw [hsf]; rfl))
          try simp only [Act.put, List.setIfInBounds_toArray, List.set_cons_zero, List.set_cons_succ]
          refine wpAnyH_ready (rs := [8]) (by kernel_rfl) (by simp) ?_
          refine AllReadyH.cons (o := ({ dst := some 29, op := Op.call { callee := Callee.builtin Builtin.append, args := #[Operand.tmp 22, Operand.tmp 28], argTypes := #[38, 38] }, type := 38, pos := _, after := #[{ on := 1, ground := Ground.data }, { on := 7, ground := Ground.data }], guard := none } : Oper)) rfl (fun K hK => ?_) AllReadyH.nil
          refine step_app_e (va := .slice (some ⟨w1.heap.size, 0, none⟩) 0 0) (base := w1.heap.size) (n := 0) (A := []) (B := L.take i) ZA.size rowA (hE _ ZA) hcn (by omega) _ _ rfl rfl rfl rfl ?_
          intro a8 c8 W8 row8 gr8
          simp only [Nat.zero_add, List.nil_append] at row8 ⊢
          have Z8 : Below w1.heap.size w1 W8 := ZA.trans (below_row rowA gr8 (Nat.le_refl _) ZA.size)
          have q8 := hS _ Z8
          refine hK.out _ _ trivial (fun hHeld => ?_)
          clear hK K
          try simp only [Act.put, List.setIfInBounds_toArray, List.set_cons_zero, List.set_cons_succ]
          refine wpAnyH_ready (rs := [16]) (by kernel_rfl) (by simp) ?_
          refine AllReadyH.cons (o := ({ dst := some 37, op := Op.call { callee := Callee.builtin Builtin.append, args := #[Operand.tmp 29, Operand.tmp 36], argTypes := #[38, 38] }, type := 38, pos := _, after := #[{ on := 8, ground := Ground.data }, { on := 15, ground := Ground.data }, { on := 8, ground := Ground.chain }], guard := none } : Oper)) rfl (fun K hK => ?_) AllReadyH.nil
          refine step_app_e (va := .slice a8 i c8) (base := w1.heap.size) (n := i) (A := L.take i) (B := L.drop (i + 1)) Z8.size row8 (hE2 _ Z8) hsn (by omega) _ _ rfl rfl rfl rfl ?_
          intro a16 c16 W16 row16 gr16
          have Z16 : Below w1.heap.size w1 W16 := Z8.trans (below_row row8 gr16 (Nat.le_refl _) Z8.size)
          have h16 := h1.below Z16 h1.lt
          have p0 := h16.cell 0 _ rfl
          have f0 := h16.frozen 0
          have hBq : But q W16.heap.size W16 (W16.setCell ⟨q, 0, none⟩ (.slice a16 (i + (L.length - (i + 1))) c16)) := (But.refl q W16.heap.size W16).set (p := ⟨q, 0, none⟩) rfl _
          have hF := h16.set 0 (.slice a16 (i + (L.length - (i + 1))) c16)
          refine hK.out _ _ trivial (fun hHeld => ?_)
          clear hK K
          try simp only [Act.put, List.setIfInBounds_toArray, List.set_cons_zero, List.set_cons_succ]
          refine wpAnyH_take (i := 17) (oi := ({ dst := some 38, op := Op.nilCheck (Operand.tmp 21), type := 0, pos := _, after := #[{ on := 0, ground := Ground.data }, { on := 0, ground := Ground.phase }, { on := 1, ground := Ground.phase }, { on := 2, ground := Ground.phase }, { on := 3, ground := Ground.phase }, { on := 4, ground := Ground.phase }, { on := 5, ground := Ground.phase }, { on := 6, ground := Ground.phase }, { on := 7, ground := Ground.phase }, { on := 8, ground := Ground.phase }, { on := 9, ground := Ground.phase }, { on := 10, ground := Ground.phase }, { on := 11, ground := Ground.phase }, { on := 12, ground := Ground.phase }, { on := 13, ground := Ground.phase }, { on := 14, ground := Ground.phase }, { on := 15, ground := Ground.phase }, { on := 16, ground := Ground.phase }], guard := none } : Oper)) (v := ?_) rfl (by kernel_rfl) (by kernel_rfl) (by kernel_rfl) (fun _ _ _ h => h) (Or.inl ⟨by rfl, ?_⟩) hHeld ?_
          rotate_left
          · (intro w hS; go_simp; try with_reducible rfl)
          try simp only [Act.put, List.setIfInBounds_toArray, List.set_cons_zero, List.set_cons_succ]
          refine wpAnyH_take (i := 18) (oi := ({ dst := some 39, op := Op.fieldAddr 40 (Operand.tmp 38) 0, type := 0, pos := _, after := #[{ on := 17, ground := Ground.data }, { on := 0, ground := Ground.phase }, { on := 1, ground := Ground.phase }, { on := 2, ground := Ground.phase }, { on := 3, ground := Ground.phase }, { on := 4, ground := Ground.phase }, { on := 5, ground := Ground.phase }, { on := 6, ground := Ground.phase }, { on := 7, ground := Ground.phase }, { on := 8, ground := Ground.phase }, { on := 9, ground := Ground.phase }, { on := 10, ground := Ground.phase }, { on := 11, ground := Ground.phase }, { on := 12, ground := Ground.phase }, { on := 13, ground := Ground.phase }, { on := 14, ground := Ground.phase }, { on := 15, ground := Ground.phase }, { on := 16, ground := Ground.phase }], guard := none } : Oper)) (v := ?_) rfl (by kernel_rfl) (by kernel_rfl) (by kernel_rfl) (fun _ _ _ h => h) (Or.inl ⟨by rfl, ?_⟩) hHeld ?_
          rotate_left
          · (intro w hS; go_simp; try with_reducible rfl)
          try simp only [Act.put, List.setIfInBounds_toArray, List.set_cons_zero, List.set_cons_succ]
          refine wpAnyH_ready (rs := [19]) (by kernel_rfl) (by simp) ?_
          refine AllReadyH.cons (o := ({ dst := none, op := Op.store 38 (Operand.tmp 39) (Operand.tmp 37), type := 0, pos := _, after := #[{ on := 18, ground := Ground.data }, { on := 16, ground := Ground.data }, { on := 16, ground := Ground.chain }, { on := 0, ground := Ground.phase }, { on := 1, ground := Ground.phase }, { on := 2, ground := Ground.phase }, { on := 3, ground := Ground.phase }, { on := 4, ground := Ground.phase }, { on := 5, ground := Ground.phase }, { on := 6, ground := Ground.phase }, { on := 7, ground := Ground.phase }, { on := 8, ground := Ground.phase }, { on := 9, ground := Ground.phase }, { on := 10, ground := Ground.phase }, { on := 11, ground := Ground.phase }, { on := 12, ground := Ground.phase }, { on := 13, ground := Ground.phase }, { on := 14, ground := Ground.phase }, { on := 15, ground := Ground.phase }, { on := 16, ground := Ground.phase }], guard := none } : Oper)) rfl (fun K hK => ?_) AllReadyH.nil
          go_simp
          skip
          refine hK.out _ _ trivial (fun hHeld => ?_)
          clear hK K
          try simp only [Act.put, List.setIfInBounds_toArray, List.set_cons_zero, List.set_cons_succ]
          refine wpAnyH_done (by kernel_rfl) ?_ _
          have rowF := row_mono (row_other row16 hBq (Nat.le_refl _) h16 (by decide)) (Nat.zero_le _)
          have BF := (But.of (r := q) (B1.trans (Z16.mono B1.size))).trans (hBq.mono (Nat.le_trans B1.size Z16.size))
          go_wp2
          go_returns
          exact ⟨ret_get HG.out, ⟨a16, c16, by rw [← HLEN.out]; exact hF, by rw [← HLEN.out, ← HLST.out]; exact rowF⟩, BF⟩
      · go_simp
        skip
        refine hK.out _ _ trivial (fun hHeld => ?_)
        clear hK K
        try simp only [Act.put, List.setIfInBounds_toArray, List.set_cons_zero, List.set_cons_succ]
        refine wpAnyH_take (i := 15) (oi := ({ dst := some 36, op := Op.slice 38 (Operand.tmp 33) (some (Operand.tmp 35)) none none, type := 38, pos := _, after := #[{ on := 12, ground := Ground.data }, { on := 14, ground := Ground.data }], guard := none } : Oper)) (v := ?_) rfl (by kernel_rfl) (by kernel_rfl) (by kernel_rfl) (fun _ _ _ h => h) (Or.inl ⟨by rfl, ?_⟩) hHeld ?_
        rotate_left
        · (intro w hS; go_simp; first|rfl|(rw [hsf]; rfl))
        try simp only [Act.put, List.setIfInBounds_toArray, List.set_cons_zero, List.set_cons_succ]
        refine wpAnyH_ready (rs := [1]) (by kernel_rfl) (by simp) ?_
        refine AllReadyH.cons (o := ({ dst := some 22, op := Op.buildSlice 38 0 #[], type := 38, pos := _, after := #[], guard := none } : Oper)) rfl (fun K hK => ?_) AllReadyH.nil
        go_simp
        skip
        refine hK.out _ _ trivial (fun hHeld => ?_)
        clear hK K
        try simp only [Act.put, List.setIfInBounds_toArray, List.set_cons_zero, List.set_cons_succ]
        refine wpAnyH_ready (rs := [8]) (by kernel_rfl) (by simp) ?_
        refine AllReadyH.cons (o := ({ dst := some 29, op := Op.call { callee := Callee.builtin Builtin.append, args := #[Operand.tmp 22, Operand.tmp 28], argTypes := #[38, 38] }, type := 38, pos := _, after := #[{ on := 1, ground := Ground.data }, { on := 7, ground := Ground.data }], guard := none } : Oper)) rfl (fun K hK => ?_) AllReadyH.nil
        refine step_app_e (va := .slice (some ⟨w1.heap.size, 0, none⟩) 0 0) (base := w1.heap.size) (n := 0) (A := []) (B := L.take i) ZA.size rowA (hE _ ZA) hcn (by omega) _ _ rfl rfl rfl rfl ?_
        intro a8 c8 W8 row8 gr8
        simp only [Nat.zero_add, List.nil_append] at row8 ⊢
        have Z8 : Below w1.heap.size w1 W8 := ZA.trans (below_row rowA gr8 (Nat.le_refl _) ZA.size)
        have q8 := hS _ Z8
        refine hK.out _ _ trivial (fun hHeld => ?_)
        clear hK K
        try simp only [Act.put, List.setIfInBounds_toArray, List.set_cons_zero, List.set_cons_succ]
        refine wpAnyH_ready (rs := [16]) (by kernel_rfl) (by simp) ?_
        refine AllReadyH.cons (o := ({ dst := some 37, op := Op.call { callee := Callee.builtin Builtin.append, args := #[Operand.tmp 29, Operand.tmp 36], argTypes := #[38, 38] }, type := 38, pos := _, after := #[{ on := 8, ground := Ground.data }, { on := 15, ground := Ground.data }, { on := 8, ground := Ground.chain }], guard := none } : Oper)) rfl (fun K hK => ?_) AllReadyH.nil
        refine step_app_e (va := .slice a8 i c8) (base := w1.heap.size) (n := i) (A := L.take i) (B := L.drop (i + 1)) Z8.size row8 (hE2 _ Z8) hsn (by omega) _ _ rfl rfl rfl rfl ?_
        intro a16 c16 W16 row16 gr16
        have Z16 : Below w1.heap.size w1 W16 := Z8.trans (below_row row8 gr16 (Nat.le_refl _) Z8.size)
        have h16 := h1.below Z16 h1.lt
        have p0 := h16.cell 0 _ rfl
        have f0 := h16.frozen 0
        have hBq : But q W16.heap.size W16 (W16.setCell ⟨q, 0, none⟩ (.slice a16 (i + (L.length - (i + 1))) c16)) := (But.refl q W16.heap.size W16).set (p := ⟨q, 0, none⟩) rfl _
        have hF := h16.set 0 (.slice a16 (i + (L.length - (i + 1))) c16)
        refine hK.out _ _ trivial (fun hHeld => ?_)
        clear hK K
        try simp only [Act.put, List.setIfInBounds_toArray, List.set_cons_zero, List.set_cons_succ]
        refine wpAnyH_take (i := 17) (oi := ({ dst := some 38, op := Op.nilCheck (Operand.tmp 21), type := 0, pos := _, after := #[{ on := 0, ground := Ground.data }, { on := 0, ground := Ground.phase }, { on := 1, ground := Ground.phase }, { on := 2, ground := Ground.phase }, { on := 3, ground := Ground.phase }, { on := 4, ground := Ground.phase }, { on := 5, ground := Ground.phase }, { on := 6, ground := Ground.phase }, { on := 7, ground := Ground.phase }, { on := 8, ground := Ground.phase }, { on := 9, ground := Ground.phase }, { on := 10, ground := Ground.phase }, { on := 11, ground := Ground.phase }, { on := 12, ground := Ground.phase }, { on := 13, ground := Ground.phase }, { on := 14, ground := Ground.phase }, { on := 15, ground := Ground.phase }, { on := 16, ground := Ground.phase }], guard := none } : Oper)) (v := ?_) rfl (by kernel_rfl) (by kernel_rfl) (by kernel_rfl) (fun _ _ _ h => h) (Or.inl ⟨by rfl, ?_⟩) hHeld ?_
        rotate_left
        · (intro w hS; go_simp; try with_reducible rfl)
        try simp only [Act.put, List.setIfInBounds_toArray, List.set_cons_zero, List.set_cons_succ]
        refine wpAnyH_take (i := 18) (oi := ({ dst := some 39, op := Op.fieldAddr 40 (Operand.tmp 38) 0, type := 0, pos := _, after := #[{ on := 17, ground := Ground.data }, { on := 0, ground := Ground.phase }, { on := 1, ground := Ground.phase }, { on := 2, ground := Ground.phase }, { on := 3, ground := Ground.phase }, { on := 4, ground := Ground.phase }, { on := 5, ground := Ground.phase }, { on := 6, ground := Ground.phase }, { on := 7, ground := Ground.phase }, { on := 8, ground := Ground.phase }, { on := 9, ground := Ground.phase }, { on := 10, ground := Ground.phase }, { on := 11, ground := Ground.phase }, { on := 12, ground := Ground.phase }, { on := 13, ground := Ground.phase }, { on := 14, ground := Ground.phase }, { on := 15, ground := Ground.phase }, { on := 16, ground := Ground.phase }], guard := none } : Oper)) (v := ?_) rfl (by kernel_rfl) (by kernel_rfl) (by kernel_rfl) (fun _ _ _ h => h) (Or.inl ⟨by rfl, ?_⟩) hHeld ?_
        rotate_left
        · (intro w hS; go_simp; try with_reducible rfl)
        try simp only [Act.put, List.setIfInBounds_toArray, List.set_cons_zero, List.set_cons_succ]
        refine wpAnyH_ready (rs := [19]) (by kernel_rfl) (by simp) ?_
        refine AllReadyH.cons (o := ({ dst := none, op := Op.store 38 (Operand.tmp 39) (Operand.tmp 37), type := 0, pos := _, after := #[{ on := 18, ground := Ground.data }, { on := 16, ground := Ground.data }, { on := 16, ground := Ground.chain }, { on := 0, ground := Ground.phase }, { on := 1, ground := Ground.phase }, { on := 2, ground := Ground.phase }, { on := 3, ground := Ground.phase }, { on := 4, ground := Ground.phase }, { on := 5, ground := Ground.phase }, { on := 6, ground := Ground.phase }, { on := 7, ground := Ground.phase }, { on := 8, ground := Ground.phase }, { on := 9, ground := Ground.phase }, { on := 10, ground := Ground.phase }, { on := 11, ground := Ground.phase }, { on := 12, ground := Ground.phase }, { on := 13, ground := Ground.phase }, { on := 14, ground := Ground.phase }, { on := 15, ground := Ground.phase }, { on := 16, ground := Ground.phase }], guard := none } : Oper)) rfl (fun K hK => ?_) AllReadyH.nil
        go_simp
        skip
        refine hK.out _ _ trivial (fun hHeld => ?_)
        clear hK K
        try simp only [Act.put, List.setIfInBounds_toArray, List.set_cons_zero, List.set_cons_succ]
        refine wpAnyH_done (by kernel_rfl) ?_ _
        have rowF := row_mono (row_other row16 hBq (Nat.le_refl _) h16 (by decide)) (Nat.zero_le _)
        have BF := (But.of (r := q) (B1.trans (Z16.mono B1.size))).trans (hBq.mono (Nat.le_trans B1.size Z16.size))
        go_wp2
        go_returns
        exact ⟨ret_get HG.out, ⟨a16, c16, by rw [← HLEN.out]; exact hF, by rw [← HLEN.out, ← HLST.out]; exact rowF⟩, BF⟩
    · go_simp
      skip
      refine hK.out _ _ trivial (fun hHeld => ?_)
      clear hK K
      try simp only [Act.put, List.setIfInBounds_toArray, List.set_cons_zero, List.set_cons_succ]
      refine wpAnyH_take (i := 15) (oi := ({ dst := some 36, op := Op.slice 38 (Operand.tmp 33) (some (Operand.tmp 35)) none none, type := 38, pos := _, after := #[{ on := 12, ground := Ground.data }, { on := 14, ground := Ground.data }], guard := none } : Oper)) (v := ?_) rfl (by kernel_rfl) (by kernel_rfl) (by kernel_rfl) (fun _ _ _ h => h) (Or.inl ⟨by rfl, ?_⟩) hHeld ?_
      rotate_left
      · (intro w hS; go_simp; first|rfl|(rw [hsf]; rfl))
      try simp only [Act.put, List.setIfInBounds_toArray, List.set_cons_zero, List.set_cons_succ]
      refine wpAnyH_ready (rs := [1, 5]) (by kernel_rfl) (by simp) ?_
      refine AllReadyH.cons (o := ({ dst := some 22, op := Op.buildSlice 38 0 #[], type := 38, pos := _, after := #[], guard := none } : Oper)) rfl (fun K hK => ?_) (AllReadyH.cons (o := ({ dst := some 26, op := Op.load 38 (Operand.tmp 25), type := 38, pos := _, after := #[{ on := 4, ground := Ground.data }], guard := none } : Oper)) rfl (fun K hK => ?_) (AllReadyH.nil))
      · go_simp
        skip
        refine hK.out _ _ trivial (fun hHeld => ?_)
        clear hK K
        try simp only [Act.put, List.setIfInBounds_toArray, List.set_cons_zero, List.set_cons_succ]
        refine wpAnyH_ready (rs := [5]) (by kernel_rfl) (by simp) ?_
        refine AllReadyH.cons (o := ({ dst := some 26, op := Op.load 38 (Operand.tmp 25), type := 38, pos := _, after := #[{ on := 4, ground := Ground.data }], guard := none } : Oper)) rfl (fun K hK => ?_) AllReadyH.nil
        go_simp
        skip
        refine hK.out _ _ trivial (fun hHeld => ?_)
        clear hK K
        try simp only [Act.put, List.setIfInBounds_toArray, List.set_cons_zero, List.set_cons_succ]
        refine wpAnyH_take (i := 7) (oi := ({ dst := some 28, op := Op.slice 38 (Operand.tmp 26) none (some (Operand.tmp 27)) none, type := 38, pos := _, after := #[{ on := 5, ground := Ground.data }, { on := 6, ground := Ground.data }], guard := none } : Oper)) (v := ?_) rfl (by kernel_rfl) (by kernel_rfl) (by kernel_rfl) (fun _ _ _ h => h) (Or.inl ⟨by rfl, ?_⟩) hHeld ?_
        rotate_left
        · (intro w hS; go_simp; first|rfl|(rw [run_pre _ a L.length c i _ rfl hic]; rfl))
        try simp only [Act.put, List.setIfInBounds_toArray, List.set_cons_zero, List.set_cons_succ]
        refine wpAnyH_ready (rs := [8]) (by kernel_rfl) (by simp) ?_
        refine AllReadyH.cons (o := ({ dst := some 29, op := Op.call { callee := Callee.builtin Builtin.append, args := #[Operand.tmp 22, Operand.tmp 28], argTypes := #[38, 38] }, type := 38, pos := _, after := #[{ on := 1, ground := Ground.data }, { on := 7, ground := Ground.data }], guard := none } : Oper)) rfl (fun K hK => ?_) AllReadyH.nil
        refine step_app_e (va := .slice (some ⟨w1.heap.size, 0, none⟩) 0 0) (base := w1.heap.size) (n := 0) (A := []) (B := L.take i) ZA.size rowA (hE _ ZA) hcn (by omega) _ _ rfl rfl rfl rfl ?_
        intro a8 c8 W8 row8 gr8
        simp only [Nat.zero_add, List.nil_append] at row8 ⊢
        have Z8 : Below w1.heap.size w1 W8 := ZA.trans (below_row rowA gr8 (Nat.le_refl _) ZA.size)
        have q8 := hS _ Z8
        refine hK.out _ _ trivial (fun hHeld => ?_)
        clear hK K
        try simp only [Act.put, List.setIfInBounds_toArray, List.set_cons_zero, List.set_cons_succ]
        refine wpAnyH_ready (rs := [16]) (by kernel_rfl) (by simp) ?_
        refine AllReadyH.cons (o := ({ dst := some 37, op := Op.call { callee := Callee.builtin Builtin.append, args := #[Operand.tmp 29, Operand.tmp 36], argTypes := #[38, 38] }, type := 38, pos := _, after := #[{ on := 8, ground := Ground.data }, { on := 15, ground := Ground.data }, { on := 8, ground := Ground.chain }], guard := none } : Oper)) rfl (fun K hK => ?_) AllReadyH.nil
        refine step_app_e (va := .slice a8 i c8) (base := w1.heap.size) (n := i) (A := L.take i) (B := L.drop (i + 1)) Z8.size row8 (hE2 _ Z8) hsn (by omega) _ _ rfl rfl rfl rfl ?_
        intro a16 c16 W16 row16 gr16
        have Z16 : Below w1.heap.size w1 W16 := Z8.trans (below_row row8 gr16 (Nat.le_refl _) Z8.size)
        have h16 := h1.below Z16 h1.lt
        have p0 := h16.cell 0 _ rfl
        have f0 := h16.frozen 0
        have hBq : But q W16.heap.size W16 (W16.setCell ⟨q, 0, none⟩ (.slice a16 (i + (L.length - (i + 1))) c16)) := (But.refl q W16.heap.size W16).set (p := ⟨q, 0, none⟩) rfl _
        have hF := h16.set 0 (.slice a16 (i + (L.length - (i + 1))) c16)
        refine hK.out _ _ trivial (fun hHeld => ?_)
        clear hK K
        try simp only [Act.put, List.setIfInBounds_toArray, List.set_cons_zero, List.set_cons_succ]
        refine wpAnyH_take (i := 17) (oi := ({ dst := some 38, op := Op.nilCheck (Operand.tmp 21), type := 0, pos := _, after := #[{ on := 0, ground := Ground.data }, { on := 0, ground := Ground.phase }, { on := 1, ground := Ground.phase }, { on := 2, ground := Ground.phase }, { on := 3, ground := Ground.phase }, { on := 4, ground := Ground.phase }, { on := 5, ground := Ground.phase }, { on := 6, ground := Ground.phase }, { on := 7, ground := Ground.phase }, { on := 8, ground := Ground.phase }, { on := 9, ground := Ground.phase }, { on := 10, ground := Ground.phase }, { on := 11, ground := Ground.phase }, { on := 12, ground := Ground.phase }, { on := 13, ground := Ground.phase }, { on := 14, ground := Ground.phase }, { on := 15, ground := Ground.phase }, { on := 16, ground := Ground.phase }], guard := none } : Oper)) (v := ?_) rfl (by kernel_rfl) (by kernel_rfl) (by kernel_rfl) (fun _ _ _ h => h) (Or.inl ⟨by rfl, ?_⟩) hHeld ?_
        rotate_left
        · (intro w hS; go_simp; try with_reducible rfl)
        try simp only [Act.put, List.setIfInBounds_toArray, List.set_cons_zero, List.set_cons_succ]
        refine wpAnyH_take (i := 18) (oi := ({ dst := some 39, op := Op.fieldAddr 40 (Operand.tmp 38) 0, type := 0, pos := _, after := #[{ on := 17, ground := Ground.data }, { on := 0, ground := Ground.phase }, { on := 1, ground := Ground.phase }, { on := 2, ground := Ground.phase }, { on := 3, ground := Ground.phase }, { on := 4, ground := Ground.phase }, { on := 5, ground := Ground.phase }, { on := 6, ground := Ground.phase }, { on := 7, ground := Ground.phase }, { on := 8, ground := Ground.phase }, { on := 9, ground := Ground.phase }, { on := 10, ground := Ground.phase }, { on := 11, ground := Ground.phase }, { on := 12, ground := Ground.phase }, { on := 13, ground := Ground.phase }, { on := 14, ground := Ground.phase }, { on := 15, ground := Ground.phase }, { on := 16, ground := Ground.phase }], guard := none } : Oper)) (v := ?_) rfl (by kernel_rfl) (by kernel_rfl) (by kernel_rfl) (fun _ _ _ h => h) (Or.inl ⟨by rfl, ?_⟩) hHeld ?_
        rotate_left
        · (intro w hS; go_simp; try with_reducible rfl)
        try simp only [Act.put, List.setIfInBounds_toArray, List.set_cons_zero, List.set_cons_succ]
        refine wpAnyH_ready (rs := [19]) (by kernel_rfl) (by simp) ?_
        refine AllReadyH.cons (o := ({ dst := none, op := Op.store 38 (Operand.tmp 39) (Operand.tmp 37), type := 0, pos := _, after := #[{ on := 18, ground := Ground.data }, { on := 16, ground := Ground.data }, { on := 16, ground := Ground.chain }, { on := 0, ground := Ground.phase }, { on := 1, ground := Ground.phase }, { on := 2, ground := Ground.phase }, { on := 3, ground := Ground.phase }, { on := 4, ground := Ground.phase }, { on := 5, ground := Ground.phase }, { on := 6, ground := Ground.phase }, { on := 7, ground := Ground.phase }, { on := 8, ground := Ground.phase }, { on := 9, ground := Ground.phase }, { on := 10, ground := Ground.phase }, { on := 11, ground := Ground.phase }, { on := 12, ground := Ground.phase }, { on := 13, ground := Ground.phase }, { on := 14, ground := Ground.phase }, { on := 15, ground := Ground.phase }, { on := 16, ground := Ground.phase }], guard := none } : Oper)) rfl (fun K hK => ?_) AllReadyH.nil
        go_simp
        skip
        refine hK.out _ _ trivial (fun hHeld => ?_)
        clear hK K
        try simp only [Act.put, List.setIfInBounds_toArray, List.set_cons_zero, List.set_cons_succ]
        refine wpAnyH_done (by kernel_rfl) ?_ _
        have rowF := row_mono (row_other row16 hBq (Nat.le_refl _) h16 (by decide)) (Nat.zero_le _)
        have BF := (But.of (r := q) (B1.trans (Z16.mono B1.size))).trans (hBq.mono (Nat.le_trans B1.size Z16.size))
        go_wp2
        go_returns
        exact ⟨ret_get HG.out, ⟨a16, c16, by rw [← HLEN.out]; exact hF, by rw [← HLEN.out, ← HLST.out]; exact rowF⟩, BF⟩
      · go_simp
        skip
        refine hK.out _ _ trivial (fun hHeld => ?_)
        clear hK K
        try simp only [Act.put, List.setIfInBounds_toArray, List.set_cons_zero, List.set_cons_succ]
        refine wpAnyH_take (i := 7) (oi := ({ dst := some 28, op := Op.slice 38 (Operand.tmp 26) none (some (Operand.tmp 27)) none, type := 38, pos := _, after := #[{ on := 5, ground := Ground.data }, { on := 6, ground := Ground.data }], guard := none } : Oper)) (v := ?_) rfl (by kernel_rfl) (by kernel_rfl) (by kernel_rfl) (fun _ _ _ h => h) (Or.inl ⟨by rfl, ?_⟩) hHeld ?_
        rotate_left
        · (intro w hS; go_simp; first|rfl|(rw [run_pre _ a L.length c i _ rfl hic]; rfl))
        try simp only [Act.put, List.setIfInBounds_toArray, List.set_cons_zero, List.set_cons_succ]
        refine wpAnyH_ready (rs := [1]) (by kernel_rfl) (by simp) ?_
        refine AllReadyH.cons (o := ({ dst := some 22, op := Op.buildSlice 38 0 #[], type := 38, pos := _, after := #[], guard := none } : Oper)) rfl (fun K hK => ?_) AllReadyH.nil
        go_simp
        skip
        refine hK.out _ _ trivial (fun hHeld => ?_)
        clear hK K
        try simp only [Act.put, List.setIfInBounds_toArray, List.set_cons_zero, List.set_cons_succ]
        refine wpAnyH_ready (rs := [8]) (by kernel_rfl) (by simp) ?_
        refine AllReadyH.cons (o := ({ dst := some 29, op := Op.call { callee := Callee.builtin Builtin.append, args := #[Operand.tmp 22, Operand.tmp 28], argTypes := #[38, 38] }, type := 38, pos := _, after := #[{ on := 1, ground := Ground.data }, { on := 7, ground := Ground.data }], guard := none } : Oper)) rfl (fun K hK => ?_) AllReadyH.nil
        refine step_app_e (va := .slice (some ⟨w1.heap.size, 0, none⟩) 0 0) (base := w1.heap.size) (n := 0) (A := []) (B := L.take i) ZA.size rowA (hE _ ZA) hcn (by omega) _ _ rfl rfl rfl rfl ?_
        intro a8 c8 W8 row8 gr8
        simp only [Nat.zero_add, List.nil_append] at row8 ⊢
        have Z8 : Below w1.heap.size w1 W8 := ZA.trans (below_row rowA gr8 (Nat.le_refl _) ZA.size)
        have q8 := hS _ Z8
        refine hK.out _ _ trivial (fun hHeld => ?_)
        clear hK K
        try simp only [Act.put, List.setIfInBounds_toArray, List.set_cons_zero, List.set_cons_succ]
        refine wpAnyH_ready (rs := [16]) (by kernel_rfl) (by simp) ?_
        refine AllReadyH.cons (o := ({ dst := some 37, op := Op.call { callee := Callee.builtin Builtin.append, args := #[Operand.tmp 29, Operand.tmp 36], argTypes := #[38, 38] }, type := 38, pos := _, after := #[{ on := 8, ground := Ground.data }, { on := 15, ground := Ground.data }, { on := 8, ground := Ground.chain }], guard := none } : Oper)) rfl (fun K hK => ?_) AllReadyH.nil
        refine step_app_e (va := .slice a8 i c8) (base := w1.heap.size) (n := i) (A := L.take i) (B := L.drop (i + 1)) Z8.size row8 (hE2 _ Z8) hsn (by omega) _ _ rfl rfl rfl rfl ?_
        intro a16 c16 W16 row16 gr16
        have Z16 : Below w1.heap.size w1 W16 := Z8.trans (below_row row8 gr16 (Nat.le_refl _) Z8.size)
        have h16 := h1.below Z16 h1.lt
        have p0 := h16.cell 0 _ rfl
        have f0 := h16.frozen 0
        have hBq : But q W16.heap.size W16 (W16.setCell ⟨q, 0, none⟩ (.slice a16 (i + (L.length - (i + 1))) c16)) := (But.refl q W16.heap.size W16).set (p := ⟨q, 0, none⟩) rfl _
        have hF := h16.set 0 (.slice a16 (i + (L.length - (i + 1))) c16)
        refine hK.out _ _ trivial (fun hHeld => ?_)
        clear hK K
        try simp only [Act.put, List.setIfInBounds_toArray, List.set_cons_zero, List.set_cons_succ]
        refine wpAnyH_take (i := 17) (oi := ({ dst := some 38, op := Op.nilCheck (Operand.tmp 21), type := 0, pos := _, after := #[{ on := 0, ground := Ground.data }, { on := 0, ground := Ground.phase }, { on := 1, ground := Ground.phase }, { on := 2, ground := Ground.phase }, { on := 3, ground := Ground.phase }, { on := 4, ground := Ground.phase }, { on := 5, ground := Ground.phase }, { on := 6, ground := Ground.phase }, { on := 7, ground := Ground.phase }, { on := 8, ground := Ground.phase }, { on := 9, ground := Ground.phase }, { on := 10, ground := Ground.phase }, { on := 11, ground := Ground.phase }, { on := 12, ground := Ground.phase }, { on := 13, ground := Ground.phase }, { on := 14, ground := Ground.phase }, { on := 15, ground := Ground.phase }, { on := 16, ground := Ground.phase }], guard := none } : Oper)) (v := ?_) rfl (by kernel_rfl) (by kernel_rfl) (by kernel_rfl) (fun _ _ _ h => h) (Or.inl ⟨by rfl, ?_⟩) hHeld ?_
        rotate_left
        · (intro w hS; go_simp; try with_reducible rfl)
        try simp only [Act.put, List.setIfInBounds_toArray, List.set_cons_zero, List.set_cons_succ]
        refine wpAnyH_take (i := 18) (oi := ({ dst := some 39, op := Op.fieldAddr 40 (Operand.tmp 38) 0, type := 0, pos := _, after := #[{ on := 17, ground := Ground.data }, { on := 0, ground := Ground.phase }, { on := 1, ground := Ground.phase }, { on := 2, ground := Ground.phase }, { on := 3, ground := Ground.phase }, { on := 4, ground := Ground.phase }, { on := 5, ground := Ground.phase }, { on := 6, ground := Ground.phase }, { on := 7, ground := Ground.phase }, { on := 8, ground := Ground.phase }, { on := 9, ground := Ground.phase }, { on := 10, ground := Ground.phase }, { on := 11, ground := Ground.phase }, { on := 12, ground := Ground.phase }, { on := 13, ground := Ground.phase }, { on := 14, ground := Ground.phase }, { on := 15, ground := Ground.phase }, { on := 16, ground := Ground.phase }], guard := none } : Oper)) (v := ?_) rfl (by kernel_rfl) (by kernel_rfl) (by kernel_rfl) (fun _ _ _ h => h) (Or.inl ⟨by rfl, ?_⟩) hHeld ?_
        rotate_left
        · (intro w hS; go_simp; try with_reducible rfl)
        try simp only [Act.put, List.setIfInBounds_toArray, List.set_cons_zero, List.set_cons_succ]
        refine wpAnyH_ready (rs := [19]) (by kernel_rfl) (by simp) ?_
        refine AllReadyH.cons (o := ({ dst := none, op := Op.store 38 (Operand.tmp 39) (Operand.tmp 37), type := 0, pos := _, after := #[{ on := 18, ground := Ground.data }, { on := 16, ground := Ground.data }, { on := 16, ground := Ground.chain }, { on := 0, ground := Ground.phase }, { on := 1, ground := Ground.phase }, { on := 2, ground := Ground.phase }, { on := 3, ground := Ground.phase }, { on := 4, ground := Ground.phase }, { on := 5, ground := Ground.phase }, { on := 6, ground := Ground.phase }, { on := 7, ground := Ground.phase }, { on := 8, ground := Ground.phase }, { on := 9, ground := Ground.phase }, { on := 10, ground := Ground.phase }, { on := 11, ground := Ground.phase }, { on := 12, ground := Ground.phase }, { on := 13, ground := Ground.phase }, { on := 14, ground := Ground.phase }, { on := 15, ground := Ground.phase }, { on := 16, ground := Ground.phase }], guard := none } : Oper)) rfl (fun K hK => ?_) AllReadyH.nil
        go_simp
        skip
        refine hK.out _ _ trivial (fun hHeld => ?_)
        clear hK K
        try simp only [Act.put, List.setIfInBounds_toArray, List.set_cons_zero, List.set_cons_succ]
        refine wpAnyH_done (by kernel_rfl) ?_ _
        have rowF := row_mono (row_other row16 hBq (Nat.le_refl _) h16 (by decide)) (Nat.zero_le _)
        have BF := (But.of (r := q) (B1.trans (Z16.mono B1.size))).trans (hBq.mono (Nat.le_trans B1.size Z16.size))
        go_wp2
        go_returns
        exact ⟨ret_get HG.out, ⟨a16, c16, by rw [← HLEN.out]; exact hF, by rw [← HLEN.out, ← HLST.out]; exact rowF⟩, BF⟩
end Go.Proofs.Ytgimmaancnlbcaa
