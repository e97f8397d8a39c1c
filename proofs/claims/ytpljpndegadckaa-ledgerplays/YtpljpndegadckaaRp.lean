/- Proved here: what the document's with, Book and Change answer, and leave. Conditions: as each theorem states them. -/
import Derived.Test.YtpljpndegadckaaRf
namespace Go.Proofs.Ytpljpndegadckaa
set_option linter.unusedSimpArgs false
set_option linter.unusedVariables false
open Go.RowKit Go.Shelf

theorem run_pre (w : World) (a : Option Addr) (n c i : Nat) (z : Int) (hz : z = (i : Int)) (hic : i ≤ c) :
    (Instr.slice 37 (.slice a n c) none (some (.int .i64 z)) none).run Try.prog w = .ok (.slice a i c) w := by
  subst hz
  have hu : Try.prog.underlying 37 = some (.slice (Try.prog.elem 37)) := by kernel_rfl
  have he : Try.prog.elem 37 = 60 := by kernel_rfl
  have hs : ∀ w, (sizeOf 60).run Try.prog w = .ok 2 w := fun _ => by kernel_rfl
  rw [run_slice_h w _ _ _ _ hu .i64 _ (by omega) (by omega), he, hs]
  simp only [Result.andThen_ok, Int.toNat_natCast, sliced]
  cases a with
  | none => simp
  | some y => by_cases h : c = 0 <;> simp [Addr.add, h]
theorem run_suf (w : World) (a : Option Addr) (n c i : Nat) (z : Int) (hz : z = (i : Int)) (hin : i ≤ n) (hnc : n ≤ c) :
    (Instr.slice 37 (.slice a n c) (some (.int .i64 z)) none none).run Try.prog w = .ok (.slice (if c = i then a else a.map (·.add (i * 2))) (n - i) (c - i)) w := by
  subst hz
  have hu : Try.prog.underlying 37 = some (.slice (Try.prog.elem 37)) := by kernel_rfl
  have he : Try.prog.elem 37 = 60 := by kernel_rfl
  have hs : ∀ w, (sizeOf 60).run Try.prog w = .ok 2 w := fun _ => by kernel_rfl
  rw [run_slice_l w _ _ _ _ hu .i64 _ (by omega) (by omega), he, hs]
  simp only [Result.andThen_ok, Int.toNat_natCast, sliced]
theorem IsE.suf {n : Nat} {W : World} {a : Option Addr} {len c : Nat} {L : List En} (h : IsE n W a len c L) (hc : len ≤ c) {i : Nat} (hi : i ≤ len) : IsE n W (if c = i then a else a.map (·.add (i * 2))) (len - i) (c - i) (L.drop i) := by
  obtain ⟨e, h0, h⟩ := h
  refine ⟨by rw [List.length_drop]; omega, ?_, ?_⟩
  · intro e'
    split at e'
    · omega
    · cases a with
      | none => have := h0 rfl; omega
      | some y => cases e'
  · by_cases h0 : i = len
    · left; exact List.drop_eq_nil_of_le (by omega)
    · rcases h with h | ⟨b, off, ea, hb, hcell⟩
      · left; rw [h]; simp
      · right
        refine ⟨b, off + i * 2, by rw [if_neg (show ¬ c = i by omega), ea]; simp [Addr.add], hb, fun j v hv => ?_⟩
        have e2 : ecells L = ecells (L.take i) ++ ecells (L.drop i) := by rw [← ecells_append, List.take_append_drop]
        rw [Nat.add_assoc]
        refine hcell _ v ?_
        rw [e2, List.getElem?_append_right (by rw [ecells_length, List.length_take]; omega), ecells_length, List.length_take, Nat.min_eq_left (by omega), Nat.add_sub_cancel_left]
        exact hv
theorem isE_bk {W : World} {b : Nat} {x y : Int} {t : TypeId} (h : BK W b #[.int .i64 x, .int .i64 y] t) : IsE W.heap.size W (some ⟨b, 0, none⟩) 1 1 [(x, y)] :=
  ⟨rfl, (fun e => by cases e), .inr ⟨b, 0, rfl, h.lt, fun j v hv => by
    rw [Nat.zero_add]
    exact h.cell j v (by simpa [ecells] using hv)⟩⟩
theorem bk_grown0 {X Y : World} {b : Nat} {vs : Array Value} {t : TypeId} (h : BK X b vs t) (hg : X.grownBy Y (Value.slice none 0 0).ownBlock) : BK Y b vs t := (hg.block b h.lt (by simp [Value.ownBlock])).trans h
theorem ES.cap {base : Nat} {w : World} {a : Option Addr} {n c : Nat} {L : List En} (h : ES base w a n c L) : n ≤ c := by
  obtain ⟨hn, hl, ho⟩ := h
  rcases ho with ⟨e, h0⟩ | ⟨g, cap, cur, e, hg, hh, hc, _⟩
  · omega
  · simp only [Value.slice.injEq] at e; omega
theorem step_app_es {w : World} {base n m c c2 k : Nat} {A B : List En} {a1 a2 : Option Addr} (hbase : base ≤ w.heap.size) (hv : ES base w a1 n c A) (hB : IsE k w a2 m c2 B) (hsz : n + m ≤ 2000)
    {ops : Array Oper} {o : Oper} {a : Act} {K : Act → World → Prop} {Q : Exit → Act → World → Prop} {E : Prop} (s x : Operand) (hgd : Region.wanted o (yielded ops a.tmps) = true)
    (ho : o.op = .call { callee := .builtin .append, args := #[s, x], argTypes := #[37, 37] }) (hs : a.eval s = .slice a1 n c) (hx : a.eval x = .slice a2 m c2)
    (h : ∀ a' c' w', ES base w' a' (n + m) c' (A ++ B) → Below base w w' → w.grownBy w' (Value.slice a1 n c).ownBlock → K (a.put o.dst (.slice a' (n + m) c')) w') :
    if Region.wanted o (yielded ops a.tmps) = true then Oper.wp Try.prog o a w K Q else E := by
  obtain ⟨a', c', w', hrun, h1, h2, h3⟩ := run_app_e w base hbase a1 n c A hv o.type k a2 m c2 B hB hsz
  rw [if_pos hgd]
  unfold Oper.wp
  simp [execOp, ho, resolve, invoke, builtin, hs, hx, hrun, Result.andThen]
  exact h _ _ _ h1 h2 h3
theorem below_al {n : Nat} {a w : World} (h : Below n a w) (hn : n ≤ a.heap.size) (o : Obj) : Below n a (w.alloc o) := h.alloc (Nat.le_trans hn h.size) o

set_option maxHeartbeats 8000000 in
set_option maxRecDepth 20000 in
theorem rwith_calls {w : World} {a : Option Addr} {len c : Nat} {L : List En} (hI : IsE w.heap.size w a len c L) (hcap : len ≤ c) (hlen : L.length ≤ 1000) (k n : Int) :
    Calls Try.prog 28 #[.slice a len c, .agg #[.int .i64 k, .int .i64 n]] w fun e w' => ∃ a' c', e = .returned (.slice a' (L.length + 1) c') ∧ ES w.heap.size w' a' (L.length + 1) c' (ins L (k, n)) ∧ Below w.heap.size w w' := by
  obtain rfl : len = L.length := hI.1
  have K1 := bk_new w #[.int .i64 k, .int .i64 n] 60
  have B1 := below_box w (.cells #[.int .i64 k, .int .i64 n] 60)
  have I1 := hI.below B1 (Nat.le_refl _)
  have HI : Hid (ins L (k, n) = L.take (pos L k) ++ (k, n) :: L.drop (pos L k)) := ins_at L (k, n)
  go_enter Try.func28, Try.ntmps28
  go_wp2
  generalize w.alloc (.cells #[.int .i64 k, .int .i64 n] 60) = w1 at *
  clear hI
  go_loopw [5] (fun iv wr => ∃ (i : Nat), i ≤ L.length ∧ iv = .int .i64 i ∧ pos (L.drop i) k + i = pos L k ∧ Below w1.heap.size w1 wr) (fun iv _ => L.length - (intOf iv).toNat)
  case atStart => exact ⟨0, Nat.zero_le _, rfl, rfl, Below.refl _ _⟩
  case round =>
    obtain ⟨i, hi, rfl, hp, B4⟩ := hrel
    have K4 := K1.below B4 K1.lt
    have I4 := I1.below B4 B1.size
    have k0 := K4.cell 0 _ rfl
    have k1 := K4.cell 1 _ rfl
    have HB : Hid (Below w.heap.size w wr) := B1.trans (B4.mono B1.size)
    by_cases hgo : ∃ x, L[i]? = some x ∧ x.1 < k
    · obtain ⟨x, hx, hxk⟩ := hgo
      have hlt : i < L.length := (List.getElem?_eq_some_iff.1 hx).1
      obtain ⟨g, off, y, rfl, hg, hy, hc⟩ := I4.at hlt
      obtain rfl : x = y := Option.some.inj (hx.symm.trans hy)
      obtain ⟨c0, c1⟩ := hc wr rfl
      have d1 : decide ((i : Int) < (L.length : Int)) = true := by simp; omega
      have d2 : decide (x.1 < k) = true := decide_eq_true hxk
      have HP : Hid (pos (L.drop (i + 1)) k + (i + 1) = pos L k) := by show _ = _; rw [← hp, pos_step hx hxk]; omega
      clear hx hy hc hxk hp I4 K4
      go_wp2_with fail
      go_quiet (fail)
      have B5 := below_drewN' (k := 1) B4
      go_wp2
      go_roundw
      case rel => exact ⟨i + 1, by omega, by go_num, HP.out, by first | exact B5 | exact below_drewN' B4 | exact B4.drew⟩
      case measure => simp [intOf]; omega
    · have hpi : pos L k = i := by
        by_cases hlt : i < L.length
        · obtain ⟨x, hx⟩ : ∃ x, L[i]? = some x := ⟨L[i], by rw [List.getElem?_eq_getElem]⟩
          rw [pos_here hx (fun h => hgo ⟨x, hx, h⟩)] at hp
          omega
        · rw [List.drop_eq_nil_of_le (by omega)] at hp
          simp [pos] at hp
          omega
      have HI2 : Hid (ins L (k, n) = L.take i ++ (k, n) :: L.drop i) := by show _ = _; rw [HI.out, hpi]
      have d5 : ∀ (V : World), Below wr.heap.size wr V → IsE w.heap.size V a L.length c L ∧ BK V w.heap.size #[.int .i64 k, .int .i64 n] 60 ∧ Below w.heap.size w V := fun V hV =>
        ⟨I4.below hV HB.out.size, K4.below hV K4.lt, HB.out.trans (hV.mono HB.out.size)⟩
      have key : ∀ (V : World), Below wr.heap.size wr V → V.cell? ⟨w.heap.size, 0, none⟩ = some (.int .i64 k) ∧ V.cell? ⟨w.heap.size, 1, none⟩ = some (.int .i64 n) := fun V hV => ⟨(d5 V hV).2.1.cell 0 _ rfl, (d5 V hV).2.1.cell 1 _ rfl⟩
      have hic : i ≤ c := by omega
      by_cases hlt : i < L.length
      · obtain ⟨g, off, y, ha, hg, hy, hc⟩ := I4.at hlt
        obtain ⟨c0, c1⟩ := hc wr rfl
        have hyk : ¬ y.1 < k := fun h => hgo ⟨y, hy, h⟩
        have d1 : decide ((i : Int) < (L.length : Int)) = true := by simp; omega
        have d2 : decide (y.1 < k) = false := decide_eq_false hyk
        have hg2 : Hid (g < w.heap.size) := hg
        clear hy hc hyk hp I4 K4 hgo hpi
        subst ha
        go_wp2_with fail
        go_quiet (fail)
        have hZ : Below wr.heap.size wr (wr.drewN nq) := below_drewN' (Below.refl _ _)
        have d6 : ∀ V, Below (wr.drewN nq).heap.size (wr.drewN nq) V → IsE w.heap.size V (some ⟨g, off, none⟩) L.length c L ∧ BK V w.heap.size #[.int .i64 k, .int .i64 n] 60 ∧ Below w.heap.size w V := fun V hV => d5 V (hZ.trans (hV.mono hZ.size))
        have key6 : ∀ V, Below (wr.drewN nq).heap.size (wr.drewN nq) V → V.cell? ⟨w.heap.size, 0, none⟩ = some (.int .i64 k) ∧ V.cell? ⟨w.heap.size, 1, none⟩ = some (.int .i64 n) := fun V hV => key V (hZ.trans (hV.mono hZ.size))
        clear hZ d5 key k0 k1 B4
        generalize wr.drewN nq = W5 at *
        generalize (some ⟨g, off, none⟩ : Option Addr) = a9 at *
        have Z0 : Below W5.heap.size W5 W5.drew := (Below.refl _ _).drew
        have ZA := below_al Z0 (Nat.le_refl _) (.cells #[.int .i64 k, .int .i64 n] 60)
        have hE : ∀ W', Below W5.heap.size W5 W' → IsE w.heap.size W' a9 i c (L.take i) := fun W' hW => (d6 W' hW).1.take hi
        go_wp2_with fail
        refine wp_region_held_drew (S := (fun w' => w'.cell? ⟨w.heap.size, 0, none⟩ = some (.int .i64 k) ∧ w'.cell? ⟨w.heap.size, 1, none⟩ = some (.int .i64 n))) (by kernel_rfl) (key6 _ Z0) (fun hHeld => ?_)
        refine wpAnyH_take (i := 0) (oi := ({ dst := some 23, op := Op.move (Operand.tmp 6), type := 37, pos := _, after := #[], guard := none } : Oper)) (v := ?_) rfl (by kernel_rfl) (by kernel_rfl) (by kernel_rfl) (fun _ _ _ h => h) (Or.inl ⟨by rfl, ?_⟩) hHeld ?_
        rotate_left
        · (intro w hS; go_simp; try with_reducible rfl)
        try simp only [Act.put, List.setIfInBounds_toArray, List.set_cons_zero, List.set_cons_succ]
        refine wpAnyH_take (i := 1) (oi := ({ dst := some 24, op := Op.move (Operand.tmp 0), type := 37, pos := _, after := #[], guard := none } : Oper)) (v := ?_) rfl (by kernel_rfl) (by kernel_rfl) (by kernel_rfl) (fun _ _ _ h => h) (Or.inl ⟨by rfl, ?_⟩) hHeld ?_
        rotate_left
        · (intro w hS; go_simp; try with_reducible rfl)
        try simp only [Act.put, List.setIfInBounds_toArray, List.set_cons_zero, List.set_cons_succ]
        refine wpAnyH_take (i := 2) (oi := ({ dst := some 25, op := Op.move (Operand.tmp 5), type := 3, pos := _, after := #[], guard := none } : Oper)) (v := ?_) rfl (by kernel_rfl) (by kernel_rfl) (by kernel_rfl) (fun _ _ _ h => h) (Or.inl ⟨by rfl, ?_⟩) hHeld ?_
        rotate_left
        · (intro w hS; go_simp; try with_reducible rfl)
        try simp only [Act.put, List.setIfInBounds_toArray, List.set_cons_zero, List.set_cons_succ]
        refine wpAnyH_take (i := 3) (oi := ({ dst := some 26, op := Op.slice 37 (Operand.tmp 24) none (some (Operand.tmp 25)) none, type := 37, pos := _, after := #[{ on := 1, ground := Ground.data }, { on := 2, ground := Ground.data }], guard := none } : Oper)) (v := ?_) rfl (by kernel_rfl) (by kernel_rfl) (by kernel_rfl) (fun _ _ _ h => h) (Or.inl ⟨by rfl, ?_⟩) hHeld ?_
        rotate_left
        · (intro w hS; go_simp; first|rfl|(rw [run_pre _ a9 L.length c i _ rfl hic]; rfl))
        try simp only [Act.put, List.setIfInBounds_toArray, List.set_cons_zero, List.set_cons_succ]
        refine wpAnyH_take (i := 5) (oi := ({ dst := some 28, op := Op.load 60 (Operand.tmp 3), type := 60, pos := _, after := #[], guard := none } : Oper)) (v := ?_) rfl (by kernel_rfl) (by kernel_rfl) (by kernel_rfl) (fun _ _ _ h => h) (Or.inl ⟨by rfl, ?_⟩) hHeld ?_
        rotate_left
        · (intro w hS; go_simp; try with_reducible rfl)
        try simp only [Act.put, List.setIfInBounds_toArray, List.set_cons_zero, List.set_cons_succ]
        refine wpAnyH_ready (rs := [4, 6]) (by kernel_rfl) (by simp) ?_
        refine AllReadyH.cons (o := ({ dst := some 27, op := Op.call { callee := Callee.builtin Builtin.append, args := #[Operand.tmp 23, Operand.tmp 26], argTypes := #[37, 37] }, type := 37, pos := _, after := #[{ on := 0, ground := Ground.data }, { on := 3, ground := Ground.data }], guard := none } : Oper)) rfl (fun K hK => ?_) (AllReadyH.cons (o := ({ dst := some 29, op := Op.buildSlice 37 1 #[(0, Operand.tmp 28)], type := 37, pos := _, after := #[{ on := 5, ground := Ground.data }], guard := none } : Oper)) rfl (fun K hK => ?_) (AllReadyH.nil))
        · refine step_app_es (base := W5.heap.size) (n := 0) (A := []) (a1 := none) (c := 0) (B := L.take i) (by first|exact Z0.size|exact ZA.size) (es_nil _ _) (by first|exact hE _ Z0|exact hE _ ZA) (by omega) _ _ rfl rfl rfl rfl ?_
          intro a7 c7 W7 row7 B7 gr7
          simp only [Nat.zero_add, List.nil_append] at row7 ⊢
          have Z7 : Below W5.heap.size W5 W7 := by first|exact Z0.trans B7|exact ZA.trans B7
          have ZA7 := below_al Z7 (Nat.le_refl _) (.cells #[.int .i64 k, .int .i64 n] 60)
          refine hK.out _ _ (key6 _ Z7) (fun hHeld => ?_)
          clear hK K
          try simp only [Act.put, List.setIfInBounds_toArray, List.set_cons_zero, List.set_cons_succ]
          refine wpAnyH_ready (rs := [6]) (by kernel_rfl) (by simp) ?_
          refine AllReadyH.cons (o := ({ dst := some 29, op := Op.buildSlice 37 1 #[(0, Operand.tmp 28)], type := 37, pos := _, after := #[{ on := 5, ground := Ground.data }], guard := none } : Oper)) rfl (fun K hK => ?_) AllReadyH.nil
          go_simp
          skip
          refine hK.out _ _ (by first|exact key6 _ ZA|exact key6 _ ZA7) (fun hHeld => ?_)
          clear hK K
          try simp only [Act.put, List.setIfInBounds_toArray, List.set_cons_zero, List.set_cons_succ]
          refine wpAnyH_ready (rs := [7]) (by kernel_rfl) (by simp) ?_
          refine AllReadyH.cons (o := ({ dst := some 30, op := Op.call { callee := Callee.builtin Builtin.append, args := #[Operand.tmp 27, Operand.tmp 29], argTypes := #[37, 37] }, type := 37, pos := _, after := #[{ on := 4, ground := Ground.data }, { on := 6, ground := Ground.data }, { on := 4, ground := Ground.chain }], guard := none } : Oper)) rfl (fun K hK => ?_) AllReadyH.nil
          refine step_app_es (base := W5.heap.size) (n := i) (A := L.take i) (B := [(k, n)]) (by first|exact Z7.size|exact ZA7.size) (by first|exact row7|exact row7.below (below_box _ _) (Nat.le_refl _)) (by first|exact isE_bk (bk_new _ _ _)|exact isE_bk (bk_grown0 (bk_new _ _ _) gr7)|exact isE_bk (bk_grown0 (BK.drew (bk_new _ _ _)) gr7)) (by omega) _ _ rfl rfl rfl rfl ?_
          intro a12 c12 W12 row12 B12 gr12
          have Z12 : Below W5.heap.size W5 W12 := by first|exact Z7.trans B12|exact ZA7.trans B12
          refine hK.out _ _ (key6 _ Z12) (fun hHeld => ?_)
          clear hK K
          try simp only [Act.put, List.setIfInBounds_toArray, List.set_cons_zero, List.set_cons_succ]
          refine wpAnyH_take (i := 8) (oi := ({ dst := some 6, op := Op.assign (Operand.tmp 30), type := 37, pos := _, after := #[{ on := 7, ground := Ground.data }, { on := 7, ground := Ground.chain }, { on := 0, ground := Ground.phase }, { on := 1, ground := Ground.phase }, { on := 2, ground := Ground.phase }, { on := 3, ground := Ground.phase }, { on := 4, ground := Ground.phase }, { on := 5, ground := Ground.phase }, { on := 6, ground := Ground.phase }, { on := 7, ground := Ground.phase }], guard := none } : Oper)) (v := ?_) rfl (by kernel_rfl) (by kernel_rfl) (by kernel_rfl) (fun _ _ _ h => h) (Or.inl ⟨by rfl, ?_⟩) hHeld ?_
          rotate_left
          · (intro w hS; go_simp; try with_reducible rfl)
          try simp only [Act.put, List.setIfInBounds_toArray, List.set_cons_zero, List.set_cons_succ]
          refine wpAnyH_done (by kernel_rfl) ?_ _
          have hsf := run_suf W12 a9 L.length c i _ rfl hi hcap
          have E12 := (d6 _ Z12).1.suf hcap hi
          obtain ⟨a10, ha10⟩ : ∃ a10, (if c = i then a9 else a9.map (·.add (i * 2))) = a10 := ⟨_, rfl⟩
          rw [ha10] at hsf E12
          clear ha10
          obtain ⟨a13, c13, W13, hap, row13, B13, gr13⟩ := run_app_e W12 W5.heap.size Z12.size a12 (i + 1) c12 _ row12 37 _ a10 (L.length - i) (c - i) (L.drop i) E12 (by omega)
          have Z13 := Z12.trans B13
          have HF : Hid (Below w.heap.size w W13) := (d6 _ Z13).2.2
          have HW : Hid (w.heap.size ≤ W5.heap.size) := (d6 _ (Below.refl _ _)).2.2.size
          have HLEN : Hid (i + 1 + (L.length - i) = L.length + 1) := by show _ = _; omega
          have HLST : Hid (L.take i ++ [(k, n)] ++ L.drop i = ins L (k, n)) := by show _ = _; rw [HI2.out]; simp
          clear row7 B7 gr7 row12 B12 gr12 E12 B13 gr13 Z0 ZA Z7 ZA7 Z12 Z13 hE d6 key6
          go_wp2_with (at_builtin; refine wpList_app hap _ _ rfl rfl rfl rfl rfl ?_)
          go_ret
          refine ⟨a13, c13, by rw [HLEN.out]; rfl, ?_, HF.out⟩
          rw [← HLST.out, ← HLEN.out]
          exact row13.mono HW.out
        · go_simp
          skip
          refine hK.out _ _ (by first|exact key6 _ ZA|exact key6 _ ZA7) (fun hHeld => ?_)
          clear hK K
          try simp only [Act.put, List.setIfInBounds_toArray, List.set_cons_zero, List.set_cons_succ]
          refine wpAnyH_ready (rs := [4]) (by kernel_rfl) (by simp) ?_
          refine AllReadyH.cons (o := ({ dst := some 27, op := Op.call { callee := Callee.builtin Builtin.append, args := #[Operand.tmp 23, Operand.tmp 26], argTypes := #[37, 37] }, type := 37, pos := _, after := #[{ on := 0, ground := Ground.data }, { on := 3, ground := Ground.data }], guard := none } : Oper)) rfl (fun K hK => ?_) AllReadyH.nil
          refine step_app_es (base := W5.heap.size) (n := 0) (A := []) (a1 := none) (c := 0) (B := L.take i) (by first|exact Z0.size|exact ZA.size) (es_nil _ _) (by first|exact hE _ Z0|exact hE _ ZA) (by omega) _ _ rfl rfl rfl rfl ?_
          intro a7 c7 W7 row7 B7 gr7
          simp only [Nat.zero_add, List.nil_append] at row7 ⊢
          have Z7 : Below W5.heap.size W5 W7 := by first|exact Z0.trans B7|exact ZA.trans B7
          have ZA7 := below_al Z7 (Nat.le_refl _) (.cells #[.int .i64 k, .int .i64 n] 60)
          refine hK.out _ _ (key6 _ Z7) (fun hHeld => ?_)
          clear hK K
          try simp only [Act.put, List.setIfInBounds_toArray, List.set_cons_zero, List.set_cons_succ]
          refine wpAnyH_ready (rs := [7]) (by kernel_rfl) (by simp) ?_
          refine AllReadyH.cons (o := ({ dst := some 30, op := Op.call { callee := Callee.builtin Builtin.append, args := #[Operand.tmp 27, Operand.tmp 29], argTypes := #[37, 37] }, type := 37, pos := _, after := #[{ on := 4, ground := Ground.data }, { on := 6, ground := Ground.data }, { on := 4, ground := Ground.chain }], guard := none } : Oper)) rfl (fun K hK => ?_) AllReadyH.nil
          refine step_app_es (base := W5.heap.size) (n := i) (A := L.take i) (B := [(k, n)]) (by first|exact Z7.size|exact ZA7.size) (by first|exact row7|exact row7.below (below_box _ _) (Nat.le_refl _)) (by first|exact isE_bk (bk_new _ _ _)|exact isE_bk (bk_grown0 (bk_new _ _ _) gr7)|exact isE_bk (bk_grown0 (BK.drew (bk_new _ _ _)) gr7)) (by omega) _ _ rfl rfl rfl rfl ?_
          intro a12 c12 W12 row12 B12 gr12
          have Z12 : Below W5.heap.size W5 W12 := by first|exact Z7.trans B12|exact ZA7.trans B12
          refine hK.out _ _ (key6 _ Z12) (fun hHeld => ?_)
          clear hK K
          try simp only [Act.put, List.setIfInBounds_toArray, List.set_cons_zero, List.set_cons_succ]
          refine wpAnyH_take (i := 8) (oi := ({ dst := some 6, op := Op.assign (Operand.tmp 30), type := 37, pos := _, after := #[{ on := 7, ground := Ground.data }, { on := 7, ground := Ground.chain }, { on := 0, ground := Ground.phase }, { on := 1, ground := Ground.phase }, { on := 2, ground := Ground.phase }, { on := 3, ground := Ground.phase }, { on := 4, ground := Ground.phase }, { on := 5, ground := Ground.phase }, { on := 6, ground := Ground.phase }, { on := 7, ground := Ground.phase }], guard := none } : Oper)) (v := ?_) rfl (by kernel_rfl) (by kernel_rfl) (by kernel_rfl) (fun _ _ _ h => h) (Or.inl ⟨by rfl, ?_⟩) hHeld ?_
          rotate_left
          · (intro w hS; go_simp; try with_reducible rfl)
          try simp only [Act.put, List.setIfInBounds_toArray, List.set_cons_zero, List.set_cons_succ]
          refine wpAnyH_done (by kernel_rfl) ?_ _
          have hsf := run_suf W12 a9 L.length c i _ rfl hi hcap
          have E12 := (d6 _ Z12).1.suf hcap hi
          obtain ⟨a10, ha10⟩ : ∃ a10, (if c = i then a9 else a9.map (·.add (i * 2))) = a10 := ⟨_, rfl⟩
          rw [ha10] at hsf E12
          clear ha10
          obtain ⟨a13, c13, W13, hap, row13, B13, gr13⟩ := run_app_e W12 W5.heap.size Z12.size a12 (i + 1) c12 _ row12 37 _ a10 (L.length - i) (c - i) (L.drop i) E12 (by omega)
          have Z13 := Z12.trans B13
          have HF : Hid (Below w.heap.size w W13) := (d6 _ Z13).2.2
          have HW : Hid (w.heap.size ≤ W5.heap.size) := (d6 _ (Below.refl _ _)).2.2.size
          have HLEN : Hid (i + 1 + (L.length - i) = L.length + 1) := by show _ = _; omega
          have HLST : Hid (L.take i ++ [(k, n)] ++ L.drop i = ins L (k, n)) := by show _ = _; rw [HI2.out]; simp
          clear row7 B7 gr7 row12 B12 gr12 E12 B13 gr13 Z0 ZA Z7 ZA7 Z12 Z13 hE d6 key6
          go_wp2_with (at_builtin; refine wpList_app hap _ _ rfl rfl rfl rfl rfl ?_)
          go_ret
          refine ⟨a13, c13, by rw [HLEN.out]; rfl, ?_, HF.out⟩
          rw [← HLST.out, ← HLEN.out]
          exact row13.mono HW.out
      · have d1 : decide ((i : Int) < (L.length : Int)) = false := by simp; omega
        clear hp I4 K4 hgo hpi
        go_wp2_with fail
        go_quiet (fail)
        have hZ : Below wr.heap.size wr (wr.drewN nq) := below_drewN' (Below.refl _ _)
        have d6 : ∀ V, Below (wr.drewN nq).heap.size (wr.drewN nq) V → IsE w.heap.size V (a) L.length c L ∧ BK V w.heap.size #[.int .i64 k, .int .i64 n] 60 ∧ Below w.heap.size w V := fun V hV => d5 V (hZ.trans (hV.mono hZ.size))
        have key6 : ∀ V, Below (wr.drewN nq).heap.size (wr.drewN nq) V → V.cell? ⟨w.heap.size, 0, none⟩ = some (.int .i64 k) ∧ V.cell? ⟨w.heap.size, 1, none⟩ = some (.int .i64 n) := fun V hV => key V (hZ.trans (hV.mono hZ.size))
        clear hZ d5 key k0 k1 B4
        generalize wr.drewN nq = W5 at *
        generalize (a : Option Addr) = a9 at *
        have Z0 : Below W5.heap.size W5 W5.drew := (Below.refl _ _).drew
        have ZA := below_al Z0 (Nat.le_refl _) (.cells #[.int .i64 k, .int .i64 n] 60)
        have hE : ∀ W', Below W5.heap.size W5 W' → IsE w.heap.size W' a9 i c (L.take i) := fun W' hW => (d6 W' hW).1.take hi
        go_wp2_with fail
        refine wp_region_held_drew (S := (fun w' => w'.cell? ⟨w.heap.size, 0, none⟩ = some (.int .i64 k) ∧ w'.cell? ⟨w.heap.size, 1, none⟩ = some (.int .i64 n))) (by kernel_rfl) (key6 _ Z0) (fun hHeld => ?_)
        refine wpAnyH_take (i := 0) (oi := ({ dst := some 23, op := Op.move (Operand.tmp 6), type := 37, pos := _, after := #[], guard := none } : Oper)) (v := ?_) rfl (by kernel_rfl) (by kernel_rfl) (by kernel_rfl) (fun _ _ _ h => h) (Or.inl ⟨by rfl, ?_⟩) hHeld ?_
        rotate_left
        · (intro w hS; go_simp; try with_reducible rfl)
        try simp only [Act.put, List.setIfInBounds_toArray, List.set_cons_zero, List.set_cons_succ]
        refine wpAnyH_take (i := 1) (oi := ({ dst := some 24, op := Op.move (Operand.tmp 0), type := 37, pos := _, after := #[], guard := none } : Oper)) (v := ?_) rfl (by kernel_rfl) (by kernel_rfl) (by kernel_rfl) (fun _ _ _ h => h) (Or.inl ⟨by rfl, ?_⟩) hHeld ?_
        rotate_left
        · (intro w hS; go_simp; try with_reducible rfl)
        try simp only [Act.put, List.setIfInBounds_toArray, List.set_cons_zero, List.set_cons_succ]
        refine wpAnyH_take (i := 2) (oi := ({ dst := some 25, op := Op.move (Operand.tmp 5), type := 3, pos := _, after := #[], guard := none } : Oper)) (v := ?_) rfl (by kernel_rfl) (by kernel_rfl) (by kernel_rfl) (fun _ _ _ h => h) (Or.inl ⟨by rfl, ?_⟩) hHeld ?_
        rotate_left
        · (intro w hS; go_simp; try with_reducible rfl)
        try simp only [Act.put, List.setIfInBounds_toArray, List.set_cons_zero, List.set_cons_succ]
        refine wpAnyH_take (i := 3) (oi := ({ dst := some 26, op := Op.slice 37 (Operand.tmp 24) none (some (Operand.tmp 25)) none, type := 37, pos := _, after := #[{ on := 1, ground := Ground.data }, { on := 2, ground := Ground.data }], guard := none } : Oper)) (v := ?_) rfl (by kernel_rfl) (by kernel_rfl) (by kernel_rfl) (fun _ _ _ h => h) (Or.inl ⟨by rfl, ?_⟩) hHeld ?_
        rotate_left
        · (intro w hS; go_simp; first|rfl|(rw [run_pre _ a9 L.length c i _ rfl hic]; rfl))
        try simp only [Act.put, List.setIfInBounds_toArray, List.set_cons_zero, List.set_cons_succ]
        refine wpAnyH_take (i := 5) (oi := ({ dst := some 28, op := Op.load 60 (Operand.tmp 3), type := 60, pos := _, after := #[], guard := none } : Oper)) (v := ?_) rfl (by kernel_rfl) (by kernel_rfl) (by kernel_rfl) (fun _ _ _ h => h) (Or.inl ⟨by rfl, ?_⟩) hHeld ?_
        rotate_left
        · (intro w hS; go_simp; try with_reducible rfl)
        try simp only [Act.put, List.setIfInBounds_toArray, List.set_cons_zero, List.set_cons_succ]
        refine wpAnyH_ready (rs := [4, 6]) (by kernel_rfl) (by simp) ?_
        refine AllReadyH.cons (o := ({ dst := some 27, op := Op.call { callee := Callee.builtin Builtin.append, args := #[Operand.tmp 23, Operand.tmp 26], argTypes := #[37, 37] }, type := 37, pos := _, after := #[{ on := 0, ground := Ground.data }, { on := 3, ground := Ground.data }], guard := none } : Oper)) rfl (fun K hK => ?_) (AllReadyH.cons (o := ({ dst := some 29, op := Op.buildSlice 37 1 #[(0, Operand.tmp 28)], type := 37, pos := _, after := #[{ on := 5, ground := Ground.data }], guard := none } : Oper)) rfl (fun K hK => ?_) (AllReadyH.nil))
        · refine step_app_es (base := W5.heap.size) (n := 0) (A := []) (a1 := none) (c := 0) (B := L.take i) (by first|exact Z0.size|exact ZA.size) (es_nil _ _) (by first|exact hE _ Z0|exact hE _ ZA) (by omega) _ _ rfl rfl rfl rfl ?_
          intro a7 c7 W7 row7 B7 gr7
          simp only [Nat.zero_add, List.nil_append] at row7 ⊢
          have Z7 : Below W5.heap.size W5 W7 := by first|exact Z0.trans B7|exact ZA.trans B7
          have ZA7 := below_al Z7 (Nat.le_refl _) (.cells #[.int .i64 k, .int .i64 n] 60)
          refine hK.out _ _ (key6 _ Z7) (fun hHeld => ?_)
          clear hK K
          try simp only [Act.put, List.setIfInBounds_toArray, List.set_cons_zero, List.set_cons_succ]
          refine wpAnyH_ready (rs := [6]) (by kernel_rfl) (by simp) ?_
          refine AllReadyH.cons (o := ({ dst := some 29, op := Op.buildSlice 37 1 #[(0, Operand.tmp 28)], type := 37, pos := _, after := #[{ on := 5, ground := Ground.data }], guard := none } : Oper)) rfl (fun K hK => ?_) AllReadyH.nil
          go_simp
          skip
          refine hK.out _ _ (by first|exact key6 _ ZA|exact key6 _ ZA7) (fun hHeld => ?_)
          clear hK K
          try simp only [Act.put, List.setIfInBounds_toArray, List.set_cons_zero, List.set_cons_succ]
          refine wpAnyH_ready (rs := [7]) (by kernel_rfl) (by simp) ?_
          refine AllReadyH.cons (o := ({ dst := some 30, op := Op.call { callee := Callee.builtin Builtin.append, args := #[Operand.tmp 27, Operand.tmp 29], argTypes := #[37, 37] }, type := 37, pos := _, after := #[{ on := 4, ground := Ground.data }, { on := 6, ground := Ground.data }, { on := 4, ground := Ground.chain }], guard := none } : Oper)) rfl (fun K hK => ?_) AllReadyH.nil
          refine step_app_es (base := W5.heap.size) (n := i) (A := L.take i) (B := [(k, n)]) (by first|exact Z7.size|exact ZA7.size) (by first|exact row7|exact row7.below (below_box _ _) (Nat.le_refl _)) (by first|exact isE_bk (bk_new _ _ _)|exact isE_bk (bk_grown0 (bk_new _ _ _) gr7)|exact isE_bk (bk_grown0 (BK.drew (bk_new _ _ _)) gr7)) (by omega) _ _ rfl rfl rfl rfl ?_
          intro a12 c12 W12 row12 B12 gr12
          have Z12 : Below W5.heap.size W5 W12 := by first|exact Z7.trans B12|exact ZA7.trans B12
          refine hK.out _ _ (key6 _ Z12) (fun hHeld => ?_)
          clear hK K
          try simp only [Act.put, List.setIfInBounds_toArray, List.set_cons_zero, List.set_cons_succ]
          refine wpAnyH_take (i := 8) (oi := ({ dst := some 6, op := Op.assign (Operand.tmp 30), type := 37, pos := _, after := #[{ on := 7, ground := Ground.data }, { on := 7, ground := Ground.chain }, { on := 0, ground := Ground.phase }, { on := 1, ground := Ground.phase }, { on := 2, ground := Ground.phase }, { on := 3, ground := Ground.phase }, { on := 4, ground := Ground.phase }, { on := 5, ground := Ground.phase }, { on := 6, ground := Ground.phase }, { on := 7, ground := Ground.phase }], guard := none } : Oper)) (v := ?_) rfl (by kernel_rfl) (by kernel_rfl) (by kernel_rfl) (fun _ _ _ h => h) (Or.inl ⟨by rfl, ?_⟩) hHeld ?_
          rotate_left
          · (intro w hS; go_simp; try with_reducible rfl)
          try simp only [Act.put, List.setIfInBounds_toArray, List.set_cons_zero, List.set_cons_succ]
          refine wpAnyH_done (by kernel_rfl) ?_ _
          have hsf := run_suf W12 a9 L.length c i _ rfl hi hcap
          have E12 := (d6 _ Z12).1.suf hcap hi
          obtain ⟨a10, ha10⟩ : ∃ a10, (if c = i then a9 else a9.map (·.add (i * 2))) = a10 := ⟨_, rfl⟩
          rw [ha10] at hsf E12
          clear ha10
          obtain ⟨a13, c13, W13, hap, row13, B13, gr13⟩ := run_app_e W12 W5.heap.size Z12.size a12 (i + 1) c12 _ row12 37 _ a10 (L.length - i) (c - i) (L.drop i) E12 (by omega)
          have Z13 := Z12.trans B13
          have HF : Hid (Below w.heap.size w W13) := (d6 _ Z13).2.2
          have HW : Hid (w.heap.size ≤ W5.heap.size) := (d6 _ (Below.refl _ _)).2.2.size
          have HLEN : Hid (i + 1 + (L.length - i) = L.length + 1) := by show _ = _; omega
          have HLST : Hid (L.take i ++ [(k, n)] ++ L.drop i = ins L (k, n)) := by show _ = _; rw [HI2.out]; simp
          clear row7 B7 gr7 row12 B12 gr12 E12 B13 gr13 Z0 ZA Z7 ZA7 Z12 Z13 hE d6 key6
          go_wp2_with (at_builtin; refine wpList_app hap _ _ rfl rfl rfl rfl rfl ?_)
          go_ret
          refine ⟨a13, c13, by rw [HLEN.out]; rfl, ?_, HF.out⟩
          rw [← HLST.out, ← HLEN.out]
          exact row13.mono HW.out
        · go_simp
          skip
          refine hK.out _ _ (by first|exact key6 _ ZA|exact key6 _ ZA7) (fun hHeld => ?_)
          clear hK K
          try simp only [Act.put, List.setIfInBounds_toArray, List.set_cons_zero, List.set_cons_succ]
          refine wpAnyH_ready (rs := [4]) (by kernel_rfl) (by simp) ?_
          refine AllReadyH.cons (o := ({ dst := some 27, op := Op.call { callee := Callee.builtin Builtin.append, args := #[Operand.tmp 23, Operand.tmp 26], argTypes := #[37, 37] }, type := 37, pos := _, after := #[{ on := 0, ground := Ground.data }, { on := 3, ground := Ground.data }], guard := none } : Oper)) rfl (fun K hK => ?_) AllReadyH.nil
          refine step_app_es (base := W5.heap.size) (n := 0) (A := []) (a1 := none) (c := 0) (B := L.take i) (by first|exact Z0.size|exact ZA.size) (es_nil _ _) (by first|exact hE _ Z0|exact hE _ ZA) (by omega) _ _ rfl rfl rfl rfl ?_
          intro a7 c7 W7 row7 B7 gr7
          simp only [Nat.zero_add, List.nil_append] at row7 ⊢
          have Z7 : Below W5.heap.size W5 W7 := by first|exact Z0.trans B7|exact ZA.trans B7
          have ZA7 := below_al Z7 (Nat.le_refl _) (.cells #[.int .i64 k, .int .i64 n] 60)
          refine hK.out _ _ (key6 _ Z7) (fun hHeld => ?_)
          clear hK K
          try simp only [Act.put, List.setIfInBounds_toArray, List.set_cons_zero, List.set_cons_succ]
          refine wpAnyH_ready (rs := [7]) (by kernel_rfl) (by simp) ?_
          refine AllReadyH.cons (o := ({ dst := some 30, op := Op.call { callee := Callee.builtin Builtin.append, args := #[Operand.tmp 27, Operand.tmp 29], argTypes := #[37, 37] }, type := 37, pos := _, after := #[{ on := 4, ground := Ground.data }, { on := 6, ground := Ground.data }, { on := 4, ground := Ground.chain }], guard := none } : Oper)) rfl (fun K hK => ?_) AllReadyH.nil
          refine step_app_es (base := W5.heap.size) (n := i) (A := L.take i) (B := [(k, n)]) (by first|exact Z7.size|exact ZA7.size) (by first|exact row7|exact row7.below (below_box _ _) (Nat.le_refl _)) (by first|exact isE_bk (bk_new _ _ _)|exact isE_bk (bk_grown0 (bk_new _ _ _) gr7)|exact isE_bk (bk_grown0 (BK.drew (bk_new _ _ _)) gr7)) (by omega) _ _ rfl rfl rfl rfl ?_
          intro a12 c12 W12 row12 B12 gr12
          have Z12 : Below W5.heap.size W5 W12 := by first|exact Z7.trans B12|exact ZA7.trans B12
          refine hK.out _ _ (key6 _ Z12) (fun hHeld => ?_)
          clear hK K
          try simp only [Act.put, List.setIfInBounds_toArray, List.set_cons_zero, List.set_cons_succ]
          refine wpAnyH_take (i := 8) (oi := ({ dst := some 6, op := Op.assign (Operand.tmp 30), type := 37, pos := _, after := #[{ on := 7, ground := Ground.data }, { on := 7, ground := Ground.chain }, { on := 0, ground := Ground.phase }, { on := 1, ground := Ground.phase }, { on := 2, ground := Ground.phase }, { on := 3, ground := Ground.phase }, { on := 4, ground := Ground.phase }, { on := 5, ground := Ground.phase }, { on := 6, ground := Ground.phase }, { on := 7, ground := Ground.phase }], guard := none } : Oper)) (v := ?_) rfl (by kernel_rfl) (by kernel_rfl) (by kernel_rfl) (fun _ _ _ h => h) (Or.inl ⟨by rfl, ?_⟩) hHeld ?_
          rotate_left
          · (intro w hS; go_simp; try with_reducible rfl)
          try simp only [Act.put, List.setIfInBounds_toArray, List.set_cons_zero, List.set_cons_succ]
          refine wpAnyH_done (by kernel_rfl) ?_ _
          have hsf := run_suf W12 a9 L.length c i _ rfl hi hcap
          have E12 := (d6 _ Z12).1.suf hcap hi
          obtain ⟨a10, ha10⟩ : ∃ a10, (if c = i then a9 else a9.map (·.add (i * 2))) = a10 := ⟨_, rfl⟩
          rw [ha10] at hsf E12
          clear ha10
          obtain ⟨a13, c13, W13, hap, row13, B13, gr13⟩ := run_app_e W12 W5.heap.size Z12.size a12 (i + 1) c12 _ row12 37 _ a10 (L.length - i) (c - i) (L.drop i) E12 (by omega)
          have Z13 := Z12.trans B13
          have HF : Hid (Below w.heap.size w W13) := (d6 _ Z13).2.2
          have HW : Hid (w.heap.size ≤ W5.heap.size) := (d6 _ (Below.refl _ _)).2.2.size
          have HLEN : Hid (i + 1 + (L.length - i) = L.length + 1) := by show _ = _; omega
          have HLST : Hid (L.take i ++ [(k, n)] ++ L.drop i = ins L (k, n)) := by show _ = _; rw [HI2.out]; simp
          clear row7 B7 gr7 row12 B12 gr12 E12 B13 gr13 Z0 ZA Z7 ZA7 Z12 Z13 hE d6 key6
          go_wp2_with (at_builtin; refine wpList_app hap _ _ rfl rfl rfl rfl rfl ?_)
          go_ret
          refine ⟨a13, c13, by rw [HLEN.out]; rfl, ?_, HF.out⟩
          rw [← HLST.out, ← HLEN.out]
          exact row13.mono HW.out
end Go.Proofs.Ytpljpndegadckaa
