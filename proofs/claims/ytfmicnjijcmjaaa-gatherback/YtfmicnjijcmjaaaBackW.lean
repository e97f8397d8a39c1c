/- Proved here: the walk of GatherBack. Conditions: as each theorem states them. -/
import Derived.Test.YtfmicnjijcmjaaaBackS
import Derived.Deep.LoopGhost
namespace Go.Proofs.Ytfmicnjijcmjaaa
set_option linter.unusedSimpArgs false
set_option linter.unusedVariables false
open Go.RowKit Go.Shelf
attribute [local go_sem] Oper.semAt_some

set_option maxHeartbeats 8000000 in
set_option maxRecDepth 100000 in
theorem back_in (a1 : Option Addr) (len cap : Nat) (wt : Int) (wt0 : 0 ≤ wt) (wt1 : wt ≤ 65535) (mk : UInt8) (w : World) (hL : IsL w.heap.size w a1 len) (hlc : len ≤ cap) (h12 : len ≤ 12) :
    CallsIn Fence.wide 3 Try.prog 4 #[.slice a1 len cap, .int .u16 wt, .int .u8 mk.toNat] w fun e w' => e = .returned (.bool true) ∧ Below w.heap.size w w' := by
  have d1 : decide (12 < (len : Int)) = false := by simp; omega
  refine callsIn_of_wp_marks Try.func4 rfl trivial ?_ rfl
  refine wpIn_wide.2 (wp_calm ?_)
  simp only [Try.ntmps4, List.size_toArray, List.length_cons, List.length_nil, Nat.reduceAdd, Nat.reduceSub, Array.replicate_succ, Array.replicate_zero, List.push_toArray, List.append_toArray, List.nil_append, List.cons_append]
  obtain ⟨M0, B0, z0⟩ := back_boxes w a1 len cap mk.toNat
  go_wp2_with fail
  generalize ((w.alloc (.cells #[.slice a1 len cap] 43)).alloc (.cells #[.int .u8 mk.toNat] 5)).alloc (.cells #[.bool false] 4) = W0 at *
  refine (awake_calls _).mono ?_
  rintro e w1 ⟨rfl, b1⟩
  have M1 := M0.below b1 (Nat.le_refl _)
  have B1 := B0.trans (b1.mono B0.size)
  have s1 := b1.size
  have c0 := M1.get (b := w.heap.size) (v := .slice a1 len cap) (t := 43) (by simp)
  clear b1 M0 B0
  go_wp2_with fail
  refine (gnew_calls (1 + wt) w1).mono ?_
  rintro e w3 ⟨rfl, g3, b3⟩
  have M3 := M1.below b3 (Nat.le_refl _)
  have B3 := B1.trans (b3.mono B1.size)
  have hr3 : w1.heap.size < w3.heap.size := g3.x.lt _ rfl
  have hs2 : w.heap.size + 3 ≤ w1.heap.size := by omega
  clear M1 b3 B1 s1 c0
  generalize w1.heap.size = r at *
  have A4 : Below w3.heap.size w3 ((w3.alloc (.cells #[.pointer (some ⟨r, 0, none⟩)] 24)).alloc (.cells #[.int .i64 0] 3)) := ((Below.refl _ w3).alloc (Nat.le_refl _) _).alloc (by simp) _
  have M7 := BX.cons (e := (w3.heap.size, .pointer (some ⟨r, 0, none⟩), 24)) ((bk_new w3 #[.pointer (some ⟨r, 0, none⟩)] 24).alloc (.cells #[.int .i64 0] 3)) (M3.below A4 (Nat.le_refl _))
  have kt7 := bk_new (w3.alloc (.cells #[.pointer (some ⟨r, 0, none⟩)] 24)) #[.int .i64 0] 3
  rw [World.size_alloc] at kt7
  have B7 := B3.trans (A4.mono B3.size)
  have g7 := g3.below A4 (Nat.le_refl _)
  have s4 : ((w3.alloc (.cells #[.pointer (some ⟨r, 0, none⟩)] 24)).alloc (.cells #[.int .i64 0] 3)).heap.size = w3.heap.size + 2 := by simp
  have c0 := M7.get (b := w.heap.size) (v := .slice a1 len cap) (t := 43) (by simp)
  clear M3 B3 g3 A4
  go_wp2
  generalize (w3.alloc (.cells #[.pointer (some ⟨r, 0, none⟩)] 24)).alloc (.cells #[.int .i64 0] 3) = w7 at *
  generalize w3.heap.size = xg at *
  have hxg : ∀ e ∈ ([(xg, .pointer (some ⟨r, 0, none⟩), 24), (w.heap.size, .slice a1 len cap, 43), (w.heap.size + 1, .int .u8 mk.toNat, 5), (w.heap.size + 1 + 1, .bool false, 4)] : List (Nat × Value × TypeId)), ¬ e.1 = r ∧ ¬ e.1 = xg + 1 := by
    simp only [List.mem_cons, List.not_mem_nil, or_false]
    rintro e (rfl | rfl | rfl | rfl) <;> (dsimp only; omega)
  have I7 : FI w7 (fun k => k = r) (fun k => k = xg + 1) r (Ga.mk0 (1 + wt)) w7 := FI.init g7 (fun k h h' => by omega)
  refine wp_loop_ghost_k (fun cnt act wr => ∃ (u9 u10 u11 u32 u33 u34 u35 u36 u37 u38 u39 u40 u41 u42 u43 u44 u45 u46 u90 u91 u92 u93 u94 : Value) (i : Nat) (Ds : List Nat) (S : Ga), act = { tmps := #[.slice a1 len cap, .int .u16 wt, .int .u8 (mk.toNat : Int), .pointer (some ⟨w.heap.size, 0, none⟩), undef, .pointer (some ⟨w.heap.size + 1, 0, none⟩), .pointer (some ⟨w.heap.size + 1 + 1, 0, none⟩), .pointer (some ⟨xg, 0, none⟩), .pointer (some ⟨xg + 1, 0, none⟩), u9, u10, u11, undef, undef, undef, undef, undef, .bool true, .bool false, .bool false, .slice a1 len cap, .int .i64 (len : Int), .bool false, .bool false, undef, .int .u16 wt, .int .i64 wt, .int .i64 (1 + wt), .pointer (some ⟨r, 0, none⟩), .slice a1 len cap, .int .i64 (len : Int), .int .i64 (i : Int), u32, u33, u34, u35, u36, u37, u38, u39, u40, u41, u42, u43, u44, u45, u46, undef, undef, undef, undef, undef, undef, undef, undef, undef, undef, undef, undef, undef, undef, undef, undef, undef, undef, undef, undef, undef, undef, undef, undef, undef, undef, undef, undef, undef, undef, undef, undef, undef, undef, undef, undef, undef, undef, undef, undef, undef, undef, undef, u90, u91, u92, u93, u94, undef, undef, undef, undef, undef, undef, undef, undef], defers := marks Ds } ∧ i ≤ len ∧ cnt = len - i ∧ FI w7 (fun k => k = r) (fun k => k = xg + 1) r S wr ∧ S.xs = [] ∧ S.k = false ∧ S.l = 0 ∧ BK wr (xg + 1) #[.int .i64 ((i : Int) * wt)] 3 ∧ Ds.Nodup ∧ (∀ D ∈ Ds, wr.heap[D]? = some (.deferred (some []))) ∧ (∀ D ∈ Ds, w7.heap.size ≤ D)) len ⟨_, _, _, _, _, _, _, _, _, _, _, _, _, _, _, _, _, _, _, _, _, _, _, 0, [], _, rfl, Nat.zero_le _, rfl, I7, rfl, rfl, rfl, by rw [show ((0 : Nat) : Int) * wt = 0 by simp]; exact kt7, List.nodup_nil, (fun D hD => by cases hD), (fun D hD => by cases hD)⟩ ?_
  clear I7 g7 kt7
  rintro gk act wr ⟨u9, u10, u11, u32, u33, u34, u35, u36, u37, u38, u39, u40, u41, u42, u43, u44, u45, u46, u90, u91, u92, u93, u94, i, Ds, S, rfl, hi, rfl, hF, hx, hk, hl, hT, hnd, hD, hDlo⟩
  intro J K hJ hK
  have hB : Below w.heap.size w wr := B7.trans (hF.bel (fun k (e : k = r) => by omega) (fun k (e : k = xg + 1) => by omega) B7.size)
  have hM := M7.fi hF (fun e he => hxg e he)
  have hsz := hF.size
  obtain ⟨tt, htt⟩ : ∃ tt : Int, (i : Int) * wt = tt := ⟨_, rfl⟩
  have tt0 : 0 ≤ tt := by rw [← htt]; exact Int.mul_nonneg (by omega) wt0
  have tt1 : tt ≤ 786420 := by
    rw [← htt]
    have h1 : (i : Int) * wt ≤ 12 * wt := Int.mul_le_mul_of_nonneg_right (by omega) wt0
    omega
  rw [htt] at hT
  have HTT : Hid ((((i + 1 : Nat) : Int)) * wt = tt + wt) := by show _ = _; rw [Int.natCast_add, Int.add_mul, htt]; omega
  clear htt
  obtain ⟨Fa, ga0, hEa, ka0⟩ := hF.ex
  have hFbi : ∀ k, Fa k → k < wr.heap.size := ga0.x.lt
  by_cases hlt : i < len
  · obtain ⟨b, off, ai, li, ci, xs, rfl, hbn, hcell, hI, hle⟩ := hL.at hlt
    have A1 : Below wr.heap.size wr (wr.alloc (.cells #[.int .i64 (i : Int)] 3)) := (Below.refl _ wr).alloc (Nat.le_refl _) _
    have hF1 := hF.below A1 (Nat.le_refl _)
    have hM1 := hM.below A1 (Nat.le_refl _)
    have hB1 := hB.trans (A1.mono hB.size)
    have hT1 := hT.below A1 hT.lt
    have ki := bk_new wr #[.int .i64 (i : Int)] 3
    have hD1 : ∀ D ∈ Ds, (wr.alloc (.cells #[.int .i64 (i : Int)] 3)).heap[D]? = some (.deferred (some [])) := fun D hD' => (A1.block D (Array.getElem?_eq_some_iff.1 (hD D hD')).1).trans (hD D hD')
    have q7 : decide ((i : Int) < (len : Int)) = true := by simp; omega
    clear hF hM hB hT hD
    go_wp2
    generalize wr.alloc (.cells #[.int .i64 (i : Int)] 3) = W1 at *
    generalize hbi : wr.heap.size = bi at *
    have HBI : Hid (wr.heap.size = bi) := hbi
    clear hbi
    have ga1 := ga0.below A1 (by have := HBI.out; omega)
    have ka1 := ka0.trans (Ft.of A1 (by have := HBI.out; omega))
    clear ga0 ka0 A1
    have e1 : W1.drew.cell? ⟨w.heap.size, 0, none⟩ = some (.slice (some ⟨b, off, none⟩) len cap) := hM1.get (b := w.heap.size) (v := .slice (some ⟨b, off, none⟩) len cap) (t := 43) (by simp)
    have e2 : W1.drew.cell? ⟨bi, 0, none⟩ = some (.int .i64 (i : Int)) := ki.cell 0 _ rfl
    have e3 : W1.drew.cell? ⟨b, off + i, none⟩ = some (.slice ai li ci) := (hB1.cell (p := ⟨b, off + i, none⟩) hbn).trans hcell
    have e4 : W1.drew.cell? ⟨w.heap.size + 1, 0, none⟩ = some (.int .u8 (mk.toNat : Int)) := hM1.get (b := w.heap.size + 1) (v := .int .u8 (mk.toNat : Int)) (t := 5) (by simp)
    by_cases hl0 : li = 0
    · subst hl0
      have rb1 := hM1.bk (b := w.heap.size + 1 + 1) (v := .bool false) (t := 4) (by simp)
      have rbd : BK W1.drew (w.heap.size + 1 + 1) #[.bool false] 4 := rb1
      have rs := rbd.cell 0 _ rfl
      have rf := rbd.frozen 0
      have rb2 : BK (W1.drew.setCell ⟨w.heap.size + 1 + 1, 0, none⟩ (.bool true)) (w.heap.size + 1 + 1) #[.bool true] 4 := rbd.set 0 (.bool true)
      have HB : Hid (Below w.heap.size w (W1.drew.setCell ⟨w.heap.size + 1 + 1, 0, none⟩ (.bool true))) := hB1.drew.setCell (p := ⟨w.heap.size + 1 + 1, 0, none⟩) (by show w.heap.size ≤ w.heap.size + 1 + 1; omega) _
      have HD : Hid (∀ D ∈ Ds, (W1.drew.setCell ⟨w.heap.size + 1 + 1, 0, none⟩ (.bool true)).heap[D]? = some (.deferred (some []))) := fun D hD => (Below.heap_setCell _ _ _ _ (by show D ≠ w.heap.size + 1 + 1; have := hDlo D hD; omega)).trans (hD1 D hD)
      have HN : Hid (Ds.Nodup ∧ ∀ D ∈ Ds, w.heap.size ≤ D) := ⟨hnd, fun D hD => by have := hDlo D hD; omega⟩
      clear hD1 hDlo hnd hF1 hM1 hB1 hT1 hJ hK
      refine wp_region_held_drew (S := (fun w' => w'.cell? ⟨w.heap.size, 0, none⟩ = some (.slice (some ⟨b, off, none⟩) len cap) ∧ w'.cell? ⟨bi, 0, none⟩ = some (.int .i64 (i : Int)) ∧ w'.cell? ⟨b, off + i, none⟩ = some (.slice ai 0 ci) ∧ w'.cell? ⟨w.heap.size + 1, 0, none⟩ = some (.int .u8 (mk.toNat : Int)))) (by kernel_rfl) ⟨e1, e2, e3, e4⟩ (fun hHeld => ?_)
      refine wpAnyH_take (i := 0) (oi := ({ dst := some 35, op := Op.load 43 (Operand.tmp 3), type := 43, pos := _, after := #[], guard := none } : Oper)) (v := ?_) rfl (by kernel_rfl) (by kernel_rfl) (by kernel_rfl) (fun _ _ _ h => h) (Or.inl ⟨by rfl, ?_⟩) hHeld ?_
      rotate_left
      · (intro w hS; go_simp; try with_reducible rfl)
      try simp only [Act.put, List.setIfInBounds_toArray, List.set_cons_zero, List.set_cons_succ]
      refine wpAnyH_take (i := 1) (oi := ({ dst := some 36, op := Op.load 3 (Operand.tmp 9), type := 3, pos := _, after := #[], guard := none } : Oper)) (v := ?_) rfl (by kernel_rfl) (by kernel_rfl) (by kernel_rfl) (fun _ _ _ h => h) (Or.inl ⟨by rfl, ?_⟩) hHeld ?_
      rotate_left
      · (intro w hS; go_simp; try with_reducible rfl)
      try simp only [Act.put, List.setIfInBounds_toArray, List.set_cons_zero, List.set_cons_succ]
      refine wpAnyH_take (i := 2) (oi := ({ dst := some 37, op := Op.indexAddr 43 (Operand.tmp 35) (Operand.tmp 36), type := 0, pos := _, after := #[{ on := 0, ground := Ground.data }, { on := 1, ground := Ground.data }], guard := none } : Oper)) (v := ?_) rfl (by kernel_rfl) (by kernel_rfl) (by kernel_rfl) (fun _ _ _ h => h) (Or.inl ⟨by rfl, ?_⟩) hHeld ?_
      rotate_left
      · (intro w hS; go_simp; try with_reducible rfl)
      try simp only [Act.put, List.setIfInBounds_toArray, List.set_cons_zero, List.set_cons_succ]
      refine wpAnyH_take (i := 3) (oi := ({ dst := some 38, op := Op.load 32 (Operand.tmp 37), type := 32, pos := _, after := #[{ on := 2, ground := Ground.data }], guard := none } : Oper)) (v := ?_) rfl (by kernel_rfl) (by kernel_rfl) (by kernel_rfl) (fun _ _ _ h => h) (Or.inl ⟨by rfl, ?_⟩) hHeld ?_
      rotate_left
      · (intro w hS; go_simp; try with_reducible rfl)
      try simp only [Act.put, List.setIfInBounds_toArray, List.set_cons_zero, List.set_cons_succ]
      refine wpAnyH_take (i := 4) (oi := ({ dst := some 39, op := Op.load 5 (Operand.tmp 5), type := 5, pos := _, after := #[], guard := none } : Oper)) (v := ?_) rfl (by kernel_rfl) (by kernel_rfl) (by kernel_rfl) (fun _ _ _ h => h) (Or.inl ⟨by rfl, ?_⟩) hHeld ?_
      rotate_left
      · (intro w hS; go_simp; try with_reducible rfl)
      try simp only [Act.put, List.setIfInBounds_toArray, List.set_cons_zero, List.set_cons_succ]
      refine wpAnyH_ready (rs := [5]) (by kernel_rfl) (by simp) ?_
      refine AllReadyH.cons (o := ({ dst := some 40, op := Op.call { callee := Callee.value (Operand.func 20), args := #[Operand.tmp 38, Operand.tmp 39], argTypes := #[32, 5] }, type := 45, pos := _, after := #[{ on := 3, ground := Ground.data }, { on := 4, ground := Ground.data }], guard := none } : Oper)) rfl (fun K hK => ?_) AllReadyH.nil
      refine step_call (pack_none 0 ci ai (mk.toNat : Int) rfl _) (enters_of Try.func20 (by kernel_rfl) rfl) _ _ rfl rfl rfl ?_
      rintro e w8 ⟨rfl, e8⟩
      rw [e8]
      clear e8
      refine ⟨_, rfl, hK.out _ _ ⟨e1, e2, e3, e4⟩ (fun hHeld => ?_)⟩
      clear hK K
      try simp only [Act.put, List.setIfInBounds_toArray, List.set_cons_zero, List.set_cons_succ]
      refine wpAnyH_take (i := 6) (oi := ({ dst := some 34, op := Op.move (Operand.tmp 40), type := 45, pos := _, after := #[{ on := 5, ground := Ground.data }], guard := none } : Oper)) (v := ?_) rfl (by kernel_rfl) (by kernel_rfl) (by kernel_rfl) (fun _ _ _ h => h) (Or.inl ⟨by rfl, ?_⟩) hHeld ?_
      rotate_left
      · (intro w hS; go_simp; try with_reducible rfl)
      try simp only [Act.put, List.setIfInBounds_toArray, List.set_cons_zero, List.set_cons_succ]
      refine wpAnyH_take (i := 7) (oi := ({ dst := some 41, op := Op.extract (Operand.tmp 34) 0, type := 32, pos := _, after := #[{ on := 6, ground := Ground.data }], guard := none } : Oper)) (v := ?_) rfl (by kernel_rfl) (by kernel_rfl) (by kernel_rfl) (fun _ _ _ h => h) (Or.inl ⟨by rfl, ?_⟩) hHeld ?_
      rotate_left
      · (intro w hS; go_simp; try with_reducible rfl)
      try simp only [Act.put, List.setIfInBounds_toArray, List.set_cons_zero, List.set_cons_succ]
      refine wpAnyH_take (i := 8) (oi := ({ dst := some 42, op := Op.extract (Operand.tmp 34) 1, type := 33, pos := _, after := #[{ on := 6, ground := Ground.data }, { on := 9, ground := Ground.gcOnly Departure.lateStores }], guard := none } : Oper)) (v := ?_) rfl (by kernel_rfl) (by kernel_rfl) (by kernel_rfl) (fun _ _ _ h => h) (Or.inl ⟨by rfl, ?_⟩) hHeld ?_
      rotate_left
      · (intro w hS; go_simp; try with_reducible rfl)
      try simp only [Act.put, List.setIfInBounds_toArray, List.set_cons_zero, List.set_cons_succ]
      refine wpAnyH_take (i := 9) (oi := ({ dst := some 10, op := Op.assign (Operand.tmp 41), type := 32, pos := _, after := #[{ on := 7, ground := Ground.data }, { on := 5, ground := Ground.chain }, { on := 0, ground := Ground.phase }, { on := 1, ground := Ground.phase }, { on := 2, ground := Ground.phase }, { on := 3, ground := Ground.phase }, { on := 4, ground := Ground.phase }, { on := 5, ground := Ground.phase }, { on := 6, ground := Ground.phase }, { on := 7, ground := Ground.phase }, { on := 8, ground := Ground.textOnly Departure.lateStores }], guard := none } : Oper)) (v := ?_) rfl (by kernel_rfl) (by kernel_rfl) (by kernel_rfl) (fun _ _ _ h => h) (Or.inl ⟨by rfl, ?_⟩) hHeld ?_
      rotate_left
      · (intro w hS; go_simp; try with_reducible rfl)
      try simp only [Act.put, List.setIfInBounds_toArray, List.set_cons_zero, List.set_cons_succ]
      refine wpAnyH_take (i := 10) (oi := ({ dst := some 11, op := Op.assign (Operand.tmp 42), type := 33, pos := _, after := #[{ on := 8, ground := Ground.data }, { on := 9, ground := Ground.chain }, { on := 0, ground := Ground.phase }, { on := 1, ground := Ground.phase }, { on := 2, ground := Ground.phase }, { on := 3, ground := Ground.phase }, { on := 4, ground := Ground.phase }, { on := 5, ground := Ground.phase }, { on := 6, ground := Ground.phase }, { on := 7, ground := Ground.phase }, { on := 8, ground := Ground.phase }, { on := 9, ground := Ground.phase }], guard := none } : Oper)) (v := ?_) rfl (by kernel_rfl) (by kernel_rfl) (by kernel_rfl) (fun _ _ _ h => h) (Or.inl ⟨by rfl, ?_⟩) hHeld ?_
      rotate_left
      · (intro w hS; go_simp; try with_reducible rfl)
      try simp only [Act.put, List.setIfInBounds_toArray, List.set_cons_zero, List.set_cons_succ]
      refine wpAnyH_done (by kernel_rfl) ?_ _
      skip
      go_wp2
      refine fin_marks 3 _ Ds _ w w.heap.size (w.heap.size + 1 + 1) ?_ HN.out.1 HD.out HN.out.2 rb2 HB.out
      intro W' hb'
      have c3 := hb'.cell 0 _ rfl
      simp [results, Try.results4, go_sem, c3]
    · by_cases hl1 : 1000 < li
      · have rb1 := hM1.bk (b := w.heap.size + 1 + 1) (v := .bool false) (t := 4) (by simp)
        have rbd : BK W1.drew (w.heap.size + 1 + 1) #[.bool false] 4 := rb1
        have rs := rbd.cell 0 _ rfl
        have rf := rbd.frozen 0
        have rb2 : BK (W1.drew.setCell ⟨w.heap.size + 1 + 1, 0, none⟩ (.bool true)) (w.heap.size + 1 + 1) #[.bool true] 4 := rbd.set 0 (.bool true)
        have HB : Hid (Below w.heap.size w (W1.drew.setCell ⟨w.heap.size + 1 + 1, 0, none⟩ (.bool true))) := hB1.drew.setCell (p := ⟨w.heap.size + 1 + 1, 0, none⟩) (by show w.heap.size ≤ w.heap.size + 1 + 1; omega) _
        have HD : Hid (∀ D ∈ Ds, (W1.drew.setCell ⟨w.heap.size + 1 + 1, 0, none⟩ (.bool true)).heap[D]? = some (.deferred (some []))) := fun D hD => (Below.heap_setCell _ _ _ _ (by show D ≠ w.heap.size + 1 + 1; have := hDlo D hD; omega)).trans (hD1 D hD)
        have HN : Hid (Ds.Nodup ∧ ∀ D ∈ Ds, w.heap.size ≤ D) := ⟨hnd, fun D hD => by have := hDlo D hD; omega⟩
        clear hD1 hDlo hnd hF1 hM1 hB1 hT1 hJ hK
        refine wp_region_held_drew (S := (fun w' => w'.cell? ⟨w.heap.size, 0, none⟩ = some (.slice (some ⟨b, off, none⟩) len cap) ∧ w'.cell? ⟨bi, 0, none⟩ = some (.int .i64 (i : Int)) ∧ w'.cell? ⟨b, off + i, none⟩ = some (.slice ai li ci) ∧ w'.cell? ⟨w.heap.size + 1, 0, none⟩ = some (.int .u8 (mk.toNat : Int)))) (by kernel_rfl) ⟨e1, e2, e3, e4⟩ (fun hHeld => ?_)
        refine wpAnyH_take (i := 0) (oi := ({ dst := some 35, op := Op.load 43 (Operand.tmp 3), type := 43, pos := _, after := #[], guard := none } : Oper)) (v := ?_) rfl (by kernel_rfl) (by kernel_rfl) (by kernel_rfl) (fun _ _ _ h => h) (Or.inl ⟨by rfl, ?_⟩) hHeld ?_
        rotate_left
        · (intro w hS; go_simp; try with_reducible rfl)
        try simp only [Act.put, List.setIfInBounds_toArray, List.set_cons_zero, List.set_cons_succ]
        refine wpAnyH_take (i := 1) (oi := ({ dst := some 36, op := Op.load 3 (Operand.tmp 9), type := 3, pos := _, after := #[], guard := none } : Oper)) (v := ?_) rfl (by kernel_rfl) (by kernel_rfl) (by kernel_rfl) (fun _ _ _ h => h) (Or.inl ⟨by rfl, ?_⟩) hHeld ?_
        rotate_left
        · (intro w hS; go_simp; try with_reducible rfl)
        try simp only [Act.put, List.setIfInBounds_toArray, List.set_cons_zero, List.set_cons_succ]
        refine wpAnyH_take (i := 2) (oi := ({ dst := some 37, op := Op.indexAddr 43 (Operand.tmp 35) (Operand.tmp 36), type := 0, pos := _, after := #[{ on := 0, ground := Ground.data }, { on := 1, ground := Ground.data }], guard := none } : Oper)) (v := ?_) rfl (by kernel_rfl) (by kernel_rfl) (by kernel_rfl) (fun _ _ _ h => h) (Or.inl ⟨by rfl, ?_⟩) hHeld ?_
        rotate_left
        · (intro w hS; go_simp; try with_reducible rfl)
        try simp only [Act.put, List.setIfInBounds_toArray, List.set_cons_zero, List.set_cons_succ]
        refine wpAnyH_take (i := 3) (oi := ({ dst := some 38, op := Op.load 32 (Operand.tmp 37), type := 32, pos := _, after := #[{ on := 2, ground := Ground.data }], guard := none } : Oper)) (v := ?_) rfl (by kernel_rfl) (by kernel_rfl) (by kernel_rfl) (fun _ _ _ h => h) (Or.inl ⟨by rfl, ?_⟩) hHeld ?_
        rotate_left
        · (intro w hS; go_simp; try with_reducible rfl)
        try simp only [Act.put, List.setIfInBounds_toArray, List.set_cons_zero, List.set_cons_succ]
        refine wpAnyH_take (i := 4) (oi := ({ dst := some 39, op := Op.load 5 (Operand.tmp 5), type := 5, pos := _, after := #[], guard := none } : Oper)) (v := ?_) rfl (by kernel_rfl) (by kernel_rfl) (by kernel_rfl) (fun _ _ _ h => h) (Or.inl ⟨by rfl, ?_⟩) hHeld ?_
        rotate_left
        · (intro w hS; go_simp; try with_reducible rfl)
        try simp only [Act.put, List.setIfInBounds_toArray, List.set_cons_zero, List.set_cons_succ]
        refine wpAnyH_ready (rs := [5]) (by kernel_rfl) (by simp) ?_
        refine AllReadyH.cons (o := ({ dst := some 40, op := Op.call { callee := Callee.value (Operand.func 20), args := #[Operand.tmp 38, Operand.tmp 39], argTypes := #[32, 5] }, type := 45, pos := _, after := #[{ on := 3, ground := Ground.data }, { on := 4, ground := Ground.data }], guard := none } : Oper)) rfl (fun K hK => ?_) AllReadyH.nil
        refine step_call (pack_long li ci ai (mk.toNat : Int) hl1 _) (enters_of Try.func20 (by kernel_rfl) rfl) _ _ rfl rfl rfl ?_
        rintro e w8 ⟨rfl, e8⟩
        rw [e8]
        clear e8
        refine ⟨_, rfl, hK.out _ _ ⟨e1, e2, e3, e4⟩ (fun hHeld => ?_)⟩
        clear hK K
        try simp only [Act.put, List.setIfInBounds_toArray, List.set_cons_zero, List.set_cons_succ]
        refine wpAnyH_take (i := 6) (oi := ({ dst := some 34, op := Op.move (Operand.tmp 40), type := 45, pos := _, after := #[{ on := 5, ground := Ground.data }], guard := none } : Oper)) (v := ?_) rfl (by kernel_rfl) (by kernel_rfl) (by kernel_rfl) (fun _ _ _ h => h) (Or.inl ⟨by rfl, ?_⟩) hHeld ?_
        rotate_left
        · (intro w hS; go_simp; try with_reducible rfl)
        try simp only [Act.put, List.setIfInBounds_toArray, List.set_cons_zero, List.set_cons_succ]
        refine wpAnyH_take (i := 7) (oi := ({ dst := some 41, op := Op.extract (Operand.tmp 34) 0, type := 32, pos := _, after := #[{ on := 6, ground := Ground.data }], guard := none } : Oper)) (v := ?_) rfl (by kernel_rfl) (by kernel_rfl) (by kernel_rfl) (fun _ _ _ h => h) (Or.inl ⟨by rfl, ?_⟩) hHeld ?_
        rotate_left
        · (intro w hS; go_simp; try with_reducible rfl)
        try simp only [Act.put, List.setIfInBounds_toArray, List.set_cons_zero, List.set_cons_succ]
        refine wpAnyH_take (i := 8) (oi := ({ dst := some 42, op := Op.extract (Operand.tmp 34) 1, type := 33, pos := _, after := #[{ on := 6, ground := Ground.data }, { on := 9, ground := Ground.gcOnly Departure.lateStores }], guard := none } : Oper)) (v := ?_) rfl (by kernel_rfl) (by kernel_rfl) (by kernel_rfl) (fun _ _ _ h => h) (Or.inl ⟨by rfl, ?_⟩) hHeld ?_
        rotate_left
        · (intro w hS; go_simp; try with_reducible rfl)
        try simp only [Act.put, List.setIfInBounds_toArray, List.set_cons_zero, List.set_cons_succ]
        refine wpAnyH_take (i := 9) (oi := ({ dst := some 10, op := Op.assign (Operand.tmp 41), type := 32, pos := _, after := #[{ on := 7, ground := Ground.data }, { on := 5, ground := Ground.chain }, { on := 0, ground := Ground.phase }, { on := 1, ground := Ground.phase }, { on := 2, ground := Ground.phase }, { on := 3, ground := Ground.phase }, { on := 4, ground := Ground.phase }, { on := 5, ground := Ground.phase }, { on := 6, ground := Ground.phase }, { on := 7, ground := Ground.phase }, { on := 8, ground := Ground.textOnly Departure.lateStores }], guard := none } : Oper)) (v := ?_) rfl (by kernel_rfl) (by kernel_rfl) (by kernel_rfl) (fun _ _ _ h => h) (Or.inl ⟨by rfl, ?_⟩) hHeld ?_
        rotate_left
        · (intro w hS; go_simp; try with_reducible rfl)
        try simp only [Act.put, List.setIfInBounds_toArray, List.set_cons_zero, List.set_cons_succ]
        refine wpAnyH_take (i := 10) (oi := ({ dst := some 11, op := Op.assign (Operand.tmp 42), type := 33, pos := _, after := #[{ on := 8, ground := Ground.data }, { on := 9, ground := Ground.chain }, { on := 0, ground := Ground.phase }, { on := 1, ground := Ground.phase }, { on := 2, ground := Ground.phase }, { on := 3, ground := Ground.phase }, { on := 4, ground := Ground.phase }, { on := 5, ground := Ground.phase }, { on := 6, ground := Ground.phase }, { on := 7, ground := Ground.phase }, { on := 8, ground := Ground.phase }, { on := 9, ground := Ground.phase }], guard := none } : Oper)) (v := ?_) rfl (by kernel_rfl) (by kernel_rfl) (by kernel_rfl) (fun _ _ _ h => h) (Or.inl ⟨by rfl, ?_⟩) hHeld ?_
        rotate_left
        · (intro w hS; go_simp; try with_reducible rfl)
        try simp only [Act.put, List.setIfInBounds_toArray, List.set_cons_zero, List.set_cons_succ]
        refine wpAnyH_done (by kernel_rfl) ?_ _
        skip
        go_wp2
        refine fin_marks 3 _ Ds _ w w.heap.size (w.heap.size + 1 + 1) ?_ HN.out.1 HD.out HN.out.2 rb2 HB.out
        intro W' hb'
        have c3 := hb'.cell 0 _ rfl
        simp [results, Try.results4, go_sem, c3]
      · have HP := pack_calls ai li ci xs mk W1.drew (hI.below hB1.drew (Nat.le_refl _)) hB1.drew.size (by intro e; rw [e] at hI; rcases hI.2 with h | ⟨_, _, h, _⟩; rw [h] at hI; have := hI.1; simp at this; omega; cases h) (by omega) (by omega)
        have LB : Hid (li = xs.length) := hI.1
        have hMq1 := many_eq (n := li) (by omega)
        obtain ⟨Mq, hMq⟩ : ∃ Mq, manyN li = Mq := ⟨_, rfl⟩
        rw [hMq] at hMq1 HP
        have m3 : 1 ≤ Mq := by omega
        have m4 : Mq ≤ 21 := by omega
        have HUB : Hid (unpackN (frameN xs mk) = (xs, mk, 0)) := unpack_frame mk (by have := LB.out; omega) (by have := LB.out; omega)
        have qL := frame_len (t := xs) mk (by have := LB.out; omega)
        rw [← LB.out, hMq] at qL
        have hxl : xs.length ≤ 1000 := by have := LB.out; omega
        clear hMq1 hMq
        refine wp_region_held_drew (S := (fun w' => w'.cell? ⟨w.heap.size, 0, none⟩ = some (.slice (some ⟨b, off, none⟩) len cap) ∧ w'.cell? ⟨bi, 0, none⟩ = some (.int .i64 (i : Int)) ∧ w'.cell? ⟨b, off + i, none⟩ = some (.slice ai li ci) ∧ w'.cell? ⟨w.heap.size + 1, 0, none⟩ = some (.int .u8 (mk.toNat : Int)))) (by kernel_rfl) ⟨e1, e2, e3, e4⟩ (fun hHeld => ?_)
        refine wpAnyH_take (i := 0) (oi := ({ dst := some 35, op := Op.load 43 (Operand.tmp 3), type := 43, pos := _, after := #[], guard := none } : Oper)) (v := ?_) rfl (by kernel_rfl) (by kernel_rfl) (by kernel_rfl) (fun _ _ _ h => h) (Or.inl ⟨by rfl, ?_⟩) hHeld ?_
        rotate_left
        · (intro w hS; go_simp; try with_reducible rfl)
        try simp only [Act.put, List.setIfInBounds_toArray, List.set_cons_zero, List.set_cons_succ]
        refine wpAnyH_take (i := 1) (oi := ({ dst := some 36, op := Op.load 3 (Operand.tmp 9), type := 3, pos := _, after := #[], guard := none } : Oper)) (v := ?_) rfl (by kernel_rfl) (by kernel_rfl) (by kernel_rfl) (fun _ _ _ h => h) (Or.inl ⟨by rfl, ?_⟩) hHeld ?_
        rotate_left
        · (intro w hS; go_simp; try with_reducible rfl)
        try simp only [Act.put, List.setIfInBounds_toArray, List.set_cons_zero, List.set_cons_succ]
        refine wpAnyH_take (i := 2) (oi := ({ dst := some 37, op := Op.indexAddr 43 (Operand.tmp 35) (Operand.tmp 36), type := 0, pos := _, after := #[{ on := 0, ground := Ground.data }, { on := 1, ground := Ground.data }], guard := none } : Oper)) (v := ?_) rfl (by kernel_rfl) (by kernel_rfl) (by kernel_rfl) (fun _ _ _ h => h) (Or.inl ⟨by rfl, ?_⟩) hHeld ?_
        rotate_left
        · (intro w hS; go_simp; try with_reducible rfl)
        try simp only [Act.put, List.setIfInBounds_toArray, List.set_cons_zero, List.set_cons_succ]
        refine wpAnyH_take (i := 3) (oi := ({ dst := some 38, op := Op.load 32 (Operand.tmp 37), type := 32, pos := _, after := #[{ on := 2, ground := Ground.data }], guard := none } : Oper)) (v := ?_) rfl (by kernel_rfl) (by kernel_rfl) (by kernel_rfl) (fun _ _ _ h => h) (Or.inl ⟨by rfl, ?_⟩) hHeld ?_
        rotate_left
        · (intro w hS; go_simp; try with_reducible rfl)
        try simp only [Act.put, List.setIfInBounds_toArray, List.set_cons_zero, List.set_cons_succ]
        refine wpAnyH_take (i := 4) (oi := ({ dst := some 39, op := Op.load 5 (Operand.tmp 5), type := 5, pos := _, after := #[], guard := none } : Oper)) (v := ?_) rfl (by kernel_rfl) (by kernel_rfl) (by kernel_rfl) (fun _ _ _ h => h) (Or.inl ⟨by rfl, ?_⟩) hHeld ?_
        rotate_left
        · (intro w hS; go_simp; try with_reducible rfl)
        try simp only [Act.put, List.setIfInBounds_toArray, List.set_cons_zero, List.set_cons_succ]
        refine wpAnyH_ready (rs := [5]) (by kernel_rfl) (by simp) ?_
        refine AllReadyH.cons (o := ({ dst := some 40, op := Op.call { callee := Callee.value (Operand.func 20), args := #[Operand.tmp 38, Operand.tmp 39], argTypes := #[32, 5] }, type := 45, pos := _, after := #[{ on := 3, ground := Ground.data }, { on := 4, ground := Ground.data }], guard := none } : Oper)) rfl (fun K hK => ?_) AllReadyH.nil
        refine step_call (HP) (enters_of Try.func20 (by kernel_rfl) rfl) _ _ rfl rfl rfl ?_
        rintro e W2 ⟨aq, cq, rfl, q2, b2⟩
        skip
        refine ⟨_, rfl, hK.out _ _ ⟨(b2.cell (p := ⟨w.heap.size, 0, none⟩) (World.block_lt_of_cell? _ _ e1)).trans e1, (b2.cell (p := ⟨bi, 0, none⟩) (World.block_lt_of_cell? _ _ e2)).trans e2, (b2.cell (p := ⟨b, off + i, none⟩) (World.block_lt_of_cell? _ _ e3)).trans e3, (b2.cell (p := ⟨w.heap.size + 1, 0, none⟩) (World.block_lt_of_cell? _ _ e4)).trans e4⟩ (fun hHeld => ?_)⟩
        clear hK K
        try simp only [Act.put, List.setIfInBounds_toArray, List.set_cons_zero, List.set_cons_succ]
        refine wpAnyH_take (i := 6) (oi := ({ dst := some 34, op := Op.move (Operand.tmp 40), type := 45, pos := _, after := #[{ on := 5, ground := Ground.data }], guard := none } : Oper)) (v := ?_) rfl (by kernel_rfl) (by kernel_rfl) (by kernel_rfl) (fun _ _ _ h => h) (Or.inl ⟨by rfl, ?_⟩) hHeld ?_
        rotate_left
        · (intro w hS; go_simp; try with_reducible rfl)
        try simp only [Act.put, List.setIfInBounds_toArray, List.set_cons_zero, List.set_cons_succ]
        refine wpAnyH_take (i := 7) (oi := ({ dst := some 41, op := Op.extract (Operand.tmp 34) 0, type := 32, pos := _, after := #[{ on := 6, ground := Ground.data }], guard := none } : Oper)) (v := ?_) rfl (by kernel_rfl) (by kernel_rfl) (by kernel_rfl) (fun _ _ _ h => h) (Or.inl ⟨by rfl, ?_⟩) hHeld ?_
        rotate_left
        · (intro w hS; go_simp; try with_reducible rfl)
        try simp only [Act.put, List.setIfInBounds_toArray, List.set_cons_zero, List.set_cons_succ]
        refine wpAnyH_take (i := 8) (oi := ({ dst := some 42, op := Op.extract (Operand.tmp 34) 1, type := 33, pos := _, after := #[{ on := 6, ground := Ground.data }, { on := 9, ground := Ground.gcOnly Departure.lateStores }], guard := none } : Oper)) (v := ?_) rfl (by kernel_rfl) (by kernel_rfl) (by kernel_rfl) (fun _ _ _ h => h) (Or.inl ⟨by rfl, ?_⟩) hHeld ?_
        rotate_left
        · (intro w hS; go_simp; try with_reducible rfl)
        try simp only [Act.put, List.setIfInBounds_toArray, List.set_cons_zero, List.set_cons_succ]
        refine wpAnyH_take (i := 9) (oi := ({ dst := some 10, op := Op.assign (Operand.tmp 41), type := 32, pos := _, after := #[{ on := 7, ground := Ground.data }, { on := 5, ground := Ground.chain }, { on := 0, ground := Ground.phase }, { on := 1, ground := Ground.phase }, { on := 2, ground := Ground.phase }, { on := 3, ground := Ground.phase }, { on := 4, ground := Ground.phase }, { on := 5, ground := Ground.phase }, { on := 6, ground := Ground.phase }, { on := 7, ground := Ground.phase }, { on := 8, ground := Ground.textOnly Departure.lateStores }], guard := none } : Oper)) (v := ?_) rfl (by kernel_rfl) (by kernel_rfl) (by kernel_rfl) (fun _ _ _ h => h) (Or.inl ⟨by rfl, ?_⟩) hHeld ?_
        rotate_left
        · (intro w hS; go_simp; try with_reducible rfl)
        try simp only [Act.put, List.setIfInBounds_toArray, List.set_cons_zero, List.set_cons_succ]
        refine wpAnyH_take (i := 10) (oi := ({ dst := some 11, op := Op.assign (Operand.tmp 42), type := 33, pos := _, after := #[{ on := 8, ground := Ground.data }, { on := 9, ground := Ground.chain }, { on := 0, ground := Ground.phase }, { on := 1, ground := Ground.phase }, { on := 2, ground := Ground.phase }, { on := 3, ground := Ground.phase }, { on := 4, ground := Ground.phase }, { on := 5, ground := Ground.phase }, { on := 6, ground := Ground.phase }, { on := 7, ground := Ground.phase }, { on := 8, ground := Ground.phase }, { on := 9, ground := Ground.phase }], guard := none } : Oper)) (v := ?_) rfl (by kernel_rfl) (by kernel_rfl) (by kernel_rfl) (fun _ _ _ h => h) (Or.inl ⟨by rfl, ?_⟩) hHeld ?_
        rotate_left
        · (intro w hS; go_simp; try with_reducible rfl)
        try simp only [Act.put, List.setIfInBounds_toArray, List.set_cons_zero, List.set_cons_succ]
        refine wpAnyH_done (by kernel_rfl) ?_ _
        skip
        have b12 : Below W1.heap.size W1 W2 := (Below.refl _ W1).drew.trans b2
        have hF2 := hF1.below b12 (Nat.le_refl _)
        have hM2 := hM1.below b12 (Nat.le_refl _)
        have hB2 := hB1.trans (b12.mono hB1.size)
        have hT2 := hT1.below b12 hT1.lt
        have ki2 := ki.below b12 ki.lt
        have hD2 : ∀ D ∈ Ds, W2.heap[D]? = some (.deferred (some [])) := fun D hD => (b12.block D (Array.getElem?_eq_some_iff.1 (hD1 D hD)).1).trans (hD1 D hD)
        clear hF1 hM1 hB1 hT1 ki hD1 e1 e2 e3 e4 HP b2
        go_wp2_with fail
        have qI := q2.isB
        refine (cells_calls aq (48 * Mq) cq _ W2 qI.1 (Nat.le_refl _) qI.2.1 (by omega)).mono ?_
        rintro e wA ⟨Bp2, gq2, a9, c9, rfl, hBp2, hc9, hg3, hg4, hG2, bA⟩
        have hMA := hM2.below bA (Nat.le_refl _)
        have hBA := hB2.trans (bA.mono hB2.size)
        have hTA := hT2.below bA hT2.lt
        have kiA := ki2.below bA ki2.lt
        have ki2lt := ki2.lt
        have hDA : ∀ D ∈ Ds, wA.heap[D]? = some (.deferred (some [])) := fun D hD => (bA.block D (Array.getElem?_eq_some_iff.1 (hD2 D hD)).1).trans (hD2 D hD)
        have sA := bA.size
        clear hF2 hM2 hB2 hT2 ki2 hD2 q2 qI
        have bWA := b12.trans (bA.mono b12.size)
        have ga := ga1.below bWA (Nat.le_refl _)
        have ka := ka1.trans (Ft.of bWA (Nat.le_refl _))
        clear bA b12 ga1 ka1 bWA
        obtain ⟨F9, g9, hs9, hc9c⟩ := ga.shrink
        have k9 : Ft (fun k => k = r ∨ k = xg + 1) (fun k => F9 k ∨ k = xg + 1) w7 wA := ka.sub (F1 := fun k => F9 k ∨ k = xg + 1) (fun k hk => hk.elim (fun e => .inl (hs9 k e)) .inr)
        have hF9 : ∀ k, F9 k → k = r ∨ w7.heap.size ≤ k := fun k hk => by
          rcases k9.new k (.inl hk) with (e | e) | e
          · exact .inl e
          · exact absurd (hs9 k hk) (hEa k e)
          · exact .inr e
        have hF9lt : ∀ k, F9 k → k < bi := fun k hk => hFbi k (hs9 k hk)
        have hE9 : ¬ F9 (xg + 1) := fun h => hEa _ rfl (hs9 _ h)
        have hbiA : bi < wA.heap.size := kiA.lt
        have hbi7 : bi < W2.heap.size := ki2lt
        clear ka ga
        go_wp2
        rename_i KK2 hKK2
        refine (wpIn_wide (n := 3)).1 ?_
        have hnb : ∀ e ∈ ([(xg, .pointer (some ⟨r, 0, none⟩), 24), (w.heap.size, .slice (some ⟨b, off, none⟩) len cap, 43), (w.heap.size + 1, .int .u8 mk.toNat, 5), (w.heap.size + 1 + 1, .bool false, 4)] : List (Nat × Value × TypeId)), ¬ F9 e.1 := by
          intro e he hF
          have h1 := (hxg e he).1
          have h2 := M7.lt e he
          rcases hF9 _ hF with h | h
          · exact h1 h
          · omega
        refine range_feed 47 48 12 (some 13) (F0 := F9) (E := fun _ => False) rfl hBp2 hG2 hc9 hg4 (by omega) g9 (fun k h => h.elim) (fun k h => h.elim) (fun h => by have := hF9lt _ h; omega) (fun h => h) rfl
          (fun j S _ => FeedX (frameN xs mk) Mq tt 0 0 j S) (fun j S _ => S.l ≤ 2 * j) same_own same_own (fun _ _ _ _ h => h) (fun _ _ _ _ h => h) ⟨fun _ => At.nil hk hx hl, fun h => by omega⟩ (by omega) ?assign ?body ?done
        case assign =>
          intro l ck Lx W K hcl hK
          (simp only [feedT, List.setIfInBounds_toArray, List.set_cons_zero, List.set_cons_succ] at hK; gi_wp2_with (with_reducible show wpListIn _ _ _ _ _ (Oper.mk _ (Op.alloc 28) _ _ _ _ :: _) _ _; revert hcl); intro hcl; refine wpListIn_def rfl rfl rfl rfl rfl rfl zero40 (by rw [size24, payV_size, hcl]) (by rw [payV_size, payV_size, hcl]; simp [zer]) (payV_one _) ?_; (try simp only [Act.put, List.setIfInBounds_toArray, List.set_cons_zero, List.set_cons_succ, World.size_alloc]); generalize W.alloc (.cells (payV ck) 28) = WA at *; gi_wp2; exact hK)
        case body =>
          intro l pre x ck Lx W S Bx hck hLx hl' hlo hF hY hX hBx bX hcl hlt'
          have hMW := hMA.fi hF (fun e he => ⟨hnb e he, fun h => h⟩)
          have kg := hMW.get (b := xg) (v := .pointer (some ⟨r, 0, none⟩)) (t := 24) (by simp)
          have kt := (hF.bk hTA hE9 (fun h => h)).cell 0 (.int .i64 tt) rfl
          rw [qL, Nat.mul_div_cancel_left _ (by decide)] at hlt'
          have HT := hF.take (fun k h => h.elim) wA.heap.size (by omega) tt (by omega) (by omega) ck hcl Lx
          have HBX : Hid (BK W Bx (payV ck) 28) := bX
          have HY' : Hid ((S.take tt ck Lx).1.l ≤ 2 * (pre.length + 1)) := by show _ ≤ _; have := S.take_l tt ck Lx; omega
          have htx : (S.take tt ck Lx).2.1.length ≤ 1008 := by obtain ⟨F', gg, _, _⟩ := hF.ex; exact Ga.take_text gg.fit _ _ _ hcl
          have HX' : (pre ++ [x]).map (·.1) = List.range (pre ++ [x]).length → FeedX (frameN xs mk) Mq tt 0 0 (pre.length + 1) (S.take tt ck Lx).1 ∧ (S.take tt ck Lx).2 = (if Lx = true then (xs, mk, 0) else ([], 0, 2)) := by
            intro h
            obtain ⟨h1, h2⟩ := order_next h
            rw [h2] at hck hLx
            have h4 := (hX h1).next qL m4 HUB.out rfl hlt'
            rw [← hck, ← hLx] at h4
            refine ⟨h4.1, ?_⟩
            rw [h4.2.1, h4.2.2]
            by_cases e : pre.length + 1 = Mq <;> simp [e]
          have HLN : Hid ((pre ++ [x]).length = pre.length + 1) := by show _ = _; simp
          obtain ⟨u, hu⟩ : ∃ u, S.take tt ck Lx = u := ⟨_, rfl⟩
          rw [hu] at HT HY' HX' htx
          have mid : ¬ (u.2 = (if Lx = true then (xs, mk, 0) else ([], 0, 2))) → ¬ (pre ++ [x]).map (·.1) = List.range (pre ++ [x]).length := fun h1 h2 => h1 (HX' h2).2
          have HXI : Hid ((pre ++ [x]).map (·.1) = List.range (pre ++ [x]).length → FeedX (frameN xs mk) Mq tt 0 0 (pre.length + 1) u.1) := fun h => (HX' h).1
          clear hu hX hY hck hLx HX' bX
          simp only [feedT, List.setIfInBounds_toArray, List.set_cons_zero, List.set_cons_succ]
          gi_wp2_with (with_reducible show wpListIn _ _ _ _ _ (Oper.mk _ (Op.load 28 _) _ _ _ _ :: _) _ _; revert hcl)
          intro hcl
          have hld := run_ld24 W Bx _ _ HBX.out hcl
          refine wpListIn_ld rfl rfl rfl hld ?_
          (try simp only [Act.put, List.setIfInBounds_toArray, List.set_cons_zero, List.set_cons_succ, World.size_alloc])
          clear hld
          gi_wp2_with fail
          refine ⟨trivial, ?_⟩
          gi_at_call 15
          refine (CallsIn.inRound l (callsIn_wide.2 HT)).mono ?_
          rintro e W4 ⟨⟨a4, c4, rfl, o4⟩, hF4, hK4, hS4, _⟩
          have HKQ : Hid (Kq gq2 W W4) := hF.kq hF4 hS4 hg4 (fun h => by have := hF9lt _ h; omega) (fun h => h)
          have HI : Hid (feedI (zs := frameN xs mk) wA F9 (fun _ => False) r (fun j S _ => FeedX (frameN xs mk) Mq tt 0 0 j S) (fun j S _ => S.l ≤ 2 * j) (pre ++ [x]) W4) := ⟨u.1, hF4, by show u.1.l ≤ 2 * (pre ++ [x]).length; rw [HLN.out]; exact HY'.out, fun h => by show FeedX _ _ _ _ _ (pre ++ [x]).length _; rw [HLN.out]; exact HXI.out h⟩
          have HK4 : Hid (KeepsFrom wA.heap.size W W4) := hK4
          have hM4 := hMA.fi hF4 (fun e he => ⟨hnb e he, fun h => h⟩)
          have rs := hM4.get (b := w.heap.size + 1 + 1) (v := .bool false) (t := 4) (by simp)
          have rf := hM4.fz (b := w.heap.size + 1 + 1) (v := .bool false) (t := 4) (by simp)
          have ms := hM4.get (b := w.heap.size + 1) (v := .int .u8 (mk.toNat : Int)) (t := 5) (by simp)
          have ts := hM4.get (b := w.heap.size) (v := .slice (some ⟨b, off, none⟩) len cap) (t := 43) (by simp)
          have is := (hF4.bk kiA (fun h => by have := hF9lt _ h; omega) (fun h => h)).cell 0 (.int .i64 (i : Int)) rfl
          have hBW : Below w.heap.size w W4 := hBA.trans (hF4.bel (fun k hk => by rcases hF9 k hk with e | e <;> omega) (fun k h => h.elim) hBA.size)
          have xc : W4.cell? ⟨b, off + i, none⟩ = some (.slice ai li ci) := (hBW.cell (p := ⟨b, off + i, none⟩) hbn).trans hcell
          have HKR : Hid (KeepsFrom wA.heap.size W (W4.setCell ⟨w.heap.size + 1 + 1, 0, none⟩ (.bool false))) := hK4.trans ((KeepsOthers.setCell _ _ _).from _)
          have o4' : IsB W4.heap.size W4 a4 u.2.1.length u.2.1 := o4.isB.1
          clear HT kg kt hF4 hK4 hM4 o4 hF hMW
          obtain ⟨S', tx, m', kk⟩ := u
          dsimp only at mid htx o4' ⊢
          cases Lx with
          | false =>
            have mid0 : ¬ ((tx, m', kk) = (([] : List UInt8), (0 : UInt8), (2 : Nat))) → ¬ (pre ++ [x]).map (·.1) = List.range (pre ++ [x]).length := fun h => mid (by simpa using h)
            clear mid
            obtain ⟨N, hN⟩ : ∃ N, tx.length = N := ⟨_, rfl⟩
            have HNN : Hid (tx.length = N) := hN
            rw [hN]
            clear hN
            by_cases hk2 : kk = 2
            · subst hk2
              by_cases ht0 : N = 0
              · subst ht0
                clear mid0
                gi_wp2
                all_goals first
                  | (rename_i hu hu2; exact absurd (Option.some.inj hu) (by simp [undef]))
                  | (refine ⟨trivial, ?_⟩; gi_wp2; all_goals first | exact ⟨HK4.out, HKQ.out, HI.out⟩ | (rename_i hu hu2; exact absurd (Option.some.inj hu) (by simp [undef])))
              · have ht1 : 0 < N := by omega
                have mid2 := mid0 (fun h => by simp only [Prod.mk.injEq] at h; have := HNN.out; rw [h.1] at this; simp at this; omega)
                clear mid0
                gi_wp2
                all_goals first
                  | (rename_i hu hu2; exact absurd (Option.some.inj hu) (by simp [undef]))
                  | (refine ⟨trivial, ?_⟩; gi_wp2; all_goals first | exact ⟨HKR.out, rfl, mid2⟩ | (exfalso; omega) | (rename_i hu hu2; exact absurd (Option.some.inj hu) (by simp [undef])))
            · have hk3 : ((kk : Int) != 2) = true := by rw [bne_iff_ne]; omega
              have mid2 := mid0 (fun h => by simp only [Prod.mk.injEq] at h; exact hk2 h.2.2)
              clear mid0 hk2
              gi_wp2
              all_goals first
                | (rename_i hu hu2; exact absurd (Option.some.inj hu) (by simp [undef]))
                | (refine ⟨trivial, ?_⟩; gi_wp2; all_goals first | exact ⟨HKR.out, rfl, mid2⟩ | (rename_i hu hu2; exact absurd (Option.some.inj hu) (by simp [undef])))
          | true =>
            have mid0 : ¬ ((tx, m', kk) = (xs, mk, (0 : Nat))) → ¬ (pre ++ [x]).map (·.1) = List.range (pre ++ [x]).length := fun h => mid (by simpa using h)
            clear mid
            by_cases hk0 : kk = 0
            · subst hk0
              by_cases hm2 : m' = mk
              · subst hm2
                have hmm : ((m'.toNat : Int) != (m'.toNat : Int)) = false := by simp
                have SC := same_calls a4 ai tx.length c4 li ci tx xs W4 o4' (hI.below hBW (Nat.le_refl _)) (Nat.le_refl _) hBW.size (by omega)
                gi_wp2_with fail
                refine ⟨trivial, ?_⟩
                gi_at_call 17
                refine (CallsIn.inRound l (callsIn_wide.2 SC)).mono ?_
                rintro e W5 ⟨rfl, b5⟩
                have rs5 : W5.cell? ⟨w.heap.size + 1 + 1, 0, none⟩ = some (.bool false) := (b5.cell (p := ⟨w.heap.size + 1 + 1, 0, none⟩) (World.block_lt_of_cell? W4 ⟨w.heap.size + 1 + 1, 0, none⟩ rs)).trans rs
                have HK5 : Hid (KeepsFrom wA.heap.size W W5) := HK4.out.trans (Ft.keeps (F := fun _ => False) (F' := fun _ => False) (Ft.of b5 (Nat.le_refl _)) (fun k h => h.elim) _)
                have HQ5 : Hid (Kq gq2 W W5) := ⟨Nat.le_trans HKQ.out.size b5.size, (b5.block gq2 (Nat.lt_of_lt_of_le hg4 (by obtain ⟨S9, h9, _, _⟩ := HI.out; exact h9.size))).trans HKQ.out.block⟩
                have HI5 : Hid (feedI (zs := frameN xs m') wA F9 (fun _ => False) r (fun j S _ => FeedX (frameN xs m') Mq tt 0 0 j S) (fun j S _ => S.l ≤ 2 * j) (pre ++ [x]) W5) := by
                  obtain ⟨S9, h9, h10, h11⟩ := HI.out
                  exact ⟨S9, h9.below b5 (Nat.le_refl _), h10, h11⟩
                have rf5 : W5.frozen? ⟨w.heap.size + 1 + 1, 0, none⟩ = false := (World.frozen?_of_block (a := ⟨w.heap.size + 1 + 1, 0, none⟩) (b5.block _ (World.block_lt_of_cell? W4 ⟨w.heap.size + 1 + 1, 0, none⟩ rs))).trans rf
                have HKR5 : Hid (KeepsFrom wA.heap.size W (W5.setCell ⟨w.heap.size + 1 + 1, 0, none⟩ (.bool false))) := HK5.out.trans ((KeepsOthers.setCell _ _ _).from _)
                obtain ⟨sm, hsm⟩ : ∃ sm, (tx == xs) = sm := ⟨_, rfl⟩
                rw [hsm]
                clear SC b5 rs rf hBW o4' ms ts is xc
                cases sm with
                | true =>
                  clear mid0 hsm
                  gi_wp2
                  all_goals first
                    | exact ⟨HK5.out, HQ5.out, HI5.out⟩
                    | (rename_i hu hu2; exact absurd (Option.some.inj hu) (by simp [undef]))
                | false =>
                  have mid2 := mid0 (fun h => by simp only [Prod.mk.injEq] at h; rw [h.1] at hsm; simp at hsm)
                  clear mid0 hsm
                  gi_wp2
                  all_goals first
                    | exact ⟨HKR5.out, rfl, mid2⟩
                    | (rename_i hu hu2; exact absurd (Option.some.inj hu) (by simp [undef]))
              · have hm3 : ((m'.toNat : Int) != (mk.toNat : Int)) = true := by
                  rw [bne_iff_ne]; intro h; apply hm2; apply UInt8.toNat_inj.1; omega
                have mid2 := mid0 (fun h => by simp only [Prod.mk.injEq] at h; exact hm2 h.2.1)
                clear mid0 hm2
                gi_wp2
                refine ⟨trivial, ?_⟩
                gi_wp2
                all_goals first
                  | exact ⟨HKR.out, rfl, mid2⟩
                  | (rename_i hu hu2; exact absurd (Option.some.inj hu) (by simp [undef]))
            · have hk1 : ((kk : Int) != 0) = true := by rw [bne_iff_ne]; omega
              have mid2 := mid0 (fun h => by simp only [Prod.mk.injEq] at h; exact hk0 h.2.2)
              clear mid0 hk0
              gi_wp2
              refine ⟨trivial, ?_⟩
              gi_wp2
              all_goals first
                | exact ⟨HKR.out, rfl, mid2⟩
                | (rename_i hu hu2; exact absurd (Option.some.inj hu) (by simp [undef]))
        case done =>
          intro D W S' hDw hF' hX' hd
          rw [qL, Nat.mul_div_cancel_left _ (by decide)] at hX'
          obtain ⟨l1, x1, k1⟩ := hX'.2 rfl
          have hT9 := hF'.bk hTA hE9 (fun h => h)
          have kt := hT9.cell 0 (.int .i64 tt) rfl
          have kf := hT9.frozen 0
          have hFc := (FI.chain (F0 := fun k => k = r) (E := fun k => k = xg + 1) (fun k (e : k = xg + 1) h => hE9 (e ▸ h)) k9 hF' (fun k (e : k = xg + 1) => by omega)).set (b := xg + 1) rfl (.int .i64 (tt + wt))
          have hTs : BK (W.setCell ⟨xg + 1, 0, none⟩ (.int .i64 (tt + wt))) (xg + 1) #[.int .i64 (tt + wt)] 3 := hT9.set 0 _
          have HR : Hid (FI w7 (fun k => k = r) (fun k => k = xg + 1) r S' (W.setCell ⟨xg + 1, 0, none⟩ (.int .i64 (tt + wt))) ∧ BK (W.setCell ⟨xg + 1, 0, none⟩ (.int .i64 (tt + wt))) (xg + 1) #[.int .i64 (((i + 1 : Nat) : Int) * wt)] 3 ∧ (D :: Ds).Nodup ∧ (∀ D' ∈ D :: Ds, (W.setCell ⟨xg + 1, 0, none⟩ (.int .i64 (tt + wt))).heap[D']? = some (.deferred (some []))) ∧ (∀ D' ∈ D :: Ds, w7.heap.size ≤ D')) := by
            refine ⟨hFc, by rw [HTT.out]; exact hTs, List.nodup_cons.2 ⟨fun h => ?_, hnd⟩, fun D' h => ?_, fun D' h => ?_⟩
            · have := (Array.getElem?_eq_some_iff.1 (hDA D h)).1; omega
            · rcases List.mem_cons.1 h with rfl | h
              · exact (Below.heap_setCell _ _ _ _ (by show D' ≠ xg + 1; omega)).trans hd
              · exact (Below.heap_setCell _ _ _ _ (by show D' ≠ xg + 1; have := hDlo D' h; omega)).trans (hF'.obj (hDA D' h) (not_cells hc9c (hDA D' h) rfl) (fun h => h))
            · rcases List.mem_cons.1 h with rfl | h
              · omega
              · exact hDlo D' h
          have HS : Hid (S'.xs = [] ∧ S'.k = false ∧ S'.l = 0) := ⟨x1, k1, l1⟩
          refine hKK2 _ _ ?_
          clear hKK2 hFc hTs hT9 hF' hX' hd l1 x1 k1 hx hk hl
          have hilt : i < len := by have := of_decide_eq_true q7; omega
          go_wp2
          try refine hK _ _ ?_
          refine Handed.intro (len - (i + 1)) (by omega) (hJ _ _ _ ⟨_, _, _, _, _, _, _, _, _, _, _, _, _, _, _, _, _, _, _, _, _, _, _, i + 1, D :: Ds, S', rfl, by omega, rfl, HR.out.1, HS.out.1, HS.out.2.1, HS.out.2.2, HR.out.2.1, HR.out.2.2.1, HR.out.2.2.2.1, HR.out.2.2.2.2⟩)
  · obtain rfl : i = len := by omega
    have kg := hM.get (b := xg) (v := .pointer (some ⟨r, 0, none⟩)) (t := 24) (by simp)
    have rb := hM.bk (b := w.heap.size + 1 + 1) (v := .bool false) (t := 4) (by simp)
    have rs := rb.cell 0 _ rfl
    have rf := rb.frozen 0
    have rb2 : BK (wr.setCell ⟨w.heap.size + 1 + 1, 0, none⟩ (.bool true)) (w.heap.size + 1 + 1) #[.bool true] 4 := rb.set 0 (.bool true)
    have HB : Hid (Below w.heap.size w (wr.setCell ⟨w.heap.size + 1 + 1, 0, none⟩ (.bool true))) := hB.setCell (p := ⟨w.heap.size + 1 + 1, 0, none⟩) (by show w.heap.size ≤ w.heap.size + 1 + 1; omega) _
    have HD : Hid (∀ D ∈ Ds, (wr.setCell ⟨w.heap.size + 1 + 1, 0, none⟩ (.bool true)).heap[D]? = some (.deferred (some []))) := fun D hD' => (Below.heap_setCell _ _ _ _ (by show D ≠ w.heap.size + 1 + 1; have := hDlo D hD'; omega)).trans (hD D hD')
    have HN : Hid (Ds.Nodup ∧ ∀ D ∈ Ds, w.heap.size ≤ D) := ⟨hnd, fun D hD' => by have := hDlo D hD'; omega⟩
    have hLo := glost_calls ga0 hl
    have hPa := gparts_calls ga0 (p := 0) (by rw [hx]; rfl)
    clear hD hDlo hnd hF hM hB hT hJ hK ga0 ka0 hx hk hl rb
    go_wp2_with fail
    refine hLo.mono ?_
    rintro e W8 ⟨rfl, e8⟩
    rw [e8]; clear e8
    go_wp2_with fail
    refine hPa.mono ?_
    rintro e W8 ⟨rfl, e8⟩
    rw [e8]; clear e8
    go_wp2
    refine fin_marks 3 _ Ds _ w w.heap.size (w.heap.size + 1 + 1) ?_ HN.out.1 HD.out HN.out.2 rb2 HB.out
    intro W' hb'
    have c3 := hb'.cell 0 _ rfl
    simp [results, Try.results4, go_sem, c3]
end Go.Proofs.Ytfmicnjijcmjaaa
