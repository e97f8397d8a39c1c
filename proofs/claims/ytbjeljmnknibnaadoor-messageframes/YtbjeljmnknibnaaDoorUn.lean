/- Proved here: what element.Unpack answers. Conditions: as each theorem states them. -/
import Derived.Test.YtbjeljmnknibnaaDoorFi
import Derived.Test.YtbjeljmnknibnaaDoorSm
namespace Go.Proofs.YtbjeljmnknibnaaDoor
set_option linter.unusedSimpArgs false
set_option linter.unusedVariables false
set_option maxRecDepth 20000
open Go.RowKit Go.Shelf

/-- What Unpack answers. -/
def UnAns (zs : List UInt8) (w : World) (e : Ending) (w' : World) : Prop :=
  Below w.heap.size w w' ∧ ((∃ (L : List El) (a' : Option Addr) (c' : Nat), unE 16 zs = .ok L ∧ e = .returned (.tuple #[.slice a' L.length c', .int .i64 0]) ∧ OwnI w.heap.size w.heap.size w' a' L.length c' L) ∨
    (∃ E : Int, unE 16 zs = .error E ∧ e = .returned (.tuple #[.slice none 0 0, .int .i64 E])))
theorem headN_err {r : List UInt8} {e : Int} (h : headN r = .error e) : e = 2 ∨ e = 5 ∨ e = 6 := by
  unfold headN at h
  split at h
  · split at h
    · cases h; simp
    · split at h
      · cases h; simp
      · split at h
        · cases h; simp
        · cases h
  · cases h; simp

set_option maxHeartbeats 1000000 in
theorem unpack_calls (a : Option Addr) (len cap : Nat) (zs : List UInt8) (w : World) {n : Nat} (h : IsB n w a len zs) (hn : n ≤ w.heap.size) (hlc : len ≤ cap) (hm : len ≤ 10000) :
    Calls Tryd.prog 32 #[.slice a len cap] w (UnAns zs w) := by
  have l1 := h.1
  go_enter Tryd.func32, Tryd.ntmps32
  go_wp2
  go_loopw [0, 4] (fun s l wr => ∃ (D : List El) (r : List UInt8) (ab al : Option Addr) (lr cb ld cl : Nat), s = .slice ab lr cb ∧ IsB n wr ab lr r ∧ lr ≤ cb ∧ l = .slice al ld cl ∧ OwnI w.heap.size w.heap.size wr al ld cl D ∧ ld ≤ 16 ∧ lr ≤ len ∧
      Hid (unE 16 zs = aheadE D (unE (16 - ld) r)) ∧ Below w.heap.size w wr) (fun s _ _ => match s with | .slice _ k _ => k | _ => 0)
  case atStart => exact ⟨[], zs, a, none, len, cap, 0, 0, rfl, h, hlc, rfl, ownI_nil _ _ _, by decide, Nat.le_refl _, (aheadE_nil _).symm, Below.refl _ _⟩
  case round =>
    obtain ⟨D, r, ab, al, lr, cb, ld, cl, rfl, hI, hcb, rfl, o1, hld, hlr, HU, bel⟩ := hrel
    have HlD : Hid (ld = D.length) := o1.len
    have Hlr : Hid (lr = r.length) := hI.1
    by_cases h0 : lr = 0
    · have q1 : decide (0 < lr) = false := by simp; omega
      have HE : Hid (unE 16 zs = .ok D) := by
        show _ = _
        rw [HU.out, show r = [] from List.eq_nil_of_length_eq_zero (by rw [← Hlr.out]; exact h0), unE_nil]
        simp [aheadE]
      clear h0 hI h l1 HU Hlr
      go_wp2
      go_ret2
      exact ⟨bel, .inl ⟨D, al, cl, HE.out, by rw [← HlD.out]; rfl, by rw [← HlD.out]; exact o1⟩⟩
    · have q1 : decide (0 < lr) = true := by simp; omega
      have hne : r ≠ [] := fun e => h0 (by rw [Hlr.out, e]; rfl)
      by_cases h16 : ld = 16
      · have HE : Hid (unE 16 zs = .error 6) := by
          show _ = _
          rw [HU.out, h16, unE_zero hne]
          rfl
        have q2 : ((ld : Int) == 16) = true := by rw [h16]; rfl
        clear h0 hI h l1 HU Hlr hne h16 o1
        go_wp2
        go_ret2
        exact ⟨bel, .inr ⟨6, HE.out, rfl⟩⟩
      · have q2 : ((ld : Int) == 16) = false := beq_eq_false_iff_ne.2 (by omega)
        have HB := body_calls ab lr cb r wr hI (Nat.le_trans hn bel.size) hcb (by omega)
        have hk : 16 - ld = (15 - ld) + 1 := by omega
        have hU := HU.out
        rw [hk] at hU
        cases hh : headN r with
        | error E =>
          have hE := headN_err hh
          rw [unE_err hne hh] at hU
          have HE : Hid (unE 16 zs = .error E) := hU
          have hA : hdAns r = (0, E) := by unfold hdAns; rw [hh]
          rw [hA] at HB
          have q3 : (E != 0) = true := by rw [bne_iff_ne]; omega
          clear h0 hI h l1 HU Hlr hne h16 o1 hU hE hh hA hk
          go_wp2_with fail
          refine HB.mono ?_
          rintro e w1 ⟨rfl, b1⟩
          go_wp2
          go_ret2
          exact ⟨bel.trans (b1.mono bel.size), .inr ⟨E, HE.out, rfl⟩⟩
        | ok m =>
          obtain ⟨i, ua, ub, t, rfl, hnum, hm200, hmt⟩ := headN_ok hh
          have hA : hdAns (i :: 128 :: ua :: ub :: t) = ((m : Int), 0) := by unfold hdAns; rw [hh]
          rw [hA] at HB
          rw [unE_ok hh, aheadE_app] at hU
          have HV : Hid (unE 16 zs = aheadE (D ++ [⟨i, ((i :: 128 :: ua :: ub :: t).drop 4).take m⟩]) (unE (15 - ld) ((i :: 128 :: ua :: ub :: t).drop (4 + m)))) := hU
          have hld15 : ld ≤ 15 := by omega
          have hlt : Hid (lr = t.length + 4) := by show _ = _; rw [Hlr.out]; simp
          obtain ⟨b, off, rfl, hbn, hc⟩ := hI.cell (k := 0) (x := i) rfl
          have c0 := hc 0 i rfl
          clear HU hU hh hA hk h16 hne h0
          go_wp2_with fail
          refine HB.mono ?_
          rintro e w1 ⟨rfl, b1⟩
          clear hc
          have hmr : 4 + m ≤ lr := by have := hlt.out; omega
          have B1 := bel.trans (b1.mono bel.size)
          have C0 : Hid (∀ w', Below w.heap.size w1 w' → w'.cell? ⟨b, off, none⟩ = some (.int .u8 (i.toNat : Int))) := fun w' hb => (hb.cell (p := ⟨b, off, none⟩) (by show b < _; omega)).trans ((b1.cell (p := ⟨b, off, none⟩) (by have := bel.size; show b < _; omega)).trans c0)
          obtain ⟨body, hbody⟩ : ∃ body, t.take m = body := ⟨_, rfl⟩
          obtain ⟨r2, hr2⟩ : ∃ r2, t.drop m = r2 := ⟨_, rfl⟩
          have et : i :: 128 :: ua :: ub :: t = [i, 128, ua, ub] ++ (body ++ r2) := by rw [← hbody, ← hr2, List.take_append_drop]; rfl
          have hbl : body.length = m := by rw [← hbody, List.length_take]; omega
          have e1 : ((i :: 128 :: ua :: ub :: t).drop 4).take m = body := by rw [← hbody]; rfl
          have e2 : (i :: 128 :: ua :: ub :: t).drop (4 + m) = r2 := by rw [← hr2, Nat.add_comm]; rfl
          rw [e1, e2] at HV
          rw [et] at hI
          have J4 := hI.dropA
          have J1 := J4.takeA
          have J2 := J4.dropA
          rw [hbl] at J1 J2
          have hr2l : r2.length = lr - (4 + m) := by have := Hlr.out; rw [et] at this; simp [hbl] at this; omega
          rw [hr2l] at J2
          obtain ⟨a9, ha9⟩ : ∃ a9, (if cb = 4 then some (⟨b, off, none⟩ : Addr) else some ⟨b, off + 4, none⟩) = a9 := ⟨_, rfl⟩
          obtain ⟨a10, ha10⟩ : ∃ a9, (if cb = 4 + m then some (⟨b, off, none⟩ : Addr) else some ⟨b, off + (4 + m), none⟩) = a9 := ⟨_, rfl⟩
          have I9 : IsB n wr a9 m body := by
            rw [← ha9]
            split
            · exact ⟨hbl.symm, .inl (List.eq_nil_of_length_eq_zero (by omega))⟩
            · exact J1
          have I10 : IsB n wr a10 (lr - (4 + m)) r2 := by
            rw [← ha10]
            split
            · exact ⟨hr2l.symm, .inl (List.eq_nil_of_length_eq_zero (by omega))⟩
            · rw [← Nat.add_assoc]; exact J2
          have N9 : a9 = none → cb - 4 = 0 := by rw [← ha9]; split <;> (intro h; cases h)
          have I9' : Hid (∀ w', Below w.heap.size w1 w' → IsB n w' a9 m body) := fun w' hb => (I9.below b1 (Nat.le_trans hn bel.size)).below hb hn
          have I10' : Hid (∀ w', Below w.heap.size w1 w' → IsB n w' a10 (lr - (4 + m)) r2) := fun w' hb => (I10.below b1 (Nat.le_trans hn bel.size)).below hb hn
          have o2 := o1.below b1 (Nat.le_refl _)
          have g7 : ∀ k, (Value.slice al ld cl).ownBlock = some k → k < w1.heap.size := fun k hk => (o2.lt k hk).2
          have hpos : 0 < lr := by omega
          have hwm : IntKind.i64.wrap (4 + (m : Int)) = 4 + (m : Int) := by rw [IntKind.wrap_i64]; omega
          have g1 : (0 : Int) ≤ 4 + (m : Int) := by omega
          have g2 : 4 + (m : Int) ≤ (cb : Int) := by omega
          have g3 : (4 : Int) ≤ 4 + (m : Int) := by omega
          have g4 : (4 + (m : Int)).toNat - 4 = m := by omega
          have g5 : (4 + (m : Int)).toNat = 4 + m := by omega
          clear I9 I10 J1 J2 J4 hI et e1 e2 hbody hr2 hr2l hlt Hlr hnum hmt
          go_wp2
          refine wp_region_held_drew (S := (fun w' => Below w.heap.size w1 w')) (by kernel_rfl) (Below.refl _ _).drew (fun hHeld => ?_)
          refine wpAnyH_take (i := 0) (oi := ({ dst := some 21, op := Op.move (Operand.tmp 4), type := 22, pos := _, after := #[], guard := none } : Oper)) (v := ?_) rfl (by kernel_rfl) (by kernel_rfl) (by kernel_rfl) (fun _ _ _ h => h) (Or.inl ⟨by rfl, ?_⟩) hHeld ?_
          rotate_left
          · (intro w hS; go_simp; try with_reducible rfl)
          try simp only [Act.put, List.setIfInBounds_toArray, List.set_cons_zero, List.set_cons_succ]
          refine wpAnyH_take (i := 1) (oi := ({ dst := some 22, op := Op.move (Operand.tmp 0), type := 25, pos := _, after := #[], guard := none } : Oper)) (v := ?_) rfl (by kernel_rfl) (by kernel_rfl) (by kernel_rfl) (fun _ _ _ h => h) (Or.inl ⟨by rfl, ?_⟩) hHeld ?_
          rotate_left
          · (intro w hS; go_simp; try with_reducible rfl)
          try simp only [Act.put, List.setIfInBounds_toArray, List.set_cons_zero, List.set_cons_succ]
          refine wpAnyH_take (i := 2) (oi := ({ dst := some 23, op := Op.indexAddr 25 (Operand.tmp 22) (Operand.const (Value.int IntKind.i64 0)), type := 0, pos := _, after := #[{ on := 1, ground := Ground.data }], guard := none } : Oper)) (v := ?_) rfl (by kernel_rfl) (by kernel_rfl) (by kernel_rfl) (fun _ _ _ h => h) (Or.inl ⟨by rfl, ?_⟩) hHeld ?_
          rotate_left
          · (intro w hS; go_simp; try with_reducible rfl)
          try simp only [Act.put, List.setIfInBounds_toArray, List.set_cons_zero, List.set_cons_succ]
          refine wpAnyH_take (i := 3) (oi := ({ dst := some 24, op := Op.load 5 (Operand.tmp 23), type := 5, pos := _, after := #[{ on := 2, ground := Ground.data }], guard := none } : Oper)) (v := ?_) rfl (by kernel_rfl) (by kernel_rfl) (by kernel_rfl) (fun _ _ _ h => h) (Or.inl ⟨by rfl, ?_⟩) hHeld ?_
          rotate_left
          · (intro w hS; have d1 := C0.out w hS; go_simp; try with_reducible rfl)
          try simp only [Act.put, List.setIfInBounds_toArray, List.set_cons_zero, List.set_cons_succ]
          refine wpAnyH_take (i := 4) (oi := ({ dst := some 25, op := Op.move (Operand.tmp 0), type := 25, pos := _, after := #[], guard := none } : Oper)) (v := ?_) rfl (by kernel_rfl) (by kernel_rfl) (by kernel_rfl) (fun _ _ _ h => h) (Or.inl ⟨by rfl, ?_⟩) hHeld ?_
          rotate_left
          · (intro w hS; go_simp; try with_reducible rfl)
          try simp only [Act.put, List.setIfInBounds_toArray, List.set_cons_zero, List.set_cons_succ]
          refine wpAnyH_take (i := 5) (oi := ({ dst := some 26, op := Op.move (Operand.tmp 5), type := 3, pos := _, after := #[], guard := none } : Oper)) (v := ?_) rfl (by kernel_rfl) (by kernel_rfl) (by kernel_rfl) (fun _ _ _ h => h) (Or.inl ⟨by rfl, ?_⟩) hHeld ?_
          rotate_left
          · (intro w hS; go_simp; try with_reducible rfl)
          try simp only [Act.put, List.setIfInBounds_toArray, List.set_cons_zero, List.set_cons_succ]
          refine wpAnyH_take (i := 6) (oi := ({ dst := some 27, op := Op.binOp BinOp.add 3 (Operand.const (Value.int IntKind.i64 4)) (Operand.tmp 26) 3, type := 3, pos := _, after := #[{ on := 5, ground := Ground.data }], guard := none } : Oper)) (v := ?_) rfl (by kernel_rfl) (by kernel_rfl) (by kernel_rfl) (fun _ _ _ h => h) (Or.inl ⟨by rfl, ?_⟩) hHeld ?_
          rotate_left
          · (intro w hS; go_simp; try with_reducible rfl)
          try simp only [Act.put, List.setIfInBounds_toArray, List.set_cons_zero, List.set_cons_succ]
          refine wpAnyH_take (i := 7) (oi := ({ dst := some 28, op := Op.slice 25 (Operand.tmp 25) (some (Operand.const (Value.int IntKind.i64 4))) (some (Operand.tmp 27)) none, type := 25, pos := _, after := #[{ on := 4, ground := Ground.data }, { on := 6, ground := Ground.data }], guard := none } : Oper)) (v := ?_) rfl (by kernel_rfl) (by kernel_rfl) (by kernel_rfl) (fun _ _ _ h => h) (Or.inl ⟨by rfl, ?_⟩) hHeld ?_
          rotate_left
          · (intro w hS; go_simp; try with_reducible rfl)
          try simp only [Act.put, List.setIfInBounds_toArray, List.set_cons_zero, List.set_cons_succ]
          refine wpAnyH_ready (rs := [8]) (by kernel_rfl) (by simp) ?_
          refine AllReadyH.cons (o := ({ dst := some 29, op := Op.call { callee := Callee.value (Operand.func 51), args := #[Operand.tmp 28], argTypes := #[25] }, type := 25, pos := _, after := #[{ on := 7, ground := Ground.data }], guard := none } : Oper)) rfl (fun K hK => ?_) AllReadyH.nil
          refine step_call (clone_calls a9 m (cb - 4) body _ (I9'.out _ hHeld) (Nat.le_trans hn (Nat.le_trans B1.size hHeld.size)) N9 (by omega)) (enters_of Tryd.func51 (by kernel_rfl) rfl) _ _ rfl rfl rfl ?_
          rintro e w5 ⟨a5, c5, rfl, o5, b5⟩
          have L5 := b5.size
          have o7 := (o2.below (Below.refl _ _).drew (Nat.le_refl _)).below b5 (Nat.le_refl _)
          refine ⟨_, rfl, hK.out _ _ (hHeld.trans (b5.mono (Nat.le_trans B1.size hHeld.size))) (fun hHeld => ?_)⟩
          clear hK K
          try simp only [Act.put, List.setIfInBounds_toArray, List.set_cons_zero, List.set_cons_succ]
          refine wpAnyH_take (i := 9) (oi := ({ dst := some 30, op := Op.build 60 #[(0, Operand.tmp 24), (1, Operand.tmp 29)], type := 60, pos := _, after := #[{ on := 3, ground := Ground.data }, { on := 8, ground := Ground.data }], guard := none } : Oper)) (v := ?_) rfl (by kernel_rfl) (by kernel_rfl) (by kernel_rfl) (fun _ _ _ h => h) (Or.inl ⟨by rfl, ?_⟩) hHeld ?_
          rotate_left
          · (intro w hS; go_simp; try with_reducible rfl)
          try simp only [Act.put, List.setIfInBounds_toArray, List.set_cons_zero, List.set_cons_succ]
          refine wpAnyH_ready (rs := [10]) (by kernel_rfl) (by simp) ?_
          refine AllReadyH.cons (o := ({ dst := some 31, op := Op.buildSlice 22 1 #[(0, Operand.tmp 30)], type := 22, pos := _, after := #[{ on := 9, ground := Ground.data }], guard := none } : Oper)) rfl (fun K hK => ?_) AllReadyH.nil
          refine step_slI (i := i) (by rfl) (by rfl) (by rfl) ?_
          intro b6 w6 hb6 K6 e6
          have o6 := o5.below e6 (Nat.le_refl _)
          have o7 := o7.below e6 (Nat.le_refl _)
          refine hK.out _ _ (hHeld.trans (e6.mono (Nat.le_trans B1.size hHeld.size))) (fun hHeld => ?_)
          clear hK K
          try simp only [Act.put, List.setIfInBounds_toArray, List.set_cons_zero, List.set_cons_succ]
          refine wpAnyH_ready (rs := [11]) (by kernel_rfl) (by simp) ?_
          refine AllReadyH.cons (o := ({ dst := some 32, op := Op.call { callee := Callee.builtin Builtin.append, args := #[Operand.tmp 21, Operand.tmp 31], argTypes := #[22, 22] }, type := 22, pos := _, after := #[{ on := 0, ground := Ground.data }, { on := 10, ground := Ground.data }, { on := 8, ground := Ground.chain }], guard := none } : Oper)) rfl (fun K hK => ?_) AllReadyH.nil
          refine step_appI (N := ld + 1) (by rfl) (by rfl) (by rfl) (by rfl) o7 K6 (o6.isO (Nat.le_trans bel.size (Nat.le_trans b1.size (Nat.le_refl _))) (fun k hk => g7 k hk)) o6.isB.2.1 o6.isB.2.2 (by omega) (Nat.le_trans B1.size hHeld.size) rfl ?_
          intro a7 c7 w7 o8 d8
          refine hK.out _ _ (hHeld.trans d8) (fun hHeld => ?_)
          clear hK K
          try simp only [Act.put, List.setIfInBounds_toArray, List.set_cons_zero, List.set_cons_succ]
          refine wpAnyH_take (i := 12) (oi := ({ dst := some 4, op := Op.assign (Operand.tmp 32), type := 22, pos := _, after := #[{ on := 11, ground := Ground.data }, { on := 11, ground := Ground.chain }, { on := 0, ground := Ground.phase }, { on := 1, ground := Ground.phase }, { on := 2, ground := Ground.phase }, { on := 3, ground := Ground.phase }, { on := 4, ground := Ground.phase }, { on := 5, ground := Ground.phase }, { on := 6, ground := Ground.phase }, { on := 7, ground := Ground.phase }, { on := 8, ground := Ground.phase }, { on := 9, ground := Ground.phase }, { on := 10, ground := Ground.phase }, { on := 11, ground := Ground.phase }], guard := none } : Oper)) (v := ?_) rfl (by kernel_rfl) (by kernel_rfl) (by kernel_rfl) (fun _ _ _ h => h) (Or.inl ⟨by rfl, ?_⟩) hHeld ?_
          rotate_left
          · (intro w hS; go_simp; try with_reducible rfl)
          try simp only [Act.put, List.setIfInBounds_toArray, List.set_cons_zero, List.set_cons_succ]
          refine wpAnyH_done (by kernel_rfl) ?_ _
          skip
          have B7 := B1.trans hHeld
          have I11 := I10'.out _ hHeld
          clear o7 o6 K6 o5 b5 e6 d8 o2 I10' I9' C0 g7 o1 HB b1
          go_wp2
          go_roundw
          case rel => exact ⟨D ++ [⟨i, body⟩], r2, a10, a7, lr - (4 + m), cb - (4 + m), ld + 1, c7, rfl, I11, by omega, rfl, o8, by omega, by omega, by show _ = _; rw [HV.out, show 15 - ld = 16 - (ld + 1) by omega], B7⟩
          case measure => simp; omega
    end Go.Proofs.YtbjeljmnknibnaaDoor
