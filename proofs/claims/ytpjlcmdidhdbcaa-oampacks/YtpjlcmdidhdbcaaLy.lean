/- Proved here: the payload that is laid. Conditions: as each theorem states them. -/
import Derived.Test.YtpjlcmdidhdbcaaTo
namespace Go.Proofs.Ytpjlcmdidhdbcaa
set_option linter.unusedSimpArgs false
set_option linter.unusedVariables false
open Go.RowKit

theorem laidIn_nil (V : Array Value) (o : Nat) : laidIn V o [] = V := by
  unfold laidIn
  simp [vals]
/-- Bytes, or none, are copied into a block. -/
theorem step_cpN {w : World} {ops : Array Oper} {o : Oper} {a : Act} {K : Act → World → Prop} {Q : Exit → Act → World → Prop} {E : Prop} (hgd : Region.wanted o (yielded ops a.tmps) = true)
    {n g off dLen dCap m c : Nat} {V V2 : Array Value} {t : TypeId} {a2 : Option Addr} {ys : List UInt8} {s x : Operand} (ho : o.op = .call { callee := .builtin .copy, args := #[s, x], argTypes := #[32, 32] }) (hs : a.eval s = .slice (some ⟨g, off, none⟩) dLen dCap) (hx : a.eval x = .slice a2 m c)
    (hb : BK w g V t) (hy : IsB n w a2 m ys) (hd : 0 < dLen) (hmd : m ≤ dLen) (hfit : off + m ≤ V.size) (hV : laidIn V off ys = V2)
    (h : ∀ w', BK w' g V2 t → (∀ n, n ≤ g → Below n w w') → But g w.heap.size w w' → w'.heap.size = w.heap.size → K (a.put o.dst (goInt m)) w') : if Region.wanted o (yielded ops a.tmps) = true then Oper.wp Try.prog o a w K Q else E := by
  have hl := hy.1
  rcases Nat.eq_zero_or_pos m with h0 | h0
  · subst h0
    have : ys = [] := List.eq_nil_of_length_eq_zero hl.symm
    subst this
    rw [laidIn_nil] at hV
    subst hV
    exact step_cp (run_cp_none w o.type ⟨g, off, none⟩ dLen dCap c a2) s x hgd ho rfl hs hx (h w hb (fun _ _ => Below.refl _ _) (But.refl _ _ _) rfl)
  · have hmin : Nat.min m dLen = m := Nat.min_eq_left hmd
    have hty : ys.take dLen = ys := List.take_of_length_le (by omega)
    exact step_cpB hgd ho hs hx hb hy h0 hd (by rw [hmin]; exact hfit) hmin (by rw [hty]; exact hV) h

/-- What is laid, so far. -/
def fillN (x : UInt8) (ts : List UInt8) (i : Nat) : List UInt8 := x :: ts ++ List.replicate i 106 ++ List.replicate (47 - ts.length - i) 0
theorem fill_len (x : UInt8) (ts : List UInt8) (i : Nat) (h : ts.length + i ≤ 47) : (fillN x ts i).length = 48 := by simp [fillN]; omega
theorem fill_copy (x : UInt8) (ts : List UInt8) (h : ts.length ≤ 47) : laidIn (payV (x :: zer 47)) 1 ts = payV (fillN x ts 0) := by
  have := laidIn_list [.int .u8 (x.toNat : Int)] (vals (List.replicate ts.length 0)) (vals (List.replicate (47 - ts.length) 0)) ts (by rw [vals_length]; simp)
  have e : payV (x :: zer 47) = (([.int .u8 (x.toNat : Int)] : List Value) ++ vals (List.replicate ts.length 0) ++ vals (List.replicate (47 - ts.length) 0)).toArray := by
    unfold payV zer
    rw [show (47 : Nat) = ts.length + (47 - ts.length) by omega, ← List.replicate_append_replicate, show ts.length + (47 - ts.length) - ts.length = 47 - ts.length by omega]
    simp [vals]
  rw [e]
  refine this.trans ?_
  simp [payV, fillN, vals]
theorem fill_get (x : UInt8) (ts : List UInt8) (i : Nat) (h : ts.length + i < 47) : (fillN x ts i)[ts.length + 1 + i]? = some 0 := by
  unfold fillN
  rw [List.getElem?_append_right (by simp; omega), List.getElem?_replicate, if_pos (by simp; omega)]
theorem fill_set (x : UInt8) (ts : List UInt8) (i : Nat) (h : ts.length + i < 47) : (fillN x ts i).set (ts.length + 1 + i) 106 = fillN x ts (i + 1) := by
  unfold fillN
  rw [List.set_append_right _ _ (by simp; omega), show 47 - ts.length - i = (47 - ts.length - (i + 1)) + 1 by omega, List.replicate_succ, List.replicate_succ' (n := i)]
  have : ts.length + 1 + i - (x :: ts ++ List.replicate i 106).length = 0 := by simp; omega
  rw [this]
  simp
theorem run_bld24 (x : UInt8) (w : World) : (Instr.build 26 #[(0, .int .u8 (x.toNat : Int))]).run Try.prog w = .ok (.agg (payV (x :: zer 47))) w := by kernel_rfl

set_option maxHeartbeats 8000000 in
theorem lay_walk (o : Om) (h : o.Ok) (kk : Int) (hk : o.k = kk) (x : UInt8) (n m : Nat) (hx : bits .or .u8 16 (kk % 256) = (x.toNat : Int)) (hn : (toldN o).length = n) (hm : n + 1 = m) (hm2 : m ≤ 46)
    (HT : ∀ w, Calls Try.prog 31 #[.agg (omV o)] w fun e w' => ∃ a c, e = .returned (.slice a n c) ∧ IsB w'.heap.size w' a n (toldN o) ∧ (a = none → c = 0) ∧ Below w.heap.size w w') (w : World) :
    Calls Try.prog 21 #[.agg (omV o)] w fun e w' => e = .returned (.agg (payV (sealN (fillN x (toldN o) (46 - m))))) ∧ Below w.heap.size w w' := by
  have K0 := ((bk_new w (omV o) 31).alloc (.cells (payV (zer 48)) 26)).alloc (.cells (payV (x :: zer 47)) 26)
  have R0 := (bk_new (w.alloc (.cells (omV o) 31)) (payV (zer 48)) 26).alloc (.cells (payV (x :: zer 47)) 26)
  have V0 := bk_new ((w.alloc (.cells (omV o) 31)).alloc (.cells (payV (zer 48)) 26)) (payV (x :: zer 47)) 26
  have A0 : Below w.heap.size w (((w.alloc (.cells (omV o) 31)).alloc (.cells (payV (zer 48)) 26)).alloc (.cells (payV (x :: zer 47)) 26)) := (((Below.refl _ w).alloc (Nat.le_refl _) _).alloc (by simp) _).alloc (by simp; omega) _
  simp only [World.size_alloc] at R0 V0
  obtain ⟨c0, _, _, _⟩ := ((bk_new w (omV o) 31).alloc (.cells (payV (zer 48)) 26)).om
  rw [hk] at c0
  have HM : Hid ((zer 48).length = 48) := by simp [Hid, zer]
  have hz : (x :: zer 47).length = 48 := by simp [zer]
  have hw : IntKind.i64.wrap (1 + (n : Int)) = (m : Int) := by rw [IntKind.wrap_i64]; omega
  obtain ⟨q, hq⟩ : ∃ q, 46 - m = q := ⟨_, rfl⟩
  have hqi : (46 : Int) - (m : Int) = (q : Int) := by omega
  rw [hq]
  have HQ : Hid (n + 1 = m ∧ m + q = 46 ∧ (toldN o).length = n) := ⟨hm, by omega, hn⟩
  have hmi : (m : Int) ≤ 46 := by omega
  have hqi2 : (q : Int) ≤ 46 := by omega
  have HF : Hid (laidIn (payV (x :: zer 47)) 1 (toldN o) = payV (fillN x (toldN o) 0)) := fill_copy x (toldN o) (by omega)
  clear hk hn hm hm2 hq
  go_enter Try.func21, Try.ntmps21
  go_wp2_with (first | (with_reducible show wpList _ _ _ (Oper.mk _ (Op.alloc 26) _ _ _ _ :: Oper.mk _ (Op.store 26 _ _) _ _ _ _ :: _) _ _; refine wpList_def rfl rfl rfl rfl rfl zero24 (pay_hi48 (by first | exact HL.out | exact HM.out | assumption | (simp only [zer, List.length_replicate]; done))) (pay_same (n := 48) (by first | exact HL.out | exact HM.out | assumption | (simp only [zer, List.length_replicate]; done)) (by first | exact HL.out | exact HM.out | assumption | (simp only [zer, List.length_replicate]; done))) (payV_one _) rfl ?_; (try simp only [Act.put, List.setIfInBounds_toArray, List.set_cons_zero, List.set_cons_succ, World.size_alloc])) | (with_reducible show wpList _ _ _ (Oper.mk _ (Op.alloc 26) _ _ _ _ :: _) _ _; refine wpList_al rfl rfl zero24 ?_; (try simp only [Act.put, List.setIfInBounds_toArray, List.set_cons_zero, List.set_cons_succ, World.size_alloc])) | (with_reducible show wpList _ _ _ (Oper.mk _ (Op.build 26 _) _ _ _ _ :: _) _ _; refine wpList_bld (vs := [(0, .int .u8 _)]) rfl rfl rfl (run_bld24 x _) ?_; (try simp only [Act.put, List.setIfInBounds_toArray, List.set_cons_zero, List.set_cons_succ, World.size_alloc])))
  refine wp_region_held_drew (S := (fun w' => BK w' w.heap.size (omV o) 31 ∧ BK w' (w.heap.size + 1) (payV (zer 48)) 26 ∧ Below w.heap.size w w' ∧ w.heap.size + 1 + 1 < w'.heap.size)) (by kernel_rfl) ⟨K0.drew, R0.drew, A0.drew, V0.lt⟩ (fun hHeld => ?_)
  refine wpAnyH_take (i := 0) (oi := ({ dst := some 11, op := Op.slice 26 (Operand.tmp 3) (some (Operand.const (Value.int IntKind.i64 1))) none none, type := 32, pos := _, after := #[], guard := none } : Oper)) (v := ?_) rfl (by kernel_rfl) (by kernel_rfl) (by kernel_rfl) (fun _ _ _ h => h) (Or.inl ⟨by rfl, ?_⟩) hHeld ?_
  rotate_left
  · (intro w hS; go_simp; try with_reducible rfl)
  try simp only [Act.put, List.setIfInBounds_toArray, List.set_cons_zero, List.set_cons_succ]
  refine wpAnyH_take (i := 1) (oi := ({ dst := some 12, op := Op.load 31 (Operand.tmp 1), type := 31, pos := _, after := #[], guard := none } : Oper))  rfl (by kernel_rfl) (by kernel_rfl) (by kernel_rfl) (fun _ _ _ h => h) (yields_ld rfl rfl rfl (fun w hS => run_ldA w _ _ _ hS.1 h)) hHeld ?_
  try simp only [Act.put, List.setIfInBounds_toArray, List.set_cons_zero, List.set_cons_succ]
  refine wpAnyH_ready (rs := [2]) (by kernel_rfl) (by simp) ?_
  refine AllReadyH.cons (o := ({ dst := some 13, op := Op.call { callee := Callee.value (Operand.func 31), args := #[Operand.tmp 12], argTypes := #[31] }, type := 32, pos := _, after := #[{ on := 1, ground := Ground.data }], guard := none } : Oper)) rfl (fun K hK => ?_) AllReadyH.nil
  refine step_call (HT _) (enters_of Try.func31 (by kernel_rfl) rfl) _ _ rfl rfl rfl ?_
  rintro e w5 ⟨a5, c5, rfl, i5, n5, b5⟩
  have V5 := V0.drew.below b5 V0.lt
  refine ⟨_, rfl, hK.out _ _ ⟨hHeld.1.below b5 hHeld.1.lt, hHeld.2.1.below b5 hHeld.2.1.lt, hHeld.2.2.1.trans (b5.mono hHeld.2.2.1.size), Nat.lt_of_lt_of_le hHeld.2.2.2 b5.size⟩ (fun hHeld => ?_)⟩
  clear hK K
  try simp only [Act.put, List.setIfInBounds_toArray, List.set_cons_zero, List.set_cons_succ]
  refine wpAnyH_ready (rs := [3]) (by kernel_rfl) (by simp) ?_
  refine AllReadyH.cons (o := ({ dst := some 14, op := Op.call { callee := Callee.builtin Builtin.copy, args := #[Operand.tmp 11, Operand.tmp 13], argTypes := #[32, 32] }, type := 3, pos := _, after := #[{ on := 0, ground := Ground.data }, { on := 2, ground := Ground.data }, { on := 2, ground := Ground.chain }], guard := none } : Oper)) rfl (fun K hK => ?_) AllReadyH.nil
  refine step_cpN (by rfl) (by rfl) (by rfl) (by rfl) V5 i5 (by decide) (by have := HQ.out; omega) (by rw [payV_size, hz]; have := HQ.out; omega) HF.out ?_
  intro w6 K6 d6 but6 z6
  refine hK.out _ _ ⟨hHeld.1.but but6 hHeld.1.lt (by omega), hHeld.2.1.but but6 hHeld.2.1.lt (by omega), hHeld.2.2.1.trans (d6 _ (by omega)), by rw [z6]; exact hHeld.2.2.2⟩ (fun hHeld => ?_)
  clear hK K
  try simp only [Act.put, List.setIfInBounds_toArray, List.set_cons_zero, List.set_cons_succ]
  refine wpAnyH_take (i := 4) (oi := ({ dst := some 15, op := Op.binOp BinOp.add 3 (Operand.const (Value.int IntKind.i64 1)) (Operand.tmp 14) 3, type := 3, pos := _, after := #[{ on := 3, ground := Ground.data }], guard := none } : Oper)) (v := ?_) rfl (by kernel_rfl) (by kernel_rfl) (by kernel_rfl) (fun _ _ _ h => h) (Or.inl ⟨by rfl, ?_⟩) hHeld ?_
  rotate_left
  · (intro w hS; go_simp; try with_reducible rfl)
  try simp only [Act.put, List.setIfInBounds_toArray, List.set_cons_zero, List.set_cons_succ]
  refine wpAnyH_take (i := 5) (oi := ({ dst := some 4, op := Op.assign (Operand.tmp 15), type := 3, pos := _, after := #[{ on := 4, ground := Ground.data }, { on := 3, ground := Ground.chain }, { on := 0, ground := Ground.phase }, { on := 1, ground := Ground.phase }, { on := 2, ground := Ground.phase }, { on := 3, ground := Ground.phase }, { on := 4, ground := Ground.phase }], guard := none } : Oper)) (v := ?_) rfl (by kernel_rfl) (by kernel_rfl) (by kernel_rfl) (fun _ _ _ h => h) (Or.inl ⟨by rfl, ?_⟩) hHeld ?_
  rotate_left
  · (intro w hS; go_simp; try with_reducible rfl)
  try simp only [Act.put, List.setIfInBounds_toArray, List.set_cons_zero, List.set_cons_succ]
  refine wpAnyH_done (by kernel_rfl) ?_ _
  skip
  obtain ⟨_, R6, B6, _⟩ := hHeld
  clear K0 R0 V0 A0 V5 i5 n5 b5 d6 but6 z6 hx c0 HF HT hz
  go_wp2
  go_loopw [18, 5] (fun i j wr => ∃ k : Nat, k ≤ q ∧ i = .int .i64 k ∧ BK wr (w.heap.size + 1 + 1) (payV (fillN x (toldN o) k)) 26 ∧ BK wr (w.heap.size + 1) (payV (zer 48)) 26 ∧ Below w.heap.size w wr) (fun i _ _ => q - (intOf i).toNat)
  case atStart => exact ⟨0, by omega, rfl, K6, R6, B6⟩
  case round =>
    obtain ⟨k, hk, rfl, Kk, Rk, Bk⟩ := hrel
    clear K6 R6 B6
    by_cases hlt : k < q
    · have hg := fill_get x (toldN o) k (by have := HQ.out; omega)
      have hs := fill_set x (toldN o) k (by have := HQ.out; omega)
      rw [show (toldN o).length + 1 + k = m + k by have := HQ.out; omega] at hg hs
      have cv := Kk.payCell hg
      have fz := Kk.frozen (m + k)
      have Kn := Kk.set (m + k) (.int .u8 ((106 : UInt8).toNat : Int))
      rw [payV_set, hs] at Kn
      have Rn := Rk.setOther (p := ⟨w.heap.size + 1 + 1, m + k, none⟩) (show w.heap.size + 1 ≠ w.heap.size + 1 + 1 by omega) (.int .u8 106)
      have Bn := Bk.setCell (p := ⟨w.heap.size + 1 + 1, m + k, none⟩) (show w.heap.size ≤ w.heap.size + 1 + 1 by omega) (.int .u8 106)
      have HK : Hid (BK _ _ _ _ ∧ BK _ _ _ _ ∧ Below _ _ _) := ⟨Kn, Rn, Bn⟩
      have hb : (m : Int) + (k : Int) < 48 := by have := HQ.out; omega
      clear hg hs Kn Rn Bn Kk Rk Bk
      go_wp2
      go_roundw
      case rel => exact ⟨k + 1, by omega, by go_num, HK.out.1, HK.out.2.1, HK.out.2.2⟩
      case measure => simp [intOf]; omega
    · obtain rfl : k = q := by omega
      have HL : Hid ((fillN x (toldN o) k).length = 48) := fill_len _ _ _ (by have := HQ.out; omega)
      have HL2 : Hid ((sealN (fillN x (toldN o) k)).length = 48) := (sealN_length _).trans HL.out
      have HS := fun w => cseal_calls (fillN x (toldN o) k) HL.out w
      obtain ⟨ps, hps⟩ : ∃ ps, fillN x (toldN o) k = ps := ⟨_, rfl⟩
      rw [hps] at Kk HL HL2
      simp only [hps] at HS
      have HPS : Hid (fillN x (toldN o) k = ps) := hps
      clear hps
      go_wp2_with ((with_reducible show wpList _ _ _ (Oper.mk _ (Op.load 26 _) _ _ _ _ :: _) _ _; refine wpList_ld rfl rfl rfl (run_ld24 _ _ _ _ (by assumption) (by first | exact HL.out | exact HM.out | assumption | (simp only [zer, List.length_replicate]; done))) ?_; (try simp only [Act.put, List.setIfInBounds_toArray, List.set_cons_zero, List.set_cons_succ, World.size_alloc])))
      refine (HS _).mono ?_
      rintro e w7 ⟨rfl, b7⟩
      have R7 := Rk.below b7 Rk.lt
      have B7 : Below w.heap.size w w7 := Bk.trans (b7.mono Bk.size)
      have HL : Hid ((sealN ps).length = 48) := HL2
      go_wp2_with ((with_reducible show wpList _ _ _ (Oper.mk _ (Op.store 26 _ _) _ _ _ _ :: _) _ _; refine wpList_st rfl rfl rfl rfl (by assumption) (pay_hi48 (by first | exact HL.out | exact HM.out | assumption | (simp only [zer, List.length_replicate]; done))) (pay_same (n := 48) (by first | exact HL.out | exact HM.out | assumption | (simp only [zer, List.length_replicate]; done)) (by first | exact HL.out | exact HM.out | assumption | (simp only [zer, List.length_replicate]; done))) (payV_one _) ?_); intro w8 K8 b8 but8 z8)
      refine bodyPost_ret (v := .agg (payV (sealN ps))) (results_cell_row Try.results21 _ _ _ _ _ _ _ rfl K8 Try.underlying26 rfl (pay_hi48 HL.out)) rfl ⟨by rw [HPS.out], ?_⟩
      exact B7.trans (b8 _ (by omega))
theorem fill_lay (o : Om) (x : UInt8) (hx : x = UInt8.ofNat (16 + o.k.toNat)) (h : (toldN o).length ≤ 45) : fillN x (toldN o) (46 - ((toldN o).length + 1)) = layN o := by
  subst hx
  unfold fillN layN bodyN headN
  rw [show 46 - ((toldN o).length + 1) = 45 - (toldN o).length by omega, show 47 - (toldN o).length - (45 - (toldN o).length) = 2 by omega]
  rfl
theorem lay_calls (o : Om) (h : o.Ok) (hk : isK o.k = true) (w : World) : Calls Try.prog 21 #[.agg (omV o)] w fun e w' => e = .returned (.agg (payV (payN o))) ∧ Below w.heap.size w w' := by
  have hl := told_len h
  have e1 : o.k = 0 ∨ o.k = 1 → (toldN o).length = 17 := by
    intro hk
    unfold toldN; rw [if_neg (by omega), if_neg (by omega)]; simp [h.p]
  rcases isK_iff.1 hk with h0 | h0 | h0 | h0
  · have := lay_walk o h 0 h0 16 17 18 (by decide) (e1 (.inl h0)) rfl (by decide) (fun w => told_one o h (.inl h0) w) w
    have e := fill_lay o 16 (by rw [h0]; rfl) (by omega)
    rw [e1 (.inl h0)] at e
    rw [e] at this
    exact this
  · have := lay_walk o h 1 h0 17 17 18 (by decide) (e1 (.inr h0)) rfl (by decide) (fun w => told_one o h (.inr h0) w) w
    have e := fill_lay o 17 (by rw [h0]; rfl) (by omega)
    rw [e1 (.inr h0)] at e
    rw [e] at this
    exact this
  · have e2 : toldN o = [] := by unfold toldN; rw [if_neg (by omega), if_pos h0]
    have := lay_walk o h 4 h0 20 0 1 (by decide) (by rw [e2]; rfl) rfl (by decide) (fun w => (told_check o h0 w).mono (by rintro e w' ⟨rfl, b⟩; exact ⟨none, 0, rfl, by rw [e2]; exact ⟨rfl, .inl rfl⟩, fun _ => rfl, b⟩)) w
    have e := fill_lay o 20 (by rw [h0]; rfl) (by omega)
    rw [show (toldN o).length = 0 by rw [e2]; rfl] at e
    rw [e] at this
    exact this
  · have e2 : (toldN o).length = 37 := by unfold toldN; rw [if_pos h0]; simp [be4, h.p, h.s]
    have := lay_walk o h 8 h0 24 37 38 (by decide) e2 rfl (by decide) (fun w => told_loop o h h0 w) w
    have e := fill_lay o 24 (by rw [h0]; rfl) (by omega)
    rw [e2] at e
    rw [e] at this
    exact this
end Go.Proofs.Ytpjlcmdidhdbcaa
