/- Proved here: what element.ReadTraffic answers. Conditions: as each theorem states them. -/
import Derived.Deep.DeepCutAuto
import Derived.Test.YtbjeljmnknibnaaDoorSt
import Derived.Test.YtbjeljmnknibnaaDoorRc
namespace Go.Proofs.YtbjeljmnknibnaaDoor
set_option linter.unusedSimpArgs false
set_option linter.unusedVariables false
set_option maxRecDepth 20000
open Go.RowKit Go.Shelf

/-- A span that 31 bytes tell. -/
def sp (zs : List UInt8) (j : Nat) : Nat := numN ((zs.drop (1 + 6 * j)).take 6)
def kd (zs : List UInt8) : Nat := (zs.headD 0).toNat
def spE (zs : List UInt8) : Int := errN (kd zs) (sp zs 0) (sp zs 1) (sp zs 2) (sp zs 3) (sp zs 4)
/-- The error; the contract that one tells. -/
def rtE (x : El) : Int := if x.id ≠ 89 then 12 else if x.body.length ≠ 31 then 5 else spE x.body
def spC (zs : List UInt8) : Array Value := cC (kd zs) (sp zs 0) (sp zs 1) (sp zs 2) (sp zs 3) (sp zs 4)
def rtC (x : El) : Array Value := if rtE x = 0 then spC x.body else cC 0 0 0 0 0 0
theorem rtC_no {x : El} {E : Int} (h : rtE x = E) (h0 : E ≠ 0) : rtC x = cC 0 0 0 0 0 0 := by unfold rtC; rw [if_neg (by rw [h]; exact h0)]
theorem rtC_yes {x : El} (h : rtE x = 0) : rtC x = spC x.body := by unfold rtC; rw [if_pos h]

def rd (j i s : Nat) : Int := if i < j then (s : Int) else 0
def rdV (k s0 s1 s2 s3 s4 j : Nat) : Array Value := cC k (rd j 0 s0) (rd j 1 s1) (rd j 2 s2) (rd j 3 s3) (rd j 4 s4)
theorem rdV_set (k s0 s1 s2 s3 s4 j : Nat) (hj : j < 5) : ∃ v : Nat, [s0, s1, s2, s3, s4][j]? = some v ∧ (rdV k s0 s1 s2 s3 s4 j).setIfInBounds (j + 1) (.int .i64 v) = rdV k s0 s1 s2 s3 s4 (j + 1) ∧ ∃ old : Int, (rdV k s0 s1 s2 s3 s4 j)[j + 1]? = some (.int .i64 old) := by
  have h : j = 0 ∨ j = 1 ∨ j = 2 ∨ j = 3 ∨ j = 4 := by omega
  rcases h with rfl | rfl | rfl | rfl | rfl
  · exact ⟨s0, rfl, rfl, _, rfl⟩
  · exact ⟨s1, rfl, rfl, _, rfl⟩
  · exact ⟨s2, rfl, rfl, _, rfl⟩
  · exact ⟨s3, rfl, rfl, _, rfl⟩
  · exact ⟨s4, rfl, rfl, _, rfl⟩
theorem rdV_done (k s0 s1 s2 s3 s4 : Nat) : rdV k s0 s1 s2 s3 s4 5 = cC k s0 s1 s2 s3 s4 := rfl
theorem rdV_none (k s0 s1 s2 s3 s4 : Nat) : rdV k s0 s1 s2 s3 s4 0 = cC k 0 0 0 0 0 := rfl
theorem sp_list (zs : List UInt8) (j : Nat) (hj : j < 5) : [sp zs 0, sp zs 1, sp zs 2, sp zs 3, sp zs 4][j]? = some (sp zs j) := by
  have h : j = 0 ∨ j = 1 ∨ j = 2 ∨ j = 3 ∨ j = 4 := by omega
  rcases h with rfl | rfl | rfl | rfl | rfl <;> rfl

set_option maxHeartbeats 4000000 in
theorem rt_calls (x : El) (a : Option Addr) (l c : Nat) (w : World) {n : Nat} (hI : IsB n w a l x.body) (hn : n ≤ w.heap.size) (hlc : l ≤ c) : Calls Tryd.prog 39 #[ieV x.id a l c] w fun e w' => e = .returned (.tuple #[.agg (rtC x), .int .i64 (rtE x)]) ∧ Below w.heap.size w w' := by
  have A0 : Below w.heap.size w ((w.alloc (.cells #[.int .u8 (x.id.toNat : Int), .slice a l c] 60)).alloc (.cells (cC 0 0 0 0 0 0) 41)) := ((Below.refl _ w).alloc (Nat.le_refl _) _).alloc (by simp) _
  have K0 : BK ((w.alloc (.cells #[.int .u8 (x.id.toNat : Int), .slice a l c] 60)).alloc (.cells (cC 0 0 0 0 0 0) 41)) w.heap.size #[.int .u8 (x.id.toNat : Int), .slice a l c] 60 := (ie_box (w := w) (x := x) (a := a) (l := l) (c := c)).alloc _
  have R0 : BK ((w.alloc (.cells #[.int .u8 (x.id.toNat : Int), .slice a l c] 60)).alloc (.cells (cC 0 0 0 0 0 0) 41)) (w.heap.size + 1) (cC 0 0 0 0 0 0) 41 := by
    have := bk_new (w.alloc (.cells #[.int .u8 (x.id.toNat : Int), .slice a l c] 60)) (cC 0 0 0 0 0 0) 41
    rwa [World.size_alloc] at this
  have HW := wrong_calls x a l c hI.1 89 31 ((w.alloc (.cells #[.int .u8 (x.id.toNat : Int), .slice a l c] 60)).alloc (.cells (cC 0 0 0 0 0 0) 41))
  by_cases hw0 : wrongN x 89 31 = 0
  · have h1 : x.id = 89 := by
      by_cases h : x.id = 89
      · exact h
      · unfold wrongN at hw0; rw [if_pos h] at hw0; cases hw0
    have h2 : x.body.length = 31 := by
      by_cases h : x.body.length = 31
      · exact h
      · unfold wrongN at hw0; rw [if_neg (by simpa using h1), if_pos h] at hw0; cases hw0
    rw [hw0] at HW
    have hE : rtE x = spE x.body := by unfold rtE; rw [if_neg (by simpa using h1), if_neg (by simpa using h2)]
    have hcy : rtE x = 0 → rtC x = spC x.body := rtC_yes
    have hcn : rtE x ≠ 0 → rtC x = cC 0 0 0 0 0 0 := rtC_no rfl
    obtain ⟨zs, hzs⟩ : ∃ zs, x.body = zs := ⟨_, rfl⟩
    rw [hzs] at hI hE hcy h2
    obtain ⟨rE, hrE⟩ : ∃ z, rtE x = z := ⟨_, rfl⟩
    obtain ⟨rC, hrC⟩ : ∃ z, rtC x = z := ⟨_, rfl⟩
    rw [hrE] at hE hcy hcn ⊢
    rw [hrC] at hcy hcn ⊢
    obtain rfl : l = 31 := hI.1.trans h2
    obtain ⟨i0, hi0⟩ : ∃ y, zs[0]? = some y := ⟨zs[0]'(by omega), by rw [List.getElem?_eq_getElem]⟩
    have hk : kd zs = i0.toNat := by
      unfold kd
      cases zs with
      | nil => cases hi0
      | cons y zs => simp at hi0; subst hi0; rfl
    obtain ⟨b, off, rfl, hb, hc⟩ := hI.cell hi0
    have J1 : IsB n w (some ⟨b, off + 1, none⟩) 30 (zs.drop 1) := by
      have h3 := hI
      rw [← List.take_append_drop 1 zs] at h3
      have h4 := h3.dropA
      have e1 : (zs.take 1).length = 1 := by rw [List.length_take]; omega
      have e2 : (zs.drop 1).length = 30 := by rw [List.length_drop]; omega
      rw [e1, e2] at h4
      exact h4
    have d0 := hc 0 i0 hi0
    rw [Nat.add_zero] at d0
    have D0 : Hid (∀ w', Below w.heap.size w w' → w'.cell? ⟨b, off, none⟩ = some (.int .u8 (i0.toNat : Int))) := fun w' h => (h.cell (p := ⟨b, off, none⟩) (by show b < _; omega)).trans d0
    have H2 : Hid (zs.length = 31) := h2
    have HK : Hid (kd zs = i0.toNat) := hk
    have wi : IntKind.i64.wrap (i0.toNat : Int) = (i0.toNat : Int) := by have := i0.toNat_lt; rw [IntKind.wrap_i64]; omega
    have hE' : Hid (rE = spE zs) := hE
    have hcy' : Hid (rE = 0 → rC = spC zs) := hcy
    have hcn' : Hid (rE ≠ 0 → rC = cC 0 0 0 0 0 0) := hcn
    have hc1 : ¬ c = 1 := by omega
    clear hI hc d0 h2 hw0 h1 hi0 hk hzs hrE hrC hE hcy hcn
    go_enter Tryd.func39, Tryd.ntmps39
    go_wp2_with (with_reducible show wpList _ _ _ (Oper.mk _ (Op.load 60 _) _ _ _ _ :: _) _ _; refine wpList_ld rfl rfl rfl (run_ldI (by with_reducible assumption)) ?_; (try simp only [Act.put, List.setIfInBounds_toArray, List.set_cons_zero, List.set_cons_succ, World.size_alloc]))
    refine HW.mono ?_
    rintro e w1 ⟨rfl, b1⟩
    have B1 := A0.trans (b1.mono A0.size)
    have K1 := K0.below b1 K0.lt
    have R1 := R0.below b1 R0.lt
    have e1 := K1.cell 1 _ rfl
    have e3 := D0.out w1 B1
    have kl := K1.lt
    have bl : b < w1.heap.size := by have := B1.size; omega
    clear HW A0 K0 R0 b1
    go_wp2_with fail
    have lq := R1.lt
    have Q0 := bk_new w1 (cC i0.toNat 0 0 0 0 0) 41
    have A1 : Below w1.heap.size w1 (w1.alloc (.cells (cC i0.toNat 0 0 0 0 0) 41)) := (Below.refl _ w1).alloc (Nat.le_refl _) _
    refine (spans_calls w1.heap.size _).mono ?_
    rintro e w2 ⟨rfl, b2⟩
    have Q2 := Q0.below b2 Q0.lt
    have R2 := (R1.below A1 R1.lt).below b2 (R1.below A1 R1.lt).lt
    have B2 := (B1.trans (A1.mono B1.size)).trans (b2.mono (B1.trans (A1.mono B1.size)).size)
    have HR : ∀ w', Calls Tryd.prog 62 #[.agg (cC i0.toNat (sp zs 0) (sp zs 1) (sp zs 2) (sp zs 3) (sp zs 4))] w' fun x W' => x = .returned (.int .i64 rE) ∧ Below w'.heap.size w' W' := by
      intro w'
      rw [hE'.out]
      unfold spE
      rw [HK.out]
      exact right_calls _ _ _ _ _ _ w'
    clear Q0 A1 R1 B1 b2 K1 e1 e3 kl bl wi D0
    go_wp2
    go_loopw [6, 26] (fun lv iv wr => ∃ (j o6 lr c6 : Nat), j ≤ 5 ∧ iv = .int .i64 j ∧ lv = .slice (some ⟨b, o6, none⟩) lr c6 ∧ IsB n w (some ⟨b, o6, none⟩) lr (zs.drop (1 + 6 * j)) ∧ Hid (lr = 30 - 6 * j) ∧ lr ≤ c6 ∧ BK wr w1.heap.size (rdV i0.toNat (sp zs 0) (sp zs 1) (sp zs 2) (sp zs 3) (sp zs 4) j) 41 ∧ BK wr (w.heap.size + 1) (cC 0 0 0 0 0 0) 41 ∧ Below w.heap.size w wr) (fun _ iv _ => 5 - (intOf iv).toNat)
    case atStart => exact ⟨0, off + 1, 30, c - 1, by omega, rfl, rfl, J1, rfl, by omega, Q2, R2, B2⟩
    case round =>
      obtain ⟨j, o6, lr, c6, hj, rfl, rfl, I6, HL, hlc6, Q3, R3, B3⟩ := hrel
      by_cases hlt : j < 5
      · obtain ⟨v, hv, hset, old, hold⟩ := rdV_set i0.toNat (sp zs 0) (sp zs 1) (sp zs 2) (sp zs 3) (sp zs 4) j hlt
        rw [sp_list zs j hlt] at hv
        have hvs : sp zs j = v := Option.some.inj hv
        have hlr6 : 6 ≤ lr := by have := HL.out; omega
        have hT : IsB n w (some ⟨b, o6, none⟩) 6 ((zs.drop (1 + 6 * j)).take 6) := I6.take 6 (by have := I6.1; omega)
        have hN : Hid (∀ w', Below w.heap.size w w' → Calls Tryd.prog 61 #[.slice (some ⟨b, o6, none⟩) 6 c6] w' fun e w'' => e = .returned (.int .i64 v) ∧ Below w'.heap.size w' w'') := by
          show ∀ w', _ → _
          intro w' hb'
          have := number_calls (some ⟨b, o6, none⟩) 6 c6 _ w' (hT.below hb' hn) (Nat.le_trans hn hb'.size) (by decide)
          rw [show numN ((zs.drop (1 + 6 * j)).take 6) = v from hvs] at this
          exact this
        obtain ⟨o9, ho9, I9⟩ : ∃ o9, (if c6 = 6 then some (⟨b, o6, none⟩ : Addr) else some ⟨b, o6 + 6, none⟩) = some ⟨b, o9, none⟩ ∧ IsB n w (some ⟨b, o9, none⟩) (lr - 6) (zs.drop (1 + 6 * (j + 1))) := by
          have el : (zs.drop (1 + 6 * (j + 1))).length = lr - 6 := by rw [List.length_drop, H2.out, HL.out]; omega
          by_cases h6 : c6 = 6
          · refine ⟨o6, by rw [if_pos h6], ⟨el.symm, .inl (List.eq_nil_of_length_eq_zero (by omega))⟩⟩
          · refine ⟨o6 + 6, by rw [if_neg h6], ?_⟩
            have h3 := I6
            rw [← List.take_append_drop 6 (zs.drop (1 + 6 * j))] at h3
            have h4 := h3.dropA
            have e1 : ((zs.drop (1 + 6 * j)).take 6).length = 6 := by rw [List.length_take]; have := I6.1; omega
            rw [e1, List.drop_drop, show 1 + 6 * j + 6 = 1 + 6 * (j + 1) by omega, el] at h4
            exact h4
        have HL9 : Hid (lr - 6 = 30 - 6 * (j + 1)) := by show _ = _; have := HL.out; omega
        have HS : Hid ((rdV i0.toNat (sp zs 0) (sp zs 1) (sp zs 2) (sp zs 3) (sp zs 4) j).setIfInBounds (j + 1) (.int .i64 v) = rdV i0.toNat (sp zs 0) (sp zs 1) (sp zs 2) (sp zs 3) (sp zs 4) (j + 1)) := hset
        have HO : Hid ((rdV i0.toNat (sp zs 0) (sp zs 1) (sp zs 2) (sp zs 3) (sp zs 4) j)[j + 1]? = some (.int .i64 old)) := hold
        have hidx := span_index w1.heap.size j hlt
        have g1 : (6 : Int) ≤ (c6 : Int) := by omega
        have g2 : (6 : Int) ≤ (lr : Int) := by omega
        generalize rdV i0.toNat (sp zs 0) (sp zs 1) (sp zs 2) (sp zs 3) (sp zs 4) j = V at *
        clear hv hvs hT hset hold I6 HL Q2 R2 B2
        go_wp2
        refine wp_region_held_drew (S := (fun w' => BK w' (w.heap.size + 1) (cC 0 0 0 0 0 0) 41 ∧ Below w.heap.size w w')) (by kernel_rfl) ⟨R3.drew, B3.drew⟩ (fun hHeld => ?_)
        refine wpAnyH_take (i := 0) (oi := ({ dst := some 29, op := Op.move (Operand.tmp 8), type := 100, pos := _, after := #[], guard := none } : Oper)) (v := ?_) rfl (by kernel_rfl) (by kernel_rfl) (by kernel_rfl) (fun _ _ _ h => h) (Or.inl ⟨by rfl, ?_⟩) hHeld ?_
        rotate_left
        · (intro w hS; go_simp; try with_reducible rfl)
        try simp only [Act.put, List.setIfInBounds_toArray, List.set_cons_zero, List.set_cons_succ]
        refine wpAnyH_take (i := 1) (oi := ({ dst := some 30, op := Op.move (Operand.tmp 6), type := 25, pos := _, after := #[], guard := none } : Oper)) (v := ?_) rfl (by kernel_rfl) (by kernel_rfl) (by kernel_rfl) (fun _ _ _ h => h) (Or.inl ⟨by rfl, ?_⟩) hHeld ?_
        rotate_left
        · (intro w hS; go_simp; try with_reducible rfl)
        try simp only [Act.put, List.setIfInBounds_toArray, List.set_cons_zero, List.set_cons_succ]
        refine wpAnyH_take (i := 2) (oi := ({ dst := some 31, op := Op.slice 25 (Operand.tmp 30) none (some (Operand.const (Value.int IntKind.i64 6))) none, type := 25, pos := _, after := #[{ on := 1, ground := Ground.data }], guard := none } : Oper)) (v := ?_) rfl (by kernel_rfl) (by kernel_rfl) (by kernel_rfl) (fun _ _ _ h => h) (Or.inl ⟨by rfl, ?_⟩) hHeld ?_
        rotate_left
        · (intro w hS; go_simp; try with_reducible rfl)
        try simp only [Act.put, List.setIfInBounds_toArray, List.set_cons_zero, List.set_cons_succ]
        refine wpAnyH_take (i := 4) (oi := ({ dst := some 33, op := Op.move (Operand.tmp 6), type := 25, pos := _, after := #[], guard := none } : Oper)) (v := ?_) rfl (by kernel_rfl) (by kernel_rfl) (by kernel_rfl) (fun _ _ _ h => h) (Or.inl ⟨by rfl, ?_⟩) hHeld ?_
        rotate_left
        · (intro w hS; go_simp; try with_reducible rfl)
        try simp only [Act.put, List.setIfInBounds_toArray, List.set_cons_zero, List.set_cons_succ]
        refine wpAnyH_take (i := 5) (oi := ({ dst := some 34, op := Op.slice 25 (Operand.tmp 33) (some (Operand.const (Value.int IntKind.i64 6))) none none, type := 25, pos := _, after := #[{ on := 4, ground := Ground.data }], guard := none } : Oper)) (v := ?_) rfl (by kernel_rfl) (by kernel_rfl) (by kernel_rfl) (fun _ _ _ h => h) (Or.inl ⟨by rfl, ?_⟩) hHeld ?_
        rotate_left
        · (intro w hS; go_simp; try with_reducible rfl)
        try simp only [Act.put, List.setIfInBounds_toArray, List.set_cons_zero, List.set_cons_succ]
        refine wpAnyH_ready (rs := [3]) (by kernel_rfl) (by simp) ?_
        refine AllReadyH.cons (o := ({ dst := some 32, op := Op.call { callee := Callee.value (Operand.func 61), args := #[Operand.tmp 31], argTypes := #[25] }, type := 3, pos := _, after := #[{ on := 2, ground := Ground.data }], guard := none } : Oper)) rfl (fun K hK => ?_) AllReadyH.nil
        refine step_call (hN.out _ hHeld.2) (enters_of Tryd.func61 (by kernel_rfl) rfl) _ _ rfl rfl rfl ?_
        rintro e v1 ⟨rfl, d1⟩
        have Q4 := Q3.drew.below d1 Q3.lt
        have f1 := Q4.cell (j + 1) _ HO.out
        have f2 := Q4.frozen (j + 1)
        have f3 := Q4.lt
        refine ⟨_, rfl, hK.out _ _ ⟨hHeld.1.below d1 hHeld.1.lt, hHeld.2.trans (d1.mono hHeld.2.size)⟩ (fun hHeld => ?_)⟩
        clear hK K
        try simp only [Act.put, List.setIfInBounds_toArray, List.set_cons_zero, List.set_cons_succ]
        refine wpAnyH_take (i := 6) (oi := ({ dst := some 35, op := Op.nilCheck (Operand.tmp 29), type := 0, pos := _, after := #[{ on := 0, ground := Ground.data }, { on := 0, ground := Ground.phase }, { on := 1, ground := Ground.phase }, { on := 2, ground := Ground.phase }, { on := 3, ground := Ground.phase }, { on := 4, ground := Ground.textOnly Departure.lateStores }, { on := 5, ground := Ground.textOnly Departure.lateStoresUnsure }], guard := none } : Oper)) (v := ?_) rfl (by kernel_rfl) (by kernel_rfl) (by kernel_rfl) (fun _ _ _ h => h) (Or.inl ⟨by rfl, ?_⟩) hHeld ?_
        rotate_left
        · (intro w hS; go_simp; try with_reducible rfl)
        try simp only [Act.put, List.setIfInBounds_toArray, List.set_cons_zero, List.set_cons_succ]
        refine wpAnyH_ready (rs := [7]) (by kernel_rfl) (by simp) ?_
        refine AllReadyH.cons (o := ({ dst := none, op := Op.store 3 (Operand.tmp 35) (Operand.tmp 32), type := 0, pos := _, after := #[{ on := 6, ground := Ground.data }, { on := 3, ground := Ground.data }, { on := 3, ground := Ground.chain }, { on := 0, ground := Ground.phase }, { on := 1, ground := Ground.phase }, { on := 2, ground := Ground.phase }, { on := 3, ground := Ground.phase }, { on := 4, ground := Ground.textOnly Departure.lateStores }, { on := 5, ground := Ground.textOnly Departure.lateStoresUnsure }], guard := none } : Oper)) rfl (fun K hK => ?_) AllReadyH.nil
        go_simp
        have Q5 := Q4.set (j + 1) (.int .i64 v)
        refine hK.out _ _ ⟨hHeld.1.setOther (p := ⟨w1.heap.size, j + 1, none⟩) (by show _ ≠ w1.heap.size; omega) _, hHeld.2.setCell (p := ⟨w1.heap.size, j + 1, none⟩) (by show w.heap.size ≤ w1.heap.size; omega) _⟩ (fun hHeld => ?_)
        clear hK K
        try simp only [Act.put, List.setIfInBounds_toArray, List.set_cons_zero, List.set_cons_succ]
        refine wpAnyH_take (i := 8) (oi := ({ dst := some 6, op := Op.assign (Operand.tmp 34), type := 25, pos := _, after := #[{ on := 5, ground := Ground.data }, { on := 7, ground := Ground.chain }, { on := 0, ground := Ground.phase }, { on := 1, ground := Ground.phase }, { on := 2, ground := Ground.phase }, { on := 3, ground := Ground.phase }, { on := 4, ground := Ground.phase }, { on := 5, ground := Ground.phase }, { on := 6, ground := Ground.phase }, { on := 7, ground := Ground.phase }], guard := none } : Oper)) (v := ?_) rfl (by kernel_rfl) (by kernel_rfl) (by kernel_rfl) (fun _ _ _ h => h) (Or.inl ⟨by rfl, ?_⟩) hHeld ?_
        rotate_left
        · (intro w hS; go_simp; try with_reducible rfl)
        try simp only [Act.put, List.setIfInBounds_toArray, List.set_cons_zero, List.set_cons_succ]
        refine wpAnyH_done (by kernel_rfl) ?_ _
        skip
        rw [HS.out] at Q5
        clear Q4 Q3 f1 f2 f3 d1 R3 B3 hidx hN HO HS
        go_wp2
        go_roundw
        case rel => exact ⟨j + 1, o9, lr - 6, c6 - 6, by omega, by go_num, rfl, I9, HL9.out, by omega, Q5, hHeld.1, hHeld.2⟩
        case measure => simp [intOf]; omega
      · obtain rfl : j = 5 := by omega
        rw [rdV_done] at Q3
        have Y5 := Q3
        have R5 := R3
        have B5 := B3
        clear Q3 R3 B3 Q2 R2 B2 I6 HL J1
        by_cases hz : rE = 0
        · have hrc := hcy'.out hz
          subst hz
          have HX : Hid (rC = cC i0.toNat (sp zs 0) (sp zs 1) (sp zs 2) (sp zs 3) (sp zs 4)) := by
            show _ = _
            rw [hrc]
            unfold spC
            rw [HK.out]
          clear hrc hcy' hcn' hE'
          go_wp2_with (with_reducible show wpList _ _ _ (Oper.mk _ (Op.load 41 _) _ _ _ _ :: _) _ _; refine wpList_ld rfl rfl rfl (run_ldC (by with_reducible assumption)) ?_; (try simp only [Act.put, List.setIfInBounds_toArray, List.set_cons_zero, List.set_cons_succ, World.size_alloc]))
          refine (HR _).mono ?_
          rintro e w6 ⟨rfl, b6⟩
          have R6 := R5.below b6 R5.lt
          have Y6 := Y5.below b6 Y5.lt
          have B6 := B5.trans (b6.mono B5.size)
          clear HR R5 Y5 B5 b6
          go_wp2_with (first | (with_reducible show wpList _ _ _ (Oper.mk _ (Op.load 41 _) _ _ _ _ :: _) _ _; refine wpList_ld rfl rfl rfl (run_ldC (by with_reducible assumption)) ?_; (try simp only [Act.put, List.setIfInBounds_toArray, List.set_cons_zero, List.set_cons_succ, World.size_alloc])) | (with_reducible show wpList _ _ _ (Oper.mk _ (Op.store 41 _ _) _ _ _ _ :: _) _ _; refine stop_here ?_))
          refine ⟨?_⟩
          refine wpList_st rfl rfl rfl rfl R6 size_C rfl (by simp [Value.oneCell']) ?_
          intro w7 K7 b7 but7 z7
          go_wp2
          refine bodyPost_ret (v := .tuple #[.agg (cC i0.toNat (sp zs 0) (sp zs 1) (sp zs 2) (sp zs 3) (sp zs 4)), .int .i64 0]) (results_cell_tmp_row Tryd.results39 _ _ _ _ _ _ _ _ rfl rfl K7 Tryd.underlying41 rfl size_C) rfl ⟨by rw [HX.out], B6.trans (b7 _ (Nat.le_succ _))⟩
        · have q1 : (rE != 0) = true := by rw [bne_iff_ne]; exact hz
          have HX : Hid (rC = cC 0 0 0 0 0 0) := hcn'.out hz
          clear hcy' hcn' hE' hz
          go_wp2_with (with_reducible show wpList _ _ _ (Oper.mk _ (Op.load 41 _) _ _ _ _ :: _) _ _; refine wpList_ld rfl rfl rfl (run_ldC (by with_reducible assumption)) ?_; (try simp only [Act.put, List.setIfInBounds_toArray, List.set_cons_zero, List.set_cons_succ, World.size_alloc]))
          refine (HR _).mono ?_
          rintro e w6 ⟨rfl, b6⟩
          have R6 := R5.below b6 R5.lt
          have B6 := B5.trans (b6.mono B5.size)
          clear HR R5 Y5 B5 b6
          go_wp2_with (with_reducible show wpList _ _ _ (Oper.mk _ (Op.store 41 _ _) _ _ _ _ :: _) _ _; refine stop_here ?_)
          refine ⟨?_⟩
          refine wpList_st rfl rfl rfl rfl R6 size_C rfl (by simp [Value.oneCell']) ?_
          intro w7 K7 b7 but7 z7
          go_wp2
          refine bodyPost_ret (v := .tuple #[.agg (cC 0 0 0 0 0 0), .int .i64 rE]) (results_cell_tmp_row Tryd.results39 _ _ _ _ _ _ _ _ rfl rfl K7 Tryd.underlying41 rfl size_C) rfl ⟨by rw [HX.out], B6.trans (b7 _ (Nat.le_succ _))⟩
  · have hX : rtE x = wrongN x 89 31 := by
      by_cases h1 : x.id = 89
      · by_cases h2 : x.body.length = 31
        · exfalso; apply hw0; unfold wrongN; rw [if_neg (by simpa using h1), if_neg (by simpa using h2)]
        · unfold rtE wrongN; simp [h1, h2]
      · unfold rtE wrongN; simp [h1]
    have hC := rtC_no hX hw0
    have HX : Hid (rtE x = wrongN x 89 31 ∧ rtC x = cC 0 0 0 0 0 0) := ⟨hX, hC⟩
    generalize wrongN x 89 31 = E at *
    have q1 : (E != 0) = true := by rw [bne_iff_ne]; exact hw0
    clear hX hw0 hI hC
    go_enter Tryd.func39, Tryd.ntmps39
    go_wp2_with (with_reducible show wpList _ _ _ (Oper.mk _ (Op.load 60 _) _ _ _ _ :: _) _ _; refine wpList_ld rfl rfl rfl (run_ldI (by with_reducible assumption)) ?_; (try simp only [Act.put, List.setIfInBounds_toArray, List.set_cons_zero, List.set_cons_succ, World.size_alloc]))
    refine HW.mono ?_
    rintro e w1 ⟨rfl, b1⟩
    have B1 := A0.trans (b1.mono A0.size)
    have R1 := R0.below b1 R0.lt
    clear HW A0 K0 R0 b1
    go_wp2_with (with_reducible show wpList _ _ _ (Oper.mk _ (Op.store 41 _ _) _ _ _ _ :: _) _ _; refine stop_here ?_)
    refine ⟨?_⟩
    refine wpList_st rfl rfl rfl rfl R1 size_C rfl (by simp [Value.oneCell']) ?_
    intro w7 K7 b7 but7 z7
    go_wp2
    refine bodyPost_ret (v := .tuple #[.agg (cC 0 0 0 0 0 0), .int .i64 E]) (results_cell_tmp_row Tryd.results39 _ _ _ _ _ _ _ _ rfl rfl K7 Tryd.underlying41 rfl size_C) rfl ⟨by rw [HX.out.1, HX.out.2], B1.trans (b7 _ (Nat.le_succ _))⟩
end Go.Proofs.YtbjeljmnknibnaaDoor
