/- Proved here: the walk of CellSeals. Conditions: as each theorem states them. -/
import Derived.Test.YtpifmljbaogcbaaDoorCBase
import Derived.Test.YtpifmljbaogcbaaDoorMathD
namespace Go.Proofs.YtpifmljbaogcbaaDoor
set_option linter.unusedSimpArgs false
set_option linter.unusedVariables false
open Go.RowKit
open H (Tab same_calls)

theorem shift_bit16 (y i : Nat) (hy : y < 65536) : bits .and .u16 ((y : Int) / 2 ^ i) 1 = bv (y.testBit i) := by
  have e : (y : Int) / 2 ^ i = ((y / 2 ^ i : Nat) : Int) := by simp
  have hlt : y / 2 ^ i < 65536 := Nat.lt_of_le_of_lt (Nat.div_le_self _ _) hy
  have h := u16_and_nat (y / 2 ^ i) 1 hlt (by decide)
  rw [e]
  refine (show bits .and .u16 ((y / 2 ^ i : Nat) : Int) 1 = _ from h).trans ?_
  rw [Nat.and_one_is_mod, Nat.testBit_eq_decide_div_mod_eq, bv]
  rcases Nat.mod_two_eq_zero_or_one (y / 2 ^ i) with h | h <;> simp [h]

/-- Bytes in a block of the call's own, read as an array of 48. -/
theorem run_ldO (w : World) (base g cap : Nat) (ps : List UInt8) (h : OwnB base w (some ⟨g, 0, none⟩) 48 cap ps) :
    (Instr.loadAt 24 (.pointer (some ⟨g, 0, none⟩))).run Tryd.prog w = .ok (.agg (payV ps)) w := by
  have hl : 48 = ps.length := h.1
  refine run_loadAt_mid w g 0 24 (vals ps) _ (fun j v hv => ?_) Tryd.underlying24 rfl (by rw [size24, vals_length, hl])
  obtain ⟨x, hx, rfl⟩ := vals_get hv
  obtain ⟨b', off', e, _, hc⟩ := h.isB.1.cell hx
  cases e
  exact hc j x hx

set_option maxRecDepth 20000 in
set_option maxHeartbeats 8000000 in
theorem seals_walk (ps : List UInt8) (hp : ps.length = 48) (t y : Nat) (ht : t < 65536) (hy : y < 65536) (w : World) (tab : Tab w) :
    Calls Tryd.prog 6 #[.agg (payV ps), .int .u16 t, .int .u16 y] w fun e w' => e = .returned (.bool true) ∧ Below w.heap.size w w' := by
  have HL : Hid (ps.length = 48) := hp
  obtain ⟨ss, hss⟩ : ∃ ss, sealN ps = ss := ⟨_, rfl⟩
  have hsl : ss.length = 48 := by rw [← hss, sealN_length, hp]
  have HM : Hid (ss.length = 48) := hsl
  have HS : Hid (sealN ps = ss) := hss
  have h2 : sealN ss = ss := by rw [← hss]; exact seal_twice ps hp
  have H2 : Hid (sealN ss = ss) := h2
  have HD : Hid (decide (sealN ss = ss) = true) := decide_eq_true h2
  obtain ⟨hf, u46, v46, hu, hv, huv⟩ := seal_front ps hp
  rw [hss] at hf hv
  have HF : Hid ((ss.take 46 == ps.take 46) = true) := by rw [Hid, hf]; simp
  have hq : (v46.toNat : Int) / 4 = (u46.toNat : Int) / 4 := by omega
  have hne := fun w => neq24 ss ss hsl hsl w
  simp only [decide_true, Bool.not_true] at hne
  obtain ⟨p, hpp⟩ : ∃ p, t % 384 = p := ⟨_, rfl⟩
  have p384 : p < 384 := by omega
  have tp : (t : Int) % 384 = (p : Int) := by omega
  have HB : Hid (decide (sealN (burstTo ss p y 10) = burstTo ss p y 10) = !changedTo 48 p y 10) := by
    have := sealed_burst ps hp p y
    rw [hss] at this
    rw [Hid]
    cases hc : changedTo 48 p y 10 with
    | true => rw [hc] at this; exact decide_eq_false (fun e => by have := this.1 e; cases this)
    | false => exact decide_eq_true (this.2 hc)
  have P0 := bk_new w (payV ps) 24
  have A0 : Below w.heap.size w (w.alloc (.cells (payV ps) 24)) := (Below.refl _ w).alloc (Nat.le_refl _) _
  clear hss h2 hf huv hpp hp
  go_enter Tryd.func6, Tryd.ntmps6
  go_wp2_with fail
  refine (awake_calls _ (tab.below A0 tab.1)).mono ?_
  rintro e w1 ⟨rfl, b1⟩
  have P1 := P0.below b1 P0.lt
  have B1 := A0.trans (b1.mono A0.size)
  clear P0 A0 b1
  go_wp2_with (first | (with_reducible show wpList _ _ _ (Oper.mk _ (Op.load 24 _) _ _ _ _ :: _) _ _; refine wpList_ld rfl rfl rfl (run_ld24 _ _ _ _ (by assumption) (by first | exact HL.out | exact HM.out)) ?_; (try simp only [Act.put, List.setIfInBounds_toArray, List.set_cons_zero, List.set_cons_succ, World.size_alloc])))
  refine (cseal_calls ps HL.out _).mono ?_
  rintro e w2 ⟨rfl, b2⟩
  rw [HS.out]
  have P2 := P1.below b2 P1.lt
  have B2 := B1.trans (b2.mono B1.size)
  clear P1 B1 b2
  go_wp2_with (first | ((with_reducible show wpList _ _ _ (Oper.mk _ (Op.alloc 24) _ _ _ _ :: Oper.mk _ (Op.store 24 _ _) _ _ _ _ :: _) _ _; refine wpList_defL rfl rfl rfl rfl rfl zero24 (by rw [size24, payV_size]; (try simp only [Option.some.injEq, zer, List.length_replicate]) <;> first | rfl | (have := HL.out; omega) | (have := HM.out; omega)) (by first | rfl | (simp only [payV_size]; done) | (rw [payV_size, payV_size]; (try simp only [zer, List.length_replicate]) <;> first | rfl | (have := HL.out; omega) | (have := HM.out; omega) | (have := HL.out; have := HM.out; omega))) (payV_one _) rfl ?_); intro W3 S3 A3 z3; have P3 := P2.below A3 P2.lt; clear P2; try simp only [Act.put, List.setIfInBounds_toArray, List.set_cons_zero, List.set_cons_succ]) | fail)
  have B3 := B2.trans (A3.mono B2.size)
  have k46 := S3.payCell hv
  have j46 := P3.payCell hu
  have IS := (S3.pay).take 46 (by rw [hsl]; decide)
  have IP := (P3.pay).take 46 (by have := HL.out; omega)
  clear B2 hsl
  refine wp_region_held_drew (S := (fun w' => Below W3.heap.size W3 w')) (by kernel_rfl) (Below.refl _ W3).drew (fun hHeld => ?_)
  refine wpAnyH_take (i := 0) (oi := ({ dst := some 16, op := Op.load 24 (Operand.tmp 7), type := 24, pos := _, after := #[], guard := none } : Oper))  rfl (by kernel_rfl) (by kernel_rfl) (by kernel_rfl) (fun _ _ _ h => h) (yields_ld rfl rfl rfl (fun w hS => run_ld24 w _ _ _ (S3.below hS S3.lt) HM.out)) hHeld ?_
  try simp only [Act.put, List.setIfInBounds_toArray, List.set_cons_zero, List.set_cons_succ]
  refine wpAnyH_ready (rs := [1]) (by kernel_rfl) (by simp) ?_
  refine AllReadyH.cons (o := ({ dst := some 17, op := Op.call { callee := Callee.value (Operand.func 19), args := #[Operand.tmp 16], argTypes := #[24] }, type := 4, pos := _, after := #[{ on := 0, ground := Ground.data }], guard := none } : Oper)) rfl (fun K hK => ?_) AllReadyH.nil
  refine step_call (sealed_calls ss HM.out _) (enters_of Tryd.func19 (by kernel_rfl) rfl) _ _ rfl rfl rfl ?_
  rintro e w4 ⟨rfl, b4⟩
  rw [HD.out]
  refine ⟨_, rfl, hK.out _ _ (hHeld.trans (b4.mono hHeld.size)) (fun hHeld => ?_)⟩
  clear hK K
  try simp only [Act.put, List.setIfInBounds_toArray, List.set_cons_zero, List.set_cons_succ]
  refine wpAnyH_take (i := 2) (oi := ({ dst := some 18, op := Op.unOp UnOp.not 4 (Operand.tmp 17), type := 4, pos := _, after := #[{ on := 1, ground := Ground.data }], guard := none } : Oper)) (v := ?_) rfl (by kernel_rfl) (by kernel_rfl) (by kernel_rfl) (fun _ _ _ h => h) (Or.inl ⟨by rfl, ?_⟩) hHeld ?_
  rotate_left
  · (intro w hS; go_simp; try with_reducible rfl)
  try simp only [Act.put, List.setIfInBounds_toArray, List.set_cons_zero, List.set_cons_succ]
  refine wpAnyH_take (i := 3) (oi := ({ dst := some 19, op := Op.move (Operand.tmp 18), type := 4, pos := _, after := #[{ on := 2, ground := Ground.data }, { on := 1, ground := Ground.chain }], guard := none } : Oper)) (v := ?_) rfl (by kernel_rfl) (by kernel_rfl) (by kernel_rfl) (fun _ _ _ h => h) (Or.inl ⟨by rfl, ?_⟩) hHeld ?_
  rotate_left
  · (intro w hS; go_simp; try with_reducible rfl)
  try simp only [Act.put, List.setIfInBounds_toArray, List.set_cons_zero, List.set_cons_succ]
  refine wpAnyH_take (i := 4) (oi := ({ dst := some 20, op := Op.load 24 (Operand.tmp 7), type := 24, pos := _, after := #[{ on := 3, ground := Ground.guard }], guard := some (3, false) } : Oper))  rfl (by kernel_rfl) (by kernel_rfl) (by kernel_rfl) (fun _ _ _ h => h) (yields_ld rfl rfl rfl (fun w hS => run_ld24 w _ _ _ (S3.below hS S3.lt) HM.out)) hHeld ?_
  try simp only [Act.put, List.setIfInBounds_toArray, List.set_cons_zero, List.set_cons_succ]
  refine wpAnyH_take (i := 6) (oi := ({ dst := some 22, op := Op.load 24 (Operand.tmp 7), type := 24, pos := _, after := #[{ on := 3, ground := Ground.guard }], guard := some (3, false) } : Oper))  rfl (by kernel_rfl) (by kernel_rfl) (by kernel_rfl) (fun _ _ _ h => h) (yields_ld rfl rfl rfl (fun w hS => run_ld24 w _ _ _ (S3.below hS S3.lt) HM.out)) hHeld ?_
  try simp only [Act.put, List.setIfInBounds_toArray, List.set_cons_zero, List.set_cons_succ]
  refine wpAnyH_ready (rs := [5]) (by kernel_rfl) (by simp) ?_
  refine AllReadyH.cons (o := ({ dst := some 21, op := Op.call { callee := Callee.value (Operand.func 13), args := #[Operand.tmp 20], argTypes := #[24] }, type := 24, pos := _, after := #[{ on := 4, ground := Ground.data }, { on := 3, ground := Ground.chain }, { on := 3, ground := Ground.guard }], guard := some (3, false) } : Oper)) rfl (fun K hK => ?_) AllReadyH.nil
  refine step_call (cseal_calls ss HM.out _) (enters_of Tryd.func13 (by kernel_rfl) rfl) _ _ rfl rfl rfl ?_
  rintro e w5 ⟨rfl, b5⟩
  rw [H2.out]
  refine ⟨_, rfl, hK.out _ _ (hHeld.trans (b5.mono hHeld.size)) (fun hHeld => ?_)⟩
  clear hK K
  try simp only [Act.put, List.setIfInBounds_toArray, List.set_cons_zero, List.set_cons_succ]
  refine wpAnyH_take (i := 7) (oi := ({ dst := some 23, op := Op.binOp BinOp.neq 24 (Operand.tmp 21) (Operand.tmp 22) 24, type := 4, pos := _, after := #[{ on := 5, ground := Ground.data }, { on := 6, ground := Ground.data }, { on := 3, ground := Ground.guard }], guard := some (3, false) } : Oper)) (v := ?_) rfl (by kernel_rfl) (by kernel_rfl) (by kernel_rfl) (fun _ _ _ h => h) (Or.inl ⟨by rfl, ?_⟩) hHeld ?_
  rotate_left
  · (intro w hS; go_simp; try with_reducible rfl)
  try simp only [Act.put, List.setIfInBounds_toArray, List.set_cons_zero, List.set_cons_succ]
  refine wpAnyH_take (i := 8) (oi := ({ dst := some 24, op := Op.pick (Operand.tmp 19) (Operand.const (Value.bool true)) (Operand.tmp 23), type := 4, pos := _, after := #[{ on := 3, ground := Ground.data }, { on := 7, ground := Ground.data }], guard := none } : Oper)) (v := ?_) rfl (by kernel_rfl) (by kernel_rfl) (by kernel_rfl) (fun _ _ _ h => h) (Or.inl ⟨by rfl, ?_⟩) hHeld ?_
  rotate_left
  · (intro w hS; go_simp; try with_reducible rfl)
  try simp only [Act.put, List.setIfInBounds_toArray, List.set_cons_zero, List.set_cons_succ]
  refine wpAnyH_take (i := 9) (oi := ({ dst := some 25, op := Op.move (Operand.tmp 24), type := 4, pos := _, after := #[{ on := 8, ground := Ground.data }, { on := 5, ground := Ground.chain }], guard := none } : Oper)) (v := ?_) rfl (by kernel_rfl) (by kernel_rfl) (by kernel_rfl) (fun _ _ _ h => h) (Or.inl ⟨by rfl, ?_⟩) hHeld ?_
  rotate_left
  · (intro w hS; go_simp; try with_reducible rfl)
  try simp only [Act.put, List.setIfInBounds_toArray, List.set_cons_zero, List.set_cons_succ]
  refine wpAnyH_take (i := 10) (oi := ({ dst := some 26, op := Op.slice 24 (Operand.tmp 7) none (some (Operand.const (Value.int IntKind.i64 46))) none, type := 28, pos := _, after := #[{ on := 9, ground := Ground.guard }], guard := some (9, false) } : Oper)) (v := ?_) rfl (by kernel_rfl) (by kernel_rfl) (by kernel_rfl) (fun _ _ _ h => h) (Or.inl ⟨by rfl, ?_⟩) hHeld ?_
  rotate_left
  · (intro w hS; go_simp; try with_reducible rfl)
  try simp only [Act.put, List.setIfInBounds_toArray, List.set_cons_zero, List.set_cons_succ]
  refine wpAnyH_take (i := 11) (oi := ({ dst := some 27, op := Op.slice 24 (Operand.tmp 3) none (some (Operand.const (Value.int IntKind.i64 46))) none, type := 28, pos := _, after := #[{ on := 9, ground := Ground.guard }], guard := some (9, false) } : Oper)) (v := ?_) rfl (by kernel_rfl) (by kernel_rfl) (by kernel_rfl) (fun _ _ _ h => h) (Or.inl ⟨by rfl, ?_⟩) hHeld ?_
  rotate_left
  · (intro w hS; go_simp; try with_reducible rfl)
  try simp only [Act.put, List.setIfInBounds_toArray, List.set_cons_zero, List.set_cons_succ]
  refine wpAnyH_ready (rs := [12]) (by kernel_rfl) (by simp) ?_
  refine AllReadyH.cons (o := ({ dst := some 28, op := Op.call { callee := Callee.value (Operand.func 15), args := #[Operand.tmp 26, Operand.tmp 27], argTypes := #[28, 28] }, type := 4, pos := _, after := #[{ on := 10, ground := Ground.data }, { on := 11, ground := Ground.data }, { on := 9, ground := Ground.chain }, { on := 9, ground := Ground.guard }], guard := some (9, false) } : Oper)) rfl (fun K hK => ?_) AllReadyH.nil
  refine step_call (same_calls _ _ _ _ _ _ _ _ _ (IS.below hHeld (Nat.le_refl _)) (IP.below hHeld (Nat.le_refl _)) hHeld.size hHeld.size (by decide)) (enters_of Tryd.func15 (by kernel_rfl) rfl) _ _ rfl rfl rfl ?_
  rintro e w6 ⟨rfl, b6⟩
  rw [HF.out]
  refine ⟨_, rfl, hK.out _ _ (hHeld.trans (b6.mono hHeld.size)) (fun hHeld => ?_)⟩
  clear hK K
  try simp only [Act.put, List.setIfInBounds_toArray, List.set_cons_zero, List.set_cons_succ]
  refine wpAnyH_take (i := 13) (oi := ({ dst := some 29, op := Op.unOp UnOp.not 4 (Operand.tmp 28), type := 4, pos := _, after := #[{ on := 12, ground := Ground.data }, { on := 9, ground := Ground.guard }], guard := some (9, false) } : Oper)) (v := ?_) rfl (by kernel_rfl) (by kernel_rfl) (by kernel_rfl) (fun _ _ _ h => h) (Or.inl ⟨by rfl, ?_⟩) hHeld ?_
  rotate_left
  · (intro w hS; go_simp; try with_reducible rfl)
  try simp only [Act.put, List.setIfInBounds_toArray, List.set_cons_zero, List.set_cons_succ]
  refine wpAnyH_take (i := 14) (oi := ({ dst := some 30, op := Op.pick (Operand.tmp 25) (Operand.const (Value.bool true)) (Operand.tmp 29), type := 4, pos := _, after := #[{ on := 9, ground := Ground.data }, { on := 13, ground := Ground.data }], guard := none } : Oper)) (v := ?_) rfl (by kernel_rfl) (by kernel_rfl) (by kernel_rfl) (fun _ _ _ h => h) (Or.inl ⟨by rfl, ?_⟩) hHeld ?_
  rotate_left
  · (intro w hS; go_simp; try with_reducible rfl)
  try simp only [Act.put, List.setIfInBounds_toArray, List.set_cons_zero, List.set_cons_succ]
  refine wpAnyH_take (i := 15) (oi := ({ dst := some 31, op := Op.move (Operand.tmp 30), type := 4, pos := _, after := #[{ on := 14, ground := Ground.data }, { on := 12, ground := Ground.chain }], guard := none } : Oper)) (v := ?_) rfl (by kernel_rfl) (by kernel_rfl) (by kernel_rfl) (fun _ _ _ h => h) (Or.inl ⟨by rfl, ?_⟩) hHeld ?_
  rotate_left
  · (intro w hS; go_simp; try with_reducible rfl)
  try simp only [Act.put, List.setIfInBounds_toArray, List.set_cons_zero, List.set_cons_succ]
  refine wpAnyH_take (i := 16) (oi := ({ dst := some 32, op := Op.indexAddr 24 (Operand.tmp 7) (Operand.const (Value.int IntKind.i64 46)), type := 0, pos := _, after := #[{ on := 15, ground := Ground.guard }], guard := some (15, false) } : Oper)) (v := ?_) rfl (by kernel_rfl) (by kernel_rfl) (by kernel_rfl) (fun _ _ _ h => h) (Or.inl ⟨by rfl, ?_⟩) hHeld ?_
  rotate_left
  · (intro w hS; go_simp; try with_reducible rfl)
  try simp only [Act.put, List.setIfInBounds_toArray, List.set_cons_zero, List.set_cons_succ]
  refine wpAnyH_take (i := 17) (oi := ({ dst := some 33, op := Op.load 5 (Operand.tmp 32), type := 5, pos := _, after := #[{ on := 16, ground := Ground.data }, { on := 15, ground := Ground.guard }], guard := some (15, false) } : Oper))  rfl (by kernel_rfl) (by kernel_rfl) (by kernel_rfl) (fun _ _ _ h => h) (yields_ld rfl rfl rfl (fun w hS => run_ldX w _ _ _ _ _ Tryd.underlying5 ((S3.below hS S3.lt).payCell hv))) hHeld ?_
  try simp only [Act.put, List.setIfInBounds_toArray, List.set_cons_zero, List.set_cons_succ]
  refine wpAnyH_take (i := 18) (oi := ({ dst := some 34, op := Op.binOp BinOp.quo 5 (Operand.tmp 33) (Operand.const (Value.int IntKind.u8 4)) 5, type := 5, pos := _, after := #[{ on := 17, ground := Ground.data }, { on := 15, ground := Ground.guard }], guard := some (15, false) } : Oper)) (v := ?_) rfl (by kernel_rfl) (by kernel_rfl) (by kernel_rfl) (fun _ _ _ h => h) (Or.inl ⟨by rfl, ?_⟩) hHeld ?_
  rotate_left
  · (intro w hS; go_simp; try with_reducible rfl)
  try simp only [Act.put, List.setIfInBounds_toArray, List.set_cons_zero, List.set_cons_succ]
  refine wpAnyH_take (i := 19) (oi := ({ dst := some 35, op := Op.indexAddr 24 (Operand.tmp 3) (Operand.const (Value.int IntKind.i64 46)), type := 0, pos := _, after := #[{ on := 15, ground := Ground.guard }], guard := some (15, false) } : Oper)) (v := ?_) rfl (by kernel_rfl) (by kernel_rfl) (by kernel_rfl) (fun _ _ _ h => h) (Or.inl ⟨by rfl, ?_⟩) hHeld ?_
  rotate_left
  · (intro w hS; go_simp; try with_reducible rfl)
  try simp only [Act.put, List.setIfInBounds_toArray, List.set_cons_zero, List.set_cons_succ]
  refine wpAnyH_take (i := 20) (oi := ({ dst := some 36, op := Op.load 5 (Operand.tmp 35), type := 5, pos := _, after := #[{ on := 19, ground := Ground.data }, { on := 15, ground := Ground.guard }], guard := some (15, false) } : Oper))  rfl (by kernel_rfl) (by kernel_rfl) (by kernel_rfl) (fun _ _ _ h => h) (yields_ld rfl rfl rfl (fun w hS => run_ldX w _ _ _ _ _ Tryd.underlying5 ((P3.below hS P3.lt).payCell hu))) hHeld ?_
  try simp only [Act.put, List.setIfInBounds_toArray, List.set_cons_zero, List.set_cons_succ]
  refine wpAnyH_take (i := 21) (oi := ({ dst := some 37, op := Op.binOp BinOp.quo 5 (Operand.tmp 36) (Operand.const (Value.int IntKind.u8 4)) 5, type := 5, pos := _, after := #[{ on := 20, ground := Ground.data }, { on := 15, ground := Ground.guard }], guard := some (15, false) } : Oper)) (v := ?_) rfl (by kernel_rfl) (by kernel_rfl) (by kernel_rfl) (fun _ _ _ h => h) (Or.inl ⟨by rfl, ?_⟩) hHeld ?_
  rotate_left
  · (intro w hS; go_simp; try with_reducible rfl)
  try simp only [Act.put, List.setIfInBounds_toArray, List.set_cons_zero, List.set_cons_succ]
  refine wpAnyH_take (i := 22) (oi := ({ dst := some 38, op := Op.binOp BinOp.neq 5 (Operand.tmp 34) (Operand.tmp 37) 5, type := 4, pos := _, after := #[{ on := 18, ground := Ground.data }, { on := 21, ground := Ground.data }, { on := 15, ground := Ground.guard }], guard := some (15, false) } : Oper)) (v := ?_) rfl (by kernel_rfl) (by kernel_rfl) (by kernel_rfl) (fun _ _ _ h => h) (Or.inl ⟨by rfl, ?_⟩) hHeld ?_
  rotate_left
  · (intro w hS; go_simp; try with_reducible rfl)
  try simp only [Act.put, List.setIfInBounds_toArray, List.set_cons_zero, List.set_cons_succ]
  refine wpAnyH_take (i := 23) (oi := ({ dst := some 39, op := Op.pick (Operand.tmp 31) (Operand.const (Value.bool true)) (Operand.tmp 38), type := 4, pos := _, after := #[{ on := 15, ground := Ground.data }, { on := 22, ground := Ground.data }], guard := none } : Oper)) (v := ?_) rfl (by kernel_rfl) (by kernel_rfl) (by kernel_rfl) (fun _ _ _ h => h) (Or.inl ⟨by rfl, ?_⟩) hHeld ?_
  rotate_left
  · (intro w hS; go_simp; try with_reducible rfl)
  try simp only [Act.put, List.setIfInBounds_toArray, List.set_cons_zero, List.set_cons_succ]
  refine wpAnyH_done (by kernel_rfl) ?_ _
  have S6 := S3.below hHeld S3.lt
  have B6 := B3.trans (hHeld.mono B3.size)
  have I6 := S6.pay
  rw [HM.out] at I6
  have b7 := (Below.refl w6.heap.size w6).alloc (Nat.le_refl _) (.cells #[] 5)
  obtain ⟨a8, c8, w8, hap8, o8, b8⟩ := run_app (w6.alloc (.cells #[] 5)) w6.heap.size 28 _ 0 0 _ (ownB_new w6.heap.size w6 (Nat.le_refl _)) (some ⟨w2.heap.size, 0, none⟩) 48 48 ss (I6.below b7 (Nat.le_refl _)) (by intro h; cases h) (by decide) b7.size
  simp only [Nat.reduceAdd, List.nil_append] at hap8 o8
  have B8 : Below w.heap.size w w8 := B6.trans ((b7.trans b8).mono B6.size)
  have O8 := o8.mono B6.size
  clear k46 j46 IS IP hHeld S3 P3 A3 z3 B3 b4 b5 b6 b7 b8 o8 I6 S6 B6 hq hne
  go_wp2_with (at_builtin; refine wpList_app hap8 _ _ rfl rfl rfl rfl rfl ?_)
  clear hap8
  have lx : ss.length = 48 := HM.out
  go_loopw [8, 9, 43] (fun ov cv iv wr => ∃ i : Nat, ∃ a' c', i ≤ 10 ∧ iv = .int .i64 i ∧ cv = .bool (changedTo 48 p y i) ∧ ov = .slice a' 48 c' ∧ OwnB w.heap.size wr a' 48 c' (burstTo ss p y i) ∧ Below w.heap.size w wr) (fun _ _ iv _ => 10 - (intOf iv).toNat)
  case atStart => exact ⟨0, a8, c8, Nat.zero_le _, rfl, rfl, rfl, O8, B8⟩
  case round =>
    obtain ⟨i, a', c', hi, rfl, rfl, rfl, oi, bi⟩ := hrel
    clear O8 B8
    by_cases hlt : i < 10
    · have hbit := shift_bit16 y i hy
      by_cases hb : y.testBit i = true
      · rw [hb] at hbit
        have hbit1 : bits .and .u16 ((y : Int) / 2 ^ i) 1 = 1 := hbit
        clear hbit
        by_cases hk : p + i < 384
        · have hh : hit 48 p y i = true := by simp [hit, hb, hk]
          have EC : Hid (changedTo 48 p y (i + 1) = true) := by rw [Hid]; simp [changedTo, hh]
          have EB : Hid (burstTo ss p y (i + 1) = flipN (burstTo ss p y i) (p + i)) := by rw [Hid, burstTo, lx, if_pos hh]
          have hk' : (p : Int) + (i : Int) < 384 := by omega
          clear hh hb hk
          go_wp2_with fail
          have e1 : (p : Int) + (i : Int) = ((p + i : Nat) : Int) := by simp
          rw [e1]
          refine (flip_calls _ _ _ _ _ oi.isB.1 (Nat.le_refl _) oi.isB.2.1 (by decide) (p + i) (by omega)).mono ?_
          rintro e w9 ⟨a9, c9, rfl, o9, b9⟩
          rw [← e1]
          clear e1
          go_wp2
          go_roundw
          case rel => exact ⟨i + 1, a9, c9, by omega, by go_num, by rw [EC.out], rfl, by rw [EB.out]; exact o9.mono bi.size, bi.trans (b9.mono bi.size)⟩
          case measure => simp [intOf]; omega
        · have hh : hit 48 p y i = false := by simp [hit, hb]; omega
          have EC : Hid (changedTo 48 p y (i + 1) = changedTo 48 p y i) := by rw [Hid]; simp [changedTo, hh]
          have EB : Hid (burstTo ss p y (i + 1) = burstTo ss p y i) := by rw [Hid, burstTo, lx, if_neg (by rw [hh]; decide)]
          have hk' : (384 : Int) ≤ (p : Int) + (i : Int) := by omega
          clear hh hb hk
          go_wp2
          go_roundw
          case rel => exact ⟨i + 1, a', c', by omega, by go_num, by rw [EC.out], rfl, by rw [EB.out]; exact oi, bi⟩
          case measure => simp [intOf]; omega
      · have hb' : y.testBit i = false := by simpa using hb
        rw [hb'] at hbit
        have hbit1 : bits .and .u16 ((y : Int) / 2 ^ i) 1 = 0 := hbit
        clear hbit
        have hh : hit 48 p y i = false := by simp [hit, hb']
        have EC : Hid (changedTo 48 p y (i + 1) = changedTo 48 p y i) := by rw [Hid]; simp [changedTo, hh]
        have EB : Hid (burstTo ss p y (i + 1) = burstTo ss p y i) := by rw [Hid, burstTo, lx, if_neg (by rw [hh]; decide)]
        clear hh hb hb'
        go_wp2
        go_roundw
        case rel => exact ⟨i + 1, a', c', by omega, by go_num, by rw [EC.out], rfl, by rw [EB.out]; exact oi, bi⟩
        case measure => simp [intOf]; omega
    · obtain rfl : i = 10 := by omega
      obtain ⟨gg, cur, rfl, _, _, _⟩ := oi.block (by decide)
      have HR := run_ldO _ _ _ _ _ oi
      have art := fun (w : World) (a : Option Addr) (cap : Nat) => run_arrayAt (P := Tryd.prog) (w := w) 24 5 48 a 48 cap Tryd.underlying24 (Nat.le_refl _)
      have hbl : (burstTo ss p y 10).length = 48 := by rw [burst_length, lx]
      have HQ : Hid ((burstTo ss p y 10).length = 48) := hbl
      clear hbl
      generalize burstTo ss p y 10 = bb at *
      generalize changedTo 48 p y 10 = ch at *
      go_wp2_with (first | (with_reducible show wpList _ _ _ (Oper.mk _ (Op.load 24 _) _ _ _ _ :: _) _ _; refine wpList_ld rfl rfl rfl HR ?_; try simp only [Act.put, List.setIfInBounds_toArray, List.set_cons_zero, List.set_cons_succ]) | fail)
      refine (sealed_calls bb HQ.out _).mono ?_
      rintro e w9 ⟨rfl, b9⟩
      rw [HB.out]
      go_wp2
      go_ret
      exact ⟨ret_bool (by cases ch <;> rfl), bi.trans (b9.mono bi.size)⟩
end Go.Proofs.YtpifmljbaogcbaaDoor
