/- Proved here: header.Unpack. Conditions: as each theorem states them. -/
import Derived.Test.YtpifmljbaogcbaaDoorHLift
import Derived.Deep.RegionHeld
namespace Go.Proofs.YtpifmljbaogcbaaDoor.H
open Go.RowKit

theorem lift_calls (nni : Bool) (n : Nat) (hlt : n < 4294967296) (w : World) (tab : Tab w) :
    Calls Tryd.prog 51 #[.int .u32 n, .bool nni] w fun e w' => e = .returned (.agg #[.int .i64 (dG nni n), .int .i64 (dP nni n), .int .i64 (dV n), .int .i64 (dT n), .int .i64 (dC n)]) ∧ Below w.heap.size w w' := by
  cases nni
  · exact lift_user n hlt w tab
  · exact lift_nni n hlt w tab

theorem or_bytes (y0 y1 y2 y3 : Nat) (r0 : y0 < 256) (r1 : y1 < 256) (r2 : y2 < 256) (r3 : y3 < 256) :
    bits .or .u32 (bits .or .u32 (bits .or .u32 (IntKind.u32.wrap (IntKind.u32.wrap (y0 : Int) * 16777216)) (IntKind.u32.wrap (IntKind.u32.wrap (y1 : Int) * 65536))) (IntKind.u32.wrap (IntKind.u32.wrap (y2 : Int) * 256))) (IntKind.u32.wrap (y3 : Int)) = ((y0 * 16777216 + y1 * 65536 + y2 * 256 + y3 : Nat) : Int) := by
  have w0 : IntKind.u32.wrap (IntKind.u32.wrap (y0 : Int) * 16777216) = (y0 : Int) * 16777216 % 4294967296 := by simp only [IntKind.wrap_u32]; omega
  have w1 : IntKind.u32.wrap (IntKind.u32.wrap (y1 : Int) * 65536) = (y1 : Int) * 65536 := by simp only [IntKind.wrap_u32]; omega
  have w2 : IntKind.u32.wrap (IntKind.u32.wrap (y2 : Int) * 256) = (y2 : Int) * 256 := by simp only [IntKind.wrap_u32]; omega
  have w3 : IntKind.u32.wrap (y3 : Int) = (y3 : Int) := by simp only [IntKind.wrap_u32]; omega
  have e1 := or_low (y0 : Int) ((y1 : Int) * 65536) 24 (by omega) (by omega) (by omega) (by omega) (by omega)
  have e2 := or_low ((y0 : Int) * 256 + y1) ((y2 : Int) * 256) 16 (by omega) (by omega) (by omega) (by omega) (by omega)
  have e3 := or_low (((y0 : Int) * 256 + y1) * 256 + y2) (y3 : Int) 8 (by omega) (by omega) (by omega) (by omega) (by omega)
  simp only [Int.reducePow] at e1 e2 e3
  have f1 : (y0 : Int) * 16777216 + (y1 : Int) * 65536 = ((y0 : Int) * 256 + y1) * 65536 % 4294967296 := by omega
  have f2 : ((y0 : Int) * 256 + y1) * 65536 + (y2 : Int) * 256 = (((y0 : Int) * 256 + y1) * 256 + y2) * 256 % 4294967296 := by omega
  rw [w0, w1, w2, w3, e1, f1, e2, f2, e3]
  omega

theorem res_facts (w w1 : World) (b1 : Below ((w.alloc (.cells #[.int .i64 0, .int .i64 0, .int .i64 0, .int .i64 0, .int .i64 0] 23)).drew).heap.size ((w.alloc (.cells #[.int .i64 0, .int .i64 0, .int .i64 0, .int .i64 0, .int .i64 0] 23)).drew) w1) :
    w1.cell? ⟨w.heap.size, 0, none⟩ = some (.int .i64 0) ∧ w1.cell? ⟨w.heap.size, 1, none⟩ = some (.int .i64 0) ∧ w1.cell? ⟨w.heap.size, 2, none⟩ = some (.int .i64 0) ∧ w1.cell? ⟨w.heap.size, 3, none⟩ = some (.int .i64 0) ∧ w1.cell? ⟨w.heap.size, 4, none⟩ = some (.int .i64 0) ∧
      (∀ k, w1.frozen? ⟨w.heap.size, k, none⟩ = false) ∧ w.heap.size < w1.heap.size := by
  have hc : ∀ k, w1.cell? ⟨w.heap.size, k, none⟩ = (w.alloc (.cells #[.int .i64 0, .int .i64 0, .int .i64 0, .int .i64 0, .int .i64 0] 23)).cell? ⟨w.heap.size, k, none⟩ := fun k => b1.cell (p := ⟨w.heap.size, k, none⟩) (by simp)
  have hf : ∀ k, w1.frozen? ⟨w.heap.size, k, none⟩ = (w.alloc (.cells #[.int .i64 0, .int .i64 0, .int .i64 0, .int .i64 0, .int .i64 0] 23)).frozen? ⟨w.heap.size, k, none⟩ := fun k => b1.frozen (p := ⟨w.heap.size, k, none⟩) (by simp)
  refine ⟨?_, ?_, ?_, ?_, ?_, ?_, ?_⟩
  · rw [hc]; exact cell_new_any w _ 23 (0, 0) 0 _ rfl
  · rw [hc]; exact cell_new_any w _ 23 (0, 0) 1 _ rfl
  · rw [hc]; exact cell_new_any w _ 23 (0, 0) 2 _ rfl
  · rw [hc]; exact cell_new_any w _ 23 (0, 0) 3 _ rfl
  · rw [hc]; exact cell_new_any w _ 23 (0, 0) 4 _ rfl
  · intro k; rw [hf]; exact frozen_new_any w _ 23 k
  · have := b1.size; simp at this; omega

theorem old_facts (w w1 : World) (b1 : Below ((w.alloc (.cells #[.int .i64 0, .int .i64 0, .int .i64 0, .int .i64 0, .int .i64 0] 23)).drew).heap.size ((w.alloc (.cells #[.int .i64 0, .int .i64 0, .int .i64 0, .int .i64 0, .int .i64 0] 23)).drew) w1) (b o : Nat) (hb : b < w.heap.size) :
    w1.cell? ⟨b, o, none⟩ = w.cell? ⟨b, o, none⟩ ∧ w1.cell? ⟨b, o + 1, none⟩ = w.cell? ⟨b, o + 1, none⟩ ∧ w1.cell? ⟨b, o + 2, none⟩ = w.cell? ⟨b, o + 2, none⟩ ∧ w1.cell? ⟨b, o + 3, none⟩ = w.cell? ⟨b, o + 3, none⟩ := by
  have hc : ∀ k, w1.cell? ⟨b, k, none⟩ = w.cell? ⟨b, k, none⟩ := fun k => (b1.cell (p := ⟨b, k, none⟩) (by simp; omega)).trans (((Below.refl w.heap.size w).alloc (Nat.le_refl _) _).cell (p := ⟨b, k, none⟩) hb)
  exact ⟨hc _, hc _, hc _, hc _⟩

/-- A call of a Go function by its contract, as a step of a region that draws its order. -/
theorem step_call {P : Program} {w : World} {f : FuncId} {vs : List Value} {R : Ending → World → Prop} (hc : Calls P f vs.toArray w R) (eg : ∀ args w, (callFunc f args).run P w = .ok (.enter f args) w)
    {ops : Array Oper} {o : Oper} {a : Act} {K : Act → World → Prop} {Q : Exit → Act → World → Prop} {E : Prop} (args : List Operand) (ts : Array TypeId) (hgd : Region.wanted o (yielded ops a.tmps) = true)
    (ho : o.op = .call { callee := .value (.func f), args := args.toArray, argTypes := ts }) (hvs : args.map a.eval = vs)
    (h : ∀ e w', R e w' → ∃ v, e = .returned v ∧ K (a.put o.dst v) w') : if Region.wanted o (yielded ops a.tmps) = true then Oper.wp P o a w K Q else E := by
  rw [if_pos hgd]
  unfold Oper.wp
  have e : (execOp a.eval o).run P w = .ok (.enter f vs.toArray) w := by
    simp [execOp, ho, resolve, invoke, hvs, eg, Deferred.ofValue, Act.eval]
  rw [e]
  refine Calls.mono hc fun e w' hr => ?_
  obtain ⟨v, rfl, hk⟩ := h e w' hr
  exact hk

set_option maxHeartbeats 400000 in
theorem unpack_short (nni : Bool) (a : Option Addr) (len cap : Nat) (hl : len < 4) (w : World) :
    Calls Tryd.prog 38 #[.slice a len cap, .bool nni] w fun e w' => e = .returned (.tuple #[.agg #[.int .i64 0, .int .i64 0, .int .i64 0, .int .i64 0, .int .i64 0], .int .i64 2]) ∧ Below w.heap.size w w' := by
  go_enter Tryd.func38, Tryd.ntmps38
  go_wp2
  go_returns
  exact ⟨rfl, by go_grown⟩
set_option maxHeartbeats 400000 in
theorem unpack_long (nni : Bool) (a : Option Addr) (len cap : Nat) (hl : 4 < len) (w : World) :
    Calls Tryd.prog 38 #[.slice a len cap, .bool nni] w fun e w' => e = .returned (.tuple #[.agg #[.int .i64 0, .int .i64 0, .int .i64 0, .int .i64 0, .int .i64 0], .int .i64 3]) ∧ Below w.heap.size w w' := by
  have h4 : ¬ len < 4 := by omega
  go_enter Tryd.func38, Tryd.ntmps38
  go_wp2
  go_returns
  exact ⟨rfl, by go_grown⟩

set_option maxHeartbeats 1000000 in
theorem unpack_four (nni : Bool) (a : Option Addr) (cap : Nat) (x0 x1 x2 x3 : UInt8) (w : World) {n1 : Nat} (h1 : IsB n1 w a 4 [x0, x1, x2, x3]) (hn1 : n1 ≤ w.heap.size) (tab : Tab w) :
    Calls Tryd.prog 38 #[.slice a 4 cap, .bool nni] w fun e w' => e = .returned (.tuple #[.agg #[.int .i64 (dG nni (numN x0 x1 x2 x3)), .int .i64 (dP nni (numN x0 x1 x2 x3)), .int .i64 (dV (numN x0 x1 x2 x3)), .int .i64 (dT (numN x0 x1 x2 x3)), .int .i64 (dC (numN x0 x1 x2 x3))], .int .i64 0]) ∧ Below w.heap.size w w' := by
  obtain ⟨b, o, rfl, hb, c⟩ := h1.cell (k := 0) (x := x0) rfl
  have c0 := c 0 x0 rfl
  have c1 := c 1 x1 rfl
  have c2 := c 2 x2 rfl
  have c3 := c 3 x3 rfl
  rw [Nat.add_zero] at c0
  obtain ⟨y0, hy0⟩ : ∃ y, x0.toNat = y := ⟨_, rfl⟩
  obtain ⟨y1, hy1⟩ : ∃ y, x1.toNat = y := ⟨_, rfl⟩
  obtain ⟨y2, hy2⟩ : ∃ y, x2.toNat = y := ⟨_, rfl⟩
  obtain ⟨y3, hy3⟩ : ∃ y, x3.toNat = y := ⟨_, rfl⟩
  have r0 : y0 < 256 := by rw [← hy0]; exact x0.toNat_lt
  have r1 : y1 < 256 := by rw [← hy1]; exact x1.toNat_lt
  have r2 : y2 < 256 := by rw [← hy2]; exact x2.toNat_lt
  have r3 : y3 < 256 := by rw [← hy3]; exact x3.toNat_lt
  have hn : numN x0 x1 x2 x3 = y0 * 16777216 + y1 * 65536 + y2 * 256 + y3 := by unfold numN; rw [hy0, hy1, hy2, hy3]
  obtain ⟨n, hnn⟩ : ∃ n, numN x0 x1 x2 x3 = n := ⟨_, rfl⟩
  rw [hnn] at hn ⊢
  rw [hy0] at c0
  rw [hy1] at c1
  rw [hy2] at c2
  rw [hy3] at c3
  have hlt : n < 4294967296 := by omega
  have HN : Hid (n = y0 * 16777216 + y1 * 65536 + y2 * 256 + y3) := hn
  have hbs : b < w.heap.size := by omega
  have hne : w.heap.size ≠ b := by omega
  clear hn hnn hy0 hy1 hy2 hy3 c h1
  go_enter Tryd.func38, Tryd.ntmps38
  go_wp2
  go_region_held (fun w' => w'.cell? ⟨b, o, none⟩ = some (.int .u8 (y0 : Int)) ∧ w'.cell? ⟨b, o + 1, none⟩ = some (.int .u8 (y1 : Int)) ∧ w'.cell? ⟨b, o + 2, none⟩ = some (.int .u8 (y2 : Int)) ∧ w'.cell? ⟨b, o + 3, none⟩ = some (.int .u8 (y3 : Int))) (go_keep) (first | (go_at_call 51; rw [or_bytes y0 y1 y2 y3 r0 r1 r2 r3, ← HN.out]; refine (lift_calls nni n hlt _ (tab.below (((Below.refl _ w).alloc (Nat.le_refl _) _).drew) tab.1)).mono ?_; rintro e w1 ⟨rfl, b1⟩; obtain ⟨k0, k1, k2, k3, k4, fz, z1⟩ := res_facts w w1 b1; obtain ⟨s0, s1, s2, s3⟩ := old_facts w w1 b1 b o hbs))
  go_wp2
  refine bodyPost_ret (v := .tuple #[.agg #[.int .i64 (dG nni n), .int .i64 (dP nni n), .int .i64 (dV n), .int .i64 (dT n), .int .i64 (dC n)], .int .i64 0]) (by simp [results, Tryd.results38, go_sem, *]) rfl ⟨rfl, ?_⟩
  have B1 : Below w.heap.size w w1 := (((Below.refl _ w).alloc (Nat.le_refl _) _).drew).trans (b1.mono (by simp))
  go_grown
end Go.Proofs.YtpifmljbaogcbaaDoor.H
