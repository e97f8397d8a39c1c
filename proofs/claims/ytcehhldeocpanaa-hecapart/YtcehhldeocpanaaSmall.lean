/- Proved here: what the small functions of package hec answer: what is counted, what a receiver tells of itself, what stands ahead of the check. Conditions: as each theorem states them. -/
import Derived.Test.YtcehhldeocpanaaBut
namespace Go.Proofs.Ytcehhldeocpanaa
open Go.RowKit

set_option maxHeartbeats 400000 in
theorem drop_calls (r p d : Nat) (c : Bool) (w : World) (h : RC w r p d c) (hd : d < 1000000) :
    Calls Try.prog 21 #[.pointer (some ⟨r, 0, none⟩)] w fun e w' => e = .returned (.tuple #[]) ∧ RC w' r p (d + 1) c ∧ But r w.heap.size w w' := by
  obtain ⟨c0, c1, c2, f0, f1, f2⟩ := h.facts
  have e1 : ((d + 1 : Nat) : Int) = (d : Int) + 1 := by omega
  have hC := h.drop (d + 1)
  rw [e1] at hC
  clear e1
  go_enter Try.func21, Try.ntmps21
  go_wp2
  exact bodyPost_end (v := .tuple #[]) (by simp [results, Try.results21, go_sem]) rfl ⟨rfl, hC, (But.refl r _ w).set rfl _⟩

set_option maxHeartbeats 400000 in
theorem repair_calls (r p d : Nat) (c : Bool) (w : World) (h : RC w r p d c) (hp : p < 1000000) :
    Calls Try.prog 22 #[.pointer (some ⟨r, 0, none⟩)] w fun e w' => e = .returned (.tuple #[]) ∧ RC w' r (p + 1) d c ∧ But r w.heap.size w w' := by
  obtain ⟨c0, c1, c2, f0, f1, f2⟩ := h.facts
  have e1 : ((p + 1 : Nat) : Int) = (p : Int) + 1 := by omega
  have hC := h.rep (p + 1)
  rw [e1] at hC
  clear e1
  go_enter Try.func22, Try.ntmps22
  go_wp2
  exact bodyPost_end (v := .tuple #[]) (by simp [results, Try.results22, go_sem]) rfl ⟨rfl, hC, (But.refl r _ w).set rfl _⟩

set_option maxHeartbeats 400000 in
theorem careful_calls (r p d : Nat) (c : Bool) (w : World) (h : RC w r p d c) : Calls Try.prog 13 #[.pointer (some ⟨r, 0, none⟩)] w fun e w' => e = .returned (.bool c) ∧ w' = w := by
  obtain ⟨c0, c1, c2, f0, f1, f2⟩ := h.facts
  go_enter Try.func13, Try.ntmps13
  go_wp2
  go_ret
  exact ⟨rfl, rfl⟩
set_option maxHeartbeats 400000 in
theorem repaired_calls (r p d : Nat) (c : Bool) (w : World) (h : RC w r p d c) : Calls Try.prog 14 #[.pointer (some ⟨r, 0, none⟩)] w fun e w' => e = .returned (.int .i64 (p : Nat)) ∧ w' = w := by
  obtain ⟨c0, c1, c2, f0, f1, f2⟩ := h.facts
  go_enter Try.func14, Try.ntmps14
  go_wp2
  go_ret
  exact ⟨rfl, rfl⟩
set_option maxHeartbeats 400000 in
theorem dropped_calls (r p d : Nat) (c : Bool) (w : World) (h : RC w r p d c) : Calls Try.prog 15 #[.pointer (some ⟨r, 0, none⟩)] w fun e w' => e = .returned (.int .i64 (d : Nat)) ∧ w' = w := by
  obtain ⟨c0, c1, c2, f0, f1, f2⟩ := h.facts
  go_enter Try.func15, Try.ntmps15
  go_wp2
  go_ret
  exact ⟨rfl, rfl⟩

set_option maxHeartbeats 400000 in
theorem careful_nil (w : World) : Calls Try.prog 13 #[.pointer none] w fun e w' => e = .returned (.bool false) ∧ w' = w := by
  go_enter Try.func13, Try.ntmps13
  go_wp2
  go_ret
  exact ⟨rfl, rfl⟩
set_option maxHeartbeats 400000 in
theorem repaired_nil (w : World) : Calls Try.prog 14 #[.pointer none] w fun e w' => e = .returned (.int .i64 0) ∧ w' = w := by
  go_enter Try.func14, Try.ntmps14
  go_wp2
  go_ret
  exact ⟨rfl, rfl⟩
set_option maxHeartbeats 400000 in
theorem dropped_nil (w : World) : Calls Try.prog 15 #[.pointer none] w fun e w' => e = .returned (.int .i64 0) ∧ w' = w := by
  go_enter Try.func15, Try.ntmps15
  go_wp2
  go_ret
  exact ⟨rfl, rfl⟩
set_option maxHeartbeats 400000 in
theorem take_nil (x0 x1 x2 x3 x4 : Int) (w : World) : Calls Try.prog 10 #[.pointer none, .agg #[.int .u8 x0, .int .u8 x1, .int .u8 x2, .int .u8 x3, .int .u8 x4]] w fun e w' =>
    e = .returned (.tuple #[.agg #[.int .u8 0, .int .u8 0, .int .u8 0, .int .u8 0], .bool false]) ∧ Below w.heap.size w w' := by
  go_enter Try.func10, Try.ntmps10
  go_wp2
  refine bodyPost_ret (v := .tuple #[.agg #[.int .u8 0, .int .u8 0, .int .u8 0, .int .u8 0], .bool false]) (by simp [results, Try.results10, go_sem]) rfl ⟨rfl, ?_⟩
  go_grown

set_option maxHeartbeats 400000 in
theorem ahead_calls (x0 x1 x2 x3 x4 : Int) (w : World) : Calls Try.prog 19 #[.agg #[.int .u8 x0, .int .u8 x1, .int .u8 x2, .int .u8 x3, .int .u8 x4]] w fun e w' =>
    e = .returned (.agg #[.int .u8 x0, .int .u8 x1, .int .u8 x2, .int .u8 x3]) ∧ Below w.heap.size w w' := by
  go_enter Try.func19, Try.ntmps19
  go_wp2
  refine bodyPost_ret (v := .agg #[.int .u8 x0, .int .u8 x1, .int .u8 x2, .int .u8 x3]) (by simp [results, Try.results19, go_sem]) rfl ⟨rfl, ?_⟩
  go_grown
end Go.Proofs.Ytcehhldeocpanaa
