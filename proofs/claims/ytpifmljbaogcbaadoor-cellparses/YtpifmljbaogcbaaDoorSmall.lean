/- Proved here: what the small functions of package hec answer: what is counted, what a receiver tells of itself, what stands ahead of the check. Conditions: as each theorem states them. -/
import Derived.Test.YtpifmljbaogcbaaDoorBut
namespace Go.Proofs.YtpifmljbaogcbaaDoor
open Go.RowKit

set_option maxHeartbeats 400000 in
theorem drop_calls (r p d : Nat) (c : Bool) (w : World) (h : RC w r p d c) (hd : d < 1000000) :
    Calls Tryd.prog 49 #[.pointer (some ⟨r, 0, none⟩)] w fun e w' => e = .returned (.tuple #[]) ∧ RC w' r p (d + 1) c ∧ But r w.heap.size w w' := by
  obtain ⟨c0, c1, c2, f0, f1, f2⟩ := h.facts
  have e1 : ((d + 1 : Nat) : Int) = (d : Int) + 1 := by omega
  have hC := h.drop (d + 1)
  rw [e1] at hC
  clear e1
  go_enter Tryd.func49, Tryd.ntmps49
  go_wp2
  exact bodyPost_end (v := .tuple #[]) (by simp [results, Tryd.results49, go_sem]) rfl ⟨rfl, hC, (But.refl r _ w).set rfl _⟩

set_option maxHeartbeats 400000 in
theorem repair_calls (r p d : Nat) (c : Bool) (w : World) (h : RC w r p d c) (hp : p < 1000000) :
    Calls Tryd.prog 50 #[.pointer (some ⟨r, 0, none⟩)] w fun e w' => e = .returned (.tuple #[]) ∧ RC w' r (p + 1) d c ∧ But r w.heap.size w w' := by
  obtain ⟨c0, c1, c2, f0, f1, f2⟩ := h.facts
  have e1 : ((p + 1 : Nat) : Int) = (p : Int) + 1 := by omega
  have hC := h.rep (p + 1)
  rw [e1] at hC
  clear e1
  go_enter Tryd.func50, Tryd.ntmps50
  go_wp2
  exact bodyPost_end (v := .tuple #[]) (by simp [results, Tryd.results50, go_sem]) rfl ⟨rfl, hC, (But.refl r _ w).set rfl _⟩

set_option maxHeartbeats 400000 in
theorem careful_calls (r p d : Nat) (c : Bool) (w : World) (h : RC w r p d c) : Calls Tryd.prog 22 #[.pointer (some ⟨r, 0, none⟩)] w fun e w' => e = .returned (.bool c) ∧ w' = w := by
  obtain ⟨c0, c1, c2, f0, f1, f2⟩ := h.facts
  go_enter Tryd.func22, Tryd.ntmps22
  go_wp2
  go_ret
  exact ⟨rfl, rfl⟩
set_option maxHeartbeats 400000 in
theorem repaired_calls (r p d : Nat) (c : Bool) (w : World) (h : RC w r p d c) : Calls Tryd.prog 23 #[.pointer (some ⟨r, 0, none⟩)] w fun e w' => e = .returned (.int .i64 (p : Nat)) ∧ w' = w := by
  obtain ⟨c0, c1, c2, f0, f1, f2⟩ := h.facts
  go_enter Tryd.func23, Tryd.ntmps23
  go_wp2
  go_ret
  exact ⟨rfl, rfl⟩
set_option maxHeartbeats 400000 in
theorem dropped_calls (r p d : Nat) (c : Bool) (w : World) (h : RC w r p d c) : Calls Tryd.prog 24 #[.pointer (some ⟨r, 0, none⟩)] w fun e w' => e = .returned (.int .i64 (d : Nat)) ∧ w' = w := by
  obtain ⟨c0, c1, c2, f0, f1, f2⟩ := h.facts
  go_enter Tryd.func24, Tryd.ntmps24
  go_wp2
  go_ret
  exact ⟨rfl, rfl⟩

set_option maxHeartbeats 400000 in
theorem careful_nil (w : World) : Calls Tryd.prog 22 #[.pointer none] w fun e w' => e = .returned (.bool false) ∧ w' = w := by
  go_enter Tryd.func22, Tryd.ntmps22
  go_wp2
  go_ret
  exact ⟨rfl, rfl⟩
set_option maxHeartbeats 400000 in
theorem repaired_nil (w : World) : Calls Tryd.prog 23 #[.pointer none] w fun e w' => e = .returned (.int .i64 0) ∧ w' = w := by
  go_enter Tryd.func23, Tryd.ntmps23
  go_wp2
  go_ret
  exact ⟨rfl, rfl⟩
set_option maxHeartbeats 400000 in
theorem dropped_nil (w : World) : Calls Tryd.prog 24 #[.pointer none] w fun e w' => e = .returned (.int .i64 0) ∧ w' = w := by
  go_enter Tryd.func24, Tryd.ntmps24
  go_wp2
  go_ret
  exact ⟨rfl, rfl⟩
set_option maxHeartbeats 400000 in
theorem take_nil (x0 x1 x2 x3 x4 : Int) (w : World) : Calls Tryd.prog 37 #[.pointer none, .agg #[.int .u8 x0, .int .u8 x1, .int .u8 x2, .int .u8 x3, .int .u8 x4]] w fun e w' =>
    e = .returned (.tuple #[.agg #[.int .u8 0, .int .u8 0, .int .u8 0, .int .u8 0], .bool false]) ∧ Below w.heap.size w w' := by
  go_enter Tryd.func37, Tryd.ntmps37
  go_wp2
  refine bodyPost_ret (v := .tuple #[.agg #[.int .u8 0, .int .u8 0, .int .u8 0, .int .u8 0], .bool false]) (by simp [results, Tryd.results37, go_sem]) rfl ⟨rfl, ?_⟩
  go_grown

set_option maxHeartbeats 400000 in
theorem ahead_calls (x0 x1 x2 x3 x4 : Int) (w : World) : Calls Tryd.prog 47 #[.agg #[.int .u8 x0, .int .u8 x1, .int .u8 x2, .int .u8 x3, .int .u8 x4]] w fun e w' =>
    e = .returned (.agg #[.int .u8 x0, .int .u8 x1, .int .u8 x2, .int .u8 x3]) ∧ Below w.heap.size w w' := by
  go_enter Tryd.func47, Tryd.ntmps47
  go_wp2
  refine bodyPost_ret (v := .agg #[.int .u8 x0, .int .u8 x1, .int .u8 x2, .int .u8 x3]) (by simp [results, Tryd.results47, go_sem]) rfl ⟨rfl, ?_⟩
  go_grown
end Go.Proofs.YtpifmljbaogcbaaDoor
