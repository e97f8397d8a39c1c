/- Proved here: what GatherBack answers where it looks at nothing. Conditions: as each theorem states them. -/
import Derived.Test.YtfmicnjijcmjaaaFS
import Derived.Test.YtfmicnjijcmjaaaLsts
namespace Go.Proofs.Ytfmicnjijcmjaaa
set_option linter.unusedSimpArgs false
set_option linter.unusedVariables false
open Go.RowKit Go.Shelf
attribute [local go_sem] Oper.semAt_some

theorem back_boxes (w : World) (a1 : Option Addr) (len cap : Nat) (mk : Int) : BX [(w.heap.size, .slice a1 len cap, 43), (w.heap.size + 1, .int .u8 mk, 5), (w.heap.size + 1 + 1, .bool false, 4)] (((w.alloc (.cells #[.slice a1 len cap] 43)).alloc (.cells #[.int .u8 mk] 5)).alloc (.cells #[.bool false] 4)) ∧ Below w.heap.size w (((w.alloc (.cells #[.slice a1 len cap] 43)).alloc (.cells #[.int .u8 mk] 5)).alloc (.cells #[.bool false] 4)) ∧ (((w.alloc (.cells #[.slice a1 len cap] 43)).alloc (.cells #[.int .u8 mk] 5)).alloc (.cells #[.bool false] 4)).heap.size = w.heap.size + 3 := by
  have k1 := bk_new (w.alloc (.cells #[.slice a1 len cap] 43)) #[.int .u8 mk] 5
  have k2 := bk_new ((w.alloc (.cells #[.slice a1 len cap] 43)).alloc (.cells #[.int .u8 mk] 5)) #[.bool false] 4
  rw [World.size_alloc] at k1
  rw [World.size_alloc, World.size_alloc] at k2
  exact ⟨BX.cons (((bk_new w #[.slice a1 len cap] 43).alloc _).alloc _) (BX.cons (k1.alloc _) (BX.cons k2 (BX.nil _))), (((Below.refl _ w).alloc (Nat.le_refl _) _).alloc (by simp) _).alloc (by simp; omega) _, by simp⟩

set_option maxHeartbeats 2000000 in
set_option maxRecDepth 20000 in
theorem back_skip (a1 : Option Addr) (len cap : Nat) (wt mk : Int) (w : World) (h : 12 < len) :
    Calls Try.prog 4 #[.slice a1 len cap, .int .u16 wt, .int .u8 mk] w fun e w' => e = .returned (.bool true) ∧ Below w.heap.size w w' := by
  obtain ⟨M0, B0, _⟩ := back_boxes w a1 len cap mk
  have d1 : decide (12 < (len : Int)) = true := by simp; omega
  clear h
  go_enter Try.func4, Try.ntmps4
  go_wp2_with fail
  generalize ((w.alloc (.cells #[.slice a1 len cap] 43)).alloc (.cells #[.int .u8 mk] 5)).alloc (.cells #[.bool false] 4) = W0 at *
  refine (awake_calls _).mono ?_
  rintro e w1 ⟨rfl, b1⟩
  have M1 := M0.below b1 (Nat.le_refl _)
  have B1 := B0.trans (b1.mono B0.size)
  have c0 := M1.get (b := w.heap.size) (v := .slice a1 len cap) (t := 43) (by simp)
  go_wp2_with fail
  refine (awake_calls _).mono ?_
  rintro e w2 ⟨rfl, b2⟩
  have kr := (M1.below b2 (Nat.le_refl _)).bk (b := w.heap.size + 1 + 1) (v := .bool false) (t := 4) (by simp)
  have B2 := B1.trans (b2.mono B1.size)
  have c2 := kr.cell 0 _ rfl
  have f2 := kr.frozen 0
  have c3 := (kr.set 0 (.bool true)).cell 0 (.bool true) rfl
  clear c0 b1 b2 B0 B1 M0 M1
  go_wp2
  refine bodyPost_ret (v := .bool true) (by simp [results, Try.results4, go_sem, c3]) rfl ?_
  exact ⟨rfl, B2.setCell (p := ⟨w.heap.size + 1 + 1, 0, none⟩) (by show w.heap.size ≤ w.heap.size + 1 + 1; omega) _⟩

theorem FI.chain {w w2 W : World} {F0 E F : Nat → Prop} {r : Nat} {S' : Ga} (hE : ∀ k, E k → ¬ F k) (k1 : Ft (fun k => F0 k ∨ E k) (fun k => F k ∨ E k) w w2) (h2 : FI w2 F (fun _ => False) r S' W) (hEl : ∀ k, E k → k < w2.heap.size) : FI w F0 E r S' W := by
  obtain ⟨F', g2, _, k2⟩ := h2.ex
  have k2' : Ft F F' w2 W := ⟨k2.os, k2.tape, k2.output, k2.size, fun k hk hF => k2.block k hk (fun e => e.elim hF id), fun k hk => by
    rcases k2.new k (.inl hk) with (e | e) | e
    · exact .inl e
    · exact e.elim
    · exact .inr e⟩
  refine ⟨F', g2, fun k hk hF => ?_, k1.trans k2'.wider⟩
  rcases k2'.new k hF with e | e
  · exact hE k hk e
  · have := hEl k hk; omega
end Go.Proofs.Ytfmicnjijcmjaaa
