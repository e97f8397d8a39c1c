/- Proved here: what a policer's Take answers, and what it leaves. Conditions: as each theorem states them. -/
import Derived.Test.YtlaomjhibaoglaaFill
import Derived.BigQuiet
import Derived.Deep.QuietTactic
namespace Go.Proofs.Ytlaomjhibaoglaa
set_option linter.unusedSimpArgs false
set_option linter.unusedVariables false
open Go.RowKit Go.Shelf

/-- A policer in block r: its rules in block g, whether all cells are tagged, and its counts. -/
structure PC (W : World) (r g cap : Nat) (L : List Lim) (al : Bool) (c0 c1 c2 c3 : Int) : Prop where
  own : BK W r #[.slice (some ⟨g, 0, none⟩) L.length cap, .bool al, .int .i64 c0, .int .i64 c1, .int .i64 c2, .int .i64 c3] 50
  pr : PR W r g cap L
theorem PC.facts {W : World} {r g cap : Nat} {L : List Lim} {al : Bool} {c0 c1 c2 c3 : Int} (h : PC W r g cap L al c0 c1 c2 c3) :
    W.cell? ⟨r, 1, none⟩ = some (.bool al) ∧ W.cell? ⟨r, 2, none⟩ = some (.int .i64 c0) ∧ W.cell? ⟨r, 3, none⟩ = some (.int .i64 c1) ∧ W.cell? ⟨r, 4, none⟩ = some (.int .i64 c2) ∧ W.cell? ⟨r, 5, none⟩ = some (.int .i64 c3) ∧
    W.frozen? ⟨r, 2, none⟩ = false ∧ W.frozen? ⟨r, 3, none⟩ = false ∧ W.frozen? ⟨r, 4, none⟩ = false ∧ W.frozen? ⟨r, 5, none⟩ = false :=
  ⟨h.own.cell 1 _ rfl, h.own.cell 2 _ rfl, h.own.cell 3 _ rfl, h.own.cell 4 _ rfl, h.own.cell 5 _ rfl, h.own.frozen 2, h.own.frozen 3, h.own.frozen 4, h.own.frozen 5⟩
theorem PR.set {r g cap : Nat} {L : List Lim} {w : World} (h : PR w r g cap L) (k : Nat) (hk : k ≠ 0) (v : Value) : PR (w.setCell ⟨r, k, none⟩ v) r g cap L := by
  have hb : ∀ b, b ≠ r → (w.setCell ⟨r, k, none⟩ v).heap[b]? = w.heap[b]? := fun b hb => Below.heap_setCell _ _ _ _ hb
  have hc : ∀ b j, b ≠ r → (w.setCell ⟨r, k, none⟩ v).cell? ⟨b, j, none⟩ = w.cell? ⟨b, j, none⟩ := fun b j h' => by unfold World.cell?; rw [show (w.setCell ⟨r, k, none⟩ v).heap[(⟨b, j, none⟩ : Addr).block]? = w.heap[b]? from hb b h']
  refine ⟨(World.cell?_setCell_other w ⟨r, k, none⟩ ⟨r, 0, none⟩ _ (by simp [hk])).trans h.sl, by simpa using h.rlt, by simpa using h.glt, fun j x hx => ?_, h.len, h.gr, h.ne, h.nd, fun x hx => ⟨(hb x.b (h.ne x hx).2).trans (h.bk x hx).1, (h.bk x hx).2⟩⟩
  obtain ⟨a1, a2, a3⟩ := h.lim j x hx
  exact ⟨(hc _ _ h.gr).trans a1, (hc _ _ h.gr).trans a2, (hc _ _ h.gr).trans a3⟩
theorem PR.drew {r g cap : Nat} {L : List Lim} {w : World} (h : PR w r g cap L) : PR w.drew r g cap L := ⟨h.sl, h.rlt, h.glt, h.lim, h.len, h.gr, h.ne, h.nd, h.bk⟩
theorem PC.drew {W : World} {r g cap : Nat} {L : List Lim} {al : Bool} {c0 c1 c2 c3 : Int} (h : PC W r g cap L al c0 c1 c2 c3) : PC W.drew r g cap L al c0 c1 c2 c3 := ⟨h.own, h.pr.drew⟩
theorem PC.all {W : World} {r g cap : Nat} {L : List Lim} {al : Bool} {c0 c1 c2 c3 : Int} (h : PC W r g cap L al c0 c1 c2 c3) (c : Int) : PC (W.setCell ⟨r, 2, none⟩ (.int .i64 c)) r g cap L al c c1 c2 c3 := ⟨h.own.set 2 _, h.pr.set 2 (by omega) _⟩
theorem PC.pas {W : World} {r g cap : Nat} {L : List Lim} {al : Bool} {c0 c1 c2 c3 : Int} (h : PC W r g cap L al c0 c1 c2 c3) (c : Int) : PC (W.setCell ⟨r, 3, none⟩ (.int .i64 c)) r g cap L al c0 c c2 c3 := ⟨h.own.set 3 _, h.pr.set 3 (by omega) _⟩
theorem PC.tag {W : World} {r g cap : Nat} {L : List Lim} {al : Bool} {c0 c1 c2 c3 : Int} (h : PC W r g cap L al c0 c1 c2 c3) (c : Int) : PC (W.setCell ⟨r, 4, none⟩ (.int .i64 c)) r g cap L al c0 c1 c c3 := ⟨h.own.set 4 _, h.pr.set 4 (by omega) _⟩
theorem PC.dro {W : World} {r g cap : Nat} {L : List Lim} {al : Bool} {c0 c1 c2 c3 : Int} (h : PC W r g cap L al c0 c1 c2 c3) (c : Int) : PC (W.setCell ⟨r, 5, none⟩ (.int .i64 c)) r g cap L al c0 c1 c2 c := ⟨h.own.set 5 _, h.pr.set 5 (by omega) _⟩
theorem PC.below {n : Nat} {W W' : World} {r g cap : Nat} {L : List Lim} {al : Bool} {c0 c1 c2 c3 : Int} (h : PC W r g cap L al c0 c1 c2 c3) (hb : Below n W W') (hn : W.heap.size ≤ n) : PC W' r g cap L al c0 c1 c2 c3 := ⟨h.own.below hb (by have := h.own.lt; omega), h.pr.below hb hn⟩

/-- The blocks that a policer's Take may write. -/
def PB (r : Nat) (L : List Lim) : List Nat := r :: L.map (·.b)

theorem PB_of {r n : Nat} {L : List Lim} {w w' : World} (h : Buts (L.map (·.b)) n w w') : Buts (PB r L) n w w' := h.wider (fun k hk => List.mem_cons_of_mem _ hk)
theorem PC.filled {n : Nat} {W W' : World} {r g cap : Nat} {L L' : List Lim} {al : Bool} {c0 c1 c2 c3 : Int} (h : PC W r g cap L al c0 c1 c2 c3) (hb : Buts (L.map (·.b)) n W W') (hn : W.heap.size ≤ n) (hl : L'.length = L.length) (hp : PR W' r g cap L') : PC W' r g cap L' al c0 c1 c2 c3 :=
  ⟨by rw [hl]; exact h.own.buts hb (by have := h.own.lt; omega) (fun e => by obtain ⟨x, hx, e⟩ := List.mem_map.1 e; exact (h.pr.ne x hx).2 e), hp⟩

set_option maxHeartbeats 1000000 in
theorem ptake_drop (r g cap : Nat) (L : List Lim) (al : Bool) (c0 c1 c2 c3 : Int) (t clp : Int) (w : World) (h : PC w r g cap L al c0 c1 c2 c3) (k0 : 0 ≤ c0 ∧ c0 < 1000) (k3 : 0 ≤ c3 ∧ c3 < 1000) (hv : judgeN t (askedL clp L) = 3) :
    Calls Try.prog 11 #[.pointer (some ⟨r, 0, none⟩), .int .i64 t, .int .i64 clp] w fun e w' => e = .returned (.int .i64 3) ∧ PC w' r g cap L al (c0 + 1) c1 c2 (c3 + 1) ∧ Buts (PB r L) w.heap.size w w' := by
  have hj := judge_calls r g cap L t clp w h.pr
  rw [hv] at hj
  go_enter Try.func11, Try.ntmps11
  go_wp2_with fail
  refine hj.mono ?_
  clear hj
  rintro e w1 ⟨rfl, b1⟩
  have P1 := h.below b1 (Nat.le_refl _)
  have B2 : Buts (PB r L) w.heap.size w w1 := Buts.of b1
  obtain ⟨m1, m2, m3, m4, m5, f2, f3, f4, f5⟩ := P1.facts
  obtain ⟨k0, k0'⟩ := k0
  obtain ⟨k3, k3'⟩ := k3
  clear h hv
  go_wp2
  go_region
  go_wp2
  go_region
  go_wp2
  go_ret
  exact ⟨rfl, ((P1.all _).drew.dro _).drew, ((B2.set (List.mem_cons_self ..) _).drew.set (List.mem_cons_self ..) _).drew⟩

set_option maxHeartbeats 1000000 in
theorem ptake_tag (r g cap : Nat) (L : List Lim) (al : Bool) (c0 c1 c2 c3 : Int) (t clp : Int) (w : World) (h : PC w r g cap L al c0 c1 c2 c3) (k0 : 0 ≤ c0 ∧ c0 < 1000) (k2 : 0 ≤ c2 ∧ c2 < 1000) (hv : judgeN t (askedL clp L) = 2) :
    Calls Try.prog 11 #[.pointer (some ⟨r, 0, none⟩), .int .i64 t, .int .i64 clp] w fun e w' => e = .returned (.int .i64 2) ∧ PC w' r g cap (L.map (fillL t 1)) al (c0 + 1) c1 (c2 + 1) c3 ∧ Buts (PB r L) w.heap.size w w' := by
  have hj := judge_calls r g cap L t clp w h.pr
  rw [hv] at hj
  go_enter Try.func11, Try.ntmps11
  go_wp2_with fail
  refine hj.mono ?_
  clear hj
  rintro e w1 ⟨rfl, b1⟩
  have P1 := h.below b1 (Nat.le_refl _)
  obtain ⟨k0, k0'⟩ := k0
  obtain ⟨k2, k2'⟩ := k2
  clear h hv
  go_wp2_with fail
  refine (fill_calls r g cap L t 1 _ P1.pr).mono ?_
  rintro e w2 ⟨⟨v, rfl⟩, hp, hB⟩
  have P2 := P1.filled hB (Nat.le_refl _) (List.length_map ..) hp
  have B2 : Buts (PB r L) w.heap.size w w2 := (Buts.of b1).trans (PB_of (hB.mono b1.size))
  obtain ⟨m1, m2, m3, m4, m5, f2, f3, f4, f5⟩ := P2.facts
  clear P1 hp hB b1
  go_wp2
  go_region
  go_wp2
  go_region
  go_wp2
  go_ret
  exact ⟨rfl, ((P2.all _).drew.tag _).drew, ((B2.set (List.mem_cons_self ..) _).drew.set (List.mem_cons_self ..) _).drew⟩

set_option maxHeartbeats 1000000 in
theorem ptake_pass (r g cap : Nat) (L : List Lim) (al : Bool) (c0 c1 c2 c3 : Int) (t clp : Int) (w : World) (h : PC w r g cap L al c0 c1 c2 c3) (k0 : 0 ≤ c0 ∧ c0 < 1000) (k1 : 0 ≤ c1 ∧ c1 < 1000) (hv : judgeN t (askedL clp L) = 1) (ha : (al && clp == 0) = false) :
    Calls Try.prog 11 #[.pointer (some ⟨r, 0, none⟩), .int .i64 t, .int .i64 clp] w fun e w' => e = .returned (.int .i64 1) ∧ PC w' r g cap (L.map (fillL t clp)) al (c0 + 1) (c1 + 1) c2 c3 ∧ Buts (PB r L) w.heap.size w w' := by
  have hj := judge_calls r g cap L t clp w h.pr
  rw [hv] at hj
  obtain ⟨k0, k0'⟩ := k0
  obtain ⟨k1, k1'⟩ := k1
  have hc : al = false ∨ (al = true ∧ (clp == 0) = false) := by cases al <;> simp_all
  clear ha
  rcases hc with rfl | ⟨rfl, hc⟩
  all_goals
    go_enter Try.func11, Try.ntmps11
    go_wp2_with fail
    refine hj.mono ?_
    clear hj
    rintro e w1 ⟨rfl, b1⟩
    have P1 := h.below b1 (Nat.le_refl _)
    clear h hv
    go_wp2_with fail
    refine (fill_calls r g cap L t clp _ P1.pr).mono ?_
    rintro e w2 ⟨⟨v, rfl⟩, hp, hB⟩
    have P2 := P1.filled hB (Nat.le_refl _) (List.length_map ..) hp
    have B2 : Buts (PB r L) w.heap.size w w2 := (Buts.of b1).trans (PB_of (hB.mono b1.size))
    obtain ⟨m1, m2, m3, m4, m5, f2, f3, f4, f5⟩ := P2.facts
    clear P1 hp hB b1
    go_wp2
    go_region
    go_wp2
    go_region
    go_wp2
    go_ret
    exact ⟨rfl, ((P2.all _).drew.pas _).drew, ((B2.set (List.mem_cons_self ..) _).drew.set (List.mem_cons_self ..) _).drew⟩

set_option maxHeartbeats 1000000 in
theorem ptake_always (r g cap : Nat) (L : List Lim) (c0 c1 c2 c3 : Int) (t : Int) (w : World) (h : PC w r g cap L true c0 c1 c2 c3) (k0 : 0 ≤ c0 ∧ c0 < 1000) (k2 : 0 ≤ c2 ∧ c2 < 1000) (hv : judgeN t (askedL 0 L) = 1) :
    Calls Try.prog 11 #[.pointer (some ⟨r, 0, none⟩), .int .i64 t, .int .i64 0] w fun e w' => e = .returned (.int .i64 2) ∧ PC w' r g cap (L.map (fillL t 0)) true (c0 + 1) c1 (c2 + 1) c3 ∧ Buts (PB r L) w.heap.size w w' := by
  have hj := judge_calls r g cap L t 0 w h.pr
  rw [hv] at hj
  obtain ⟨k0, k0'⟩ := k0
  obtain ⟨k2, k2'⟩ := k2
  go_enter Try.func11, Try.ntmps11
  go_wp2_with fail
  refine hj.mono ?_
  clear hj
  rintro e w1 ⟨rfl, b1⟩
  have P1 := h.below b1 (Nat.le_refl _)
  clear h hv
  go_wp2_with fail
  refine (fill_calls r g cap L t 0 _ P1.pr).mono ?_
  rintro e w2 ⟨⟨v, rfl⟩, hp, hB⟩
  have P2 := P1.filled hB (Nat.le_refl _) (List.length_map ..) hp
  have B2 : Buts (PB r L) w.heap.size w w2 := (Buts.of b1).trans (PB_of (hB.mono b1.size))
  obtain ⟨m1, m2, m3, m4, m5, f2, f3, f4, f5⟩ := P2.facts
  clear P1 hp hB b1
  go_wp2
  go_region
  go_wp2
  go_region
  go_wp2
  go_ret
  exact ⟨rfl, ((P2.all _).drew.tag _).drew, ((B2.set (List.mem_cons_self ..) _).drew.set (List.mem_cons_self ..) _).drew⟩

set_option maxHeartbeats 1000000 in
theorem ptake_nil (t clp : Int) (w : World) : Calls Try.prog 11 #[.pointer none, .int .i64 t, .int .i64 clp] w fun e w' => e = .returned (.int .i64 3) ∧ w' = w := by
  go_enter Try.func11, Try.ntmps11
  go_wp2
  go_ret
  exact ⟨rfl, rfl⟩
end Go.Proofs.Ytlaomjhibaoglaa
