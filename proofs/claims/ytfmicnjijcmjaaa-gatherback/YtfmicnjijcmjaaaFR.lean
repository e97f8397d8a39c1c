/- Proved here: a range over a frame's parts, in which a gatherer takes them. Conditions: as each theorem states them. -/
import Derived.Test.YtfmicnjijcmjaaaFI
import Derived.Deep.AppendSrc
namespace Go.Proofs.Ytfmicnjijcmjaaa
set_option linter.unusedSimpArgs false
set_option linter.unusedVariables false
open Go.RowKit Go.Shelf
attribute [local go_sem] Oper.semAt_some

/-- What holds behind some rounds. -/
def feedI {zs : List UInt8} (w : World) (F0 E : Nat → Prop) (r : Nat) (X Y : Nat → Ga → World → Prop) (pre : List (Ix48 zs)) (W : World) : Prop :=
  ∃ S, FI w F0 E r S W ∧ Y pre.length S W ∧ (pre.map (·.1) = List.range pre.length → X pre.length S W)
def feedX {zs : List UInt8} (c : Code) (pre : List (Ix48 zs)) (_ : World) : Prop := c = .ret ∧ ¬ pre.map (·.1) = List.range pre.length
/-- The temps of a round. -/
def feedT (T : Array Value) (p1 p2 s : Nat) (ob : Option Nat) (ck : List UInt8) (Lx : Bool) (Bx : Nat) : Array Value :=
  match ob with
  | none => ((T.setIfInBounds p1 (.agg (payV ck))).setIfInBounds p2 (.bool Lx)).setIfInBounds s (.pointer (some ⟨Bx, 0, none⟩))
  | some b => (((T.setIfInBounds p1 (.agg (payV ck))).setIfInBounds p2 (.bool Lx)).setIfInBounds s (.pointer (some ⟨Bx, 0, none⟩))).setIfInBounds b (.bool Lx)

theorem feed_own {zs : List UInt8} {w : World} {F0 E : Nat → Prop} {r : Nat} {X Y : Nat → Ga → World → Prop} (hX : ∀ n S, OwnFrom w.heap.size (fun (_ : Unit) W => X n S W)) (hY : ∀ n S, OwnFrom w.heap.size (fun (_ : Unit) W => Y n S W)) :
    OwnFrom w.heap.size (feedI (zs := zs) w F0 E r X Y) := by
  rintro pre A B row ⟨S, h, hy, hx⟩ hg hr
  exact ⟨S, h.grown hg hr, hY _ _ () A B row hy hg hr, fun e => hX _ _ () A B row (hx e) hg hr⟩

theorem order_next {zs : List UInt8} {pre : List (Ix48 zs)} {x : Ix48 zs} (h : (pre ++ [x]).map (·.1) = List.range (pre ++ [x]).length) : pre.map (·.1) = List.range pre.length ∧ x.1 = pre.length := by
  rw [List.map_append, List.length_append, List.length_singleton, List.range_succ] at h
  obtain ⟨h1, h2⟩ := List.append_inj' h rfl
  exact ⟨h1, by simpa using h2⟩

theorem range_feed {g : Operand} {ps : Array Tmp} {assign body : Code} {Q : Exit → Act → World → Prop} {a : Act} {w : World} (p1 p2 s : Nat) (ob : Option Nat) {Bp gb len c3 r : Nat} {a3 : Option Addr} {zs : List UInt8} {F0 E : Nat → Prop} {S0 : Ga}
    (hg : a.eval g = .func (.func 30) #[] #[.pointer (some ⟨Bp, 0, none⟩)])
    (hBp : Boxed w Bp 32 (.slice a3 len c3)) (hG : InG gb w a3 len zs) (hc3 : len ≤ c3) (hg2 : gb < w.heap.size) (hl : len ≤ 3000)
    (h0 : GV w F0 r S0) (hE : ∀ k, E k → k < w.heap.size) (hEF : ∀ k, E k → ¬ F0 k) (hgF : ¬ F0 gb) (hgE : ¬ E gb) (hps : ps.size = 2)
    (X Y : Nat → Ga → World → Prop) (hX : ∀ n S, OwnFrom w.heap.size (fun (_ : Unit) W => X n S W)) (hY : ∀ n S, OwnFrom w.heap.size (fun (_ : Unit) W => Y n S W)) (hXb : ∀ n S W o, X n S W → X n S (W.alloc o)) (hYb : ∀ n S W o, Y n S W → Y n S (W.alloc o))
    (hX0 : X 0 S0 w) (hY0 : Y 0 S0 w)
    (hassign : ∀ (l : Nat) (ck : List UInt8) (Lx : Bool) (W : World) (K : Act → World → Prop), ck.length = 48 → K { tmps := feedT a.tmps p1 p2 s ob ck Lx W.heap.size, defers := [] } (W.alloc (.cells (payV ck) 28)) →
      assign.wpIn (Fence.wide.inRound l) (3 - 1 - 1) Try.prog (Exit.then K (fun _ _ _ => False)) { tmps := (ps.zip #[.agg (payV ck), .bool Lx]).foldl (fun t (p, v) => t.setIfInBounds p v) a.tmps, defers := [] } W)
    (hbody : ∀ (l : Nat) (pre : List (Ix48 zs)) (x : Ix48 zs) (ck : List UInt8) (Lx : Bool) (W : World) (S : Ga) (Bx : Nat), ck = chunk zs x.1 → Lx = (((zs.length - 48 * x.1 : Nat) : Int) == 48) → w.heap.size ≤ l → (∃ r, W.heap[l]? = some (.loop r)) → FI w F0 E r S W → Y pre.length S W → (pre.map (·.1) = List.range pre.length → X pre.length S W) →
      w.heap.size ≤ Bx → BK W Bx (payV ck) 28 → ck.length = 48 → pre.length < zs.length / 48 →
      body.wpIn (Fence.wide.inRound l) (3 - 1 - 1) Try.prog (ownPostG w.heap.size (Kq gb) (feedI w F0 E r X Y) feedX (pre ++ [x]) W) { tmps := feedT a.tmps p1 p2 s ob ck Lx Bx, defers := [] } W)
    (hdone : ∀ (D : Nat) (W : World) (S : Ga), w.heap.size ≤ D → FI w F0 E r S W → X (zs.length / 48) S W → W.heap[D]? = some (.deferred (some [])) → Q .normal { a with defers := { target := .collected D, args := #[] } :: a.defers } W) :
    (Code.rangeFunc g ps assign body).wpIn Fence.wide 3 Try.prog Q a w := by
  refine wpIn_rangeFunc_ownH (α := Ix48 zs) rfl (by omega) (gf := 30) (lb := #[.pointer (some ⟨Bp, 0, none⟩)]) hg trivial (enters_of Try.func30 (by kernel_rfl) rfl)
    (cells_stops (3 - 1) (by omega) Bp gb len c3 a3 zs hl w hBp hG hc3 hg2) Kq.trans (Kq.put hg2) (Below.refl _ _) (fun _ => by rw [hps]; rfl)
    (feedI w F0 E r X Y) feedX (feed_own hX hY) (fun c pre A B row h hg hr => h) ⟨S0, FI.init h0 hEF, hY0, fun _ => hX0⟩
    (fun x a' W => ∃ Bx, w.heap.size ≤ Bx ∧ BK W Bx (payV (chunk zs x.1)) 28 ∧ a' = { tmps := feedT a.tmps p1 p2 s ob (chunk zs x.1) (((zs.length - 48 * x.1 : Nat) : Int) == 48) Bx, defers := [] })
    (fun x a' u X Y row hs hgr hr => by
      obtain ⟨Bx, h1, h2, h3⟩ := hs
      refine ⟨Bx, h1, ?_, h3⟩
      refine (hgr.block Bx h2.lt (fun e => ?_)).trans h2
      obtain ⟨_, o, ho, hc⟩ := hr Bx e.symm
      rw [show X.heap[Bx]? = _ from h2] at ho; cases ho; cases hc) ?assign ?body ?done ?stop
  case assign =>
    rintro l pre x W K ⟨S, hF, hy, hx⟩ hK
    have hcl := chunk_len x.2
    have A1 : Below W.heap.size W (W.alloc (.cells (payV (chunk zs x.1)) 28)) := (Below.refl _ W).alloc (Nat.le_refl _) _
    exact hassign l (chunk zs x.1) _ W K hcl (hK _ _ ((KeepsOthers.alloc _ _).from _) (Kq.of A1 (Nat.lt_of_lt_of_le hg2 hF.size)) ⟨S, hF.below A1 (Nat.le_refl _), hYb _ _ _ _ hy, fun e => hXb _ _ _ _ (hx e)⟩ ⟨W.heap.size, hF.size, bk_new W _ _, rfl⟩)
  case body =>
    rintro l pre x a' W hl hlo ⟨S, hF, hy, hx⟩ ⟨Bx, hBx, bX, rfl⟩ hlt
    exact hbody l pre x _ _ W S Bx rfl rfl hl hlo hF hy hx hBx bX (chunk_len x.2) hlt
  case done =>
    rintro D ys W hD hys ⟨S, hF, hy, hx⟩ hK
    have hyl : ys.length = zs.length / 48 := by have := congrArg List.length hys; simpa using this
    have := hx (by rw [hyl]; exact hys)
    rw [hyl] at this
    exact hdone D W S hD hF this hK
  case stop =>
    rintro D cd pre W hD ⟨j, hj, hpre⟩ ⟨_, h2⟩ hK
    have hpl : pre.length = j := by have := congrArg List.length hpre; simpa using this
    exact absurd (by rw [hpre, hpl]) h2
theorem operIn_st {F : Fence} {n : Nat} {P : Program} {w : World} {o : Oper} {a : Act} {K : Act → World → Prop} {Q : Exit → Act → World → Prop}
    {ty : TypeId} {x y : Operand} {Z C : Array Value} (ho : o.op = .store ty x y) (hx : a.eval x = .pointer (some ⟨w.heap.size, 0, none⟩)) (hy : a.eval y = .agg C)
    (hi : (P.info? ty).map (·.size) = some C.size) (hZ : Z.size = C.size) (h1 : C.all (·.oneCell') = true)
    (h : K (a.put o.dst undef) (w.alloc (.cells C ty))) : o.wpIn F n P a (w.alloc (.cells Z ty)) K Q := by
  unfold Oper.wpIn
  refine ⟨?_, ?_⟩
  · simp [Oper.about, ho]
  · rw [Oper.semAt_plain F _ _ (by rw [ho]; intro c hc'; cases hc')]
    have e := run_storeAt_new (P := P) w ty Z C hi hZ h1
    unfold execOp
    simp only [ho, hx, hy, Sem.run_bind, e, Result.andThen_ok, Sem.run_pure]
    exact h
theorem wpListIn_def {F : Fence} {n : Nat} {P : Program} {w : World} {ops : Array Oper} {rest : List Oper} {o1 o2 : Oper} {a : Act} {Q : Exit → Act → World → Prop} (hg1 : o1.guard = none) (hg2 : o2.guard = none)
    {ty : TypeId} {x y : Operand} {Z C : Array Value} (ho1 : o1.op = .alloc ty) (ho2 : o2.op = .store ty x y)
    (hx : (a.put o1.dst (.pointer (some ⟨w.heap.size, 0, none⟩))).eval x = .pointer (some ⟨w.heap.size, 0, none⟩)) (hy : (a.put o1.dst (.pointer (some ⟨w.heap.size, 0, none⟩))).eval y = .agg C)
    (hz : ∀ w, (zeroValue ty).run P w = .ok (.agg Z) w) (hi : (P.info? ty).map (·.size) = some C.size) (hZ : Z.size = C.size) (h1 : C.all (·.oneCell') = true)
    (h : wpListIn F n P ops Q rest ((a.put o1.dst (.pointer (some ⟨w.heap.size, 0, none⟩))).put o2.dst undef) (w.alloc (.cells C ty))) : wpListIn F n P ops Q (o1 :: o2 :: rest) a w :=
  wpListIn_plain hg1 fun _ hK => operIn_al ho1 hz (hK _ _ (wpListIn_plain hg2 fun _ hK' => operIn_st ho2 hx hy hi hZ h1 (hK' _ _ h)))
end Go.Proofs.Ytfmicnjijcmjaaa
