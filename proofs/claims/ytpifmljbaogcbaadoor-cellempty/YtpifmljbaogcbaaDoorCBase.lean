/- Proved here: small facts for the walks of layer 4's statements. Conditions: as each theorem states them. -/
import Derived.Test.YtpifmljbaogcbaaDoorAwakeW
import Derived.Test.YtpifmljbaogcbaaDoorHSame
import Derived.Test.YtpifmljbaogcbaaDoorHRefU
import Derived.Test.YtpifmljbaogcbaaDoorRef
namespace Go.Proofs.YtpifmljbaogcbaaDoor
set_option linter.unusedSimpArgs false
set_option linter.unusedVariables false
open Go.RowKit
open H (Tab rightB bytesN)

/-- A header as a value. -/
abbrev hdrV (g p v t c : Int) : Array Value := #[.int .i64 g, .int .i64 p, .int .i64 v, .int .i64 t, .int .i64 c]

theorem pay_of {zs : List Int} (hw : ∀ z ∈ zs, (Lit.int .u8 z).wf = true) : ∃ ps : List UInt8, ps.length = zs.length ∧ (zs.map fun z => Value.int .u8 z).toArray = payV ps := by
  have key : ∀ zs : List Int, (∀ z ∈ zs, (Lit.int .u8 z).wf = true) → ∃ ps : List UInt8, ps.length = zs.length ∧ (zs.map fun z => Value.int .u8 z) = vals ps := by
    intro zs
    induction zs with
    | nil => intro _; exact ⟨[], rfl, rfl⟩
    | cons z zs ih =>
      intro h
      obtain ⟨ps, hl, he⟩ := ih (fun x hx => h x (List.mem_cons_of_mem _ hx))
      obtain ⟨x, rfl⟩ := byte_of_wf (h z (List.mem_cons_self ..))
      exact ⟨x :: ps, by simp [hl], by simp [he, vals]⟩
  obtain ⟨ps, hl, he⟩ := key zs hw
  exact ⟨ps, hl, by rw [he]; rfl⟩

/-- A variable is laid down, and its value stored into it: the world behind is a letter. -/
theorem wpList_defL {P : Program} {w : World} {ops : Array Oper} {rest : List Oper} {o1 o2 : Oper} {a : Act} {Q : Exit → Act → World → Prop} (hg1 : Region.wanted o1 (yielded ops a.tmps) = true)
    {ty : TypeId} {x y : Operand} {Z C : Array Value} (ho1 : o1.op = .alloc ty) (ho2 : o2.op = .store ty x y)
    (hx : (a.put o1.dst (.pointer (some ⟨w.heap.size, 0, none⟩))).eval x = .pointer (some ⟨w.heap.size, 0, none⟩)) (hy : (a.put o1.dst (.pointer (some ⟨w.heap.size, 0, none⟩))).eval y = .agg C)
    (hz : ∀ w, (zeroValue ty).run P w = .ok (.agg Z) w) (hi : (P.info? ty).map (·.size) = some C.size) (hZ : Z.size = C.size) (h1 : C.all (·.oneCell') = true)
    (hg2 : Region.wanted o2 (yielded ops (a.put o1.dst (.pointer (some ⟨w.heap.size, 0, none⟩))).tmps) = true)
    (h : ∀ W, BK W w.heap.size C ty → Below w.heap.size w W → W.heap.size = w.heap.size + 1 → wpList P ops Q rest ((a.put o1.dst (.pointer (some ⟨w.heap.size, 0, none⟩))).put o2.dst undef) W) : wpList P ops Q (o1 :: o2 :: rest) a w :=
  wpList_def hg1 ho1 ho2 hx hy hz hi hZ h1 hg2 (h _ (bk_new w C ty) ((Below.refl _ w).alloc (Nat.le_refl _) _) (by simp))

theorem four_of (n : Nat) : ∃ x0 x1 x2 x3, bytesN n = [x0, x1, x2, x3] := ⟨_, _, _, _, rfl⟩

/-- What Build answers, right or not. -/
theorem build_any (nni : Bool) (g p v t c : Int) (ps : List UInt8) (hl : ps.length = 48) (w : World) (tab : Tab w) :
    Calls Tryd.prog 11 #[.agg (cellV g p v t c ps), .bool nni] w fun e w' => ∃ (a : Option Addr) (n cp : Nat) (er : Int), e = .returned (.tuple #[.slice a n cp, .int .i64 er]) ∧
      ((rightB nni g p v t c = true ∧ n = 53 ∧ er = 0 ∧ ∃ gg x0 x1 x2 x3, a = some ⟨gg, 0, none⟩ ∧ w.heap.size ≤ gg ∧ gg < w'.heap.size ∧ 53 ≤ cp ∧ bytesN (H.word g p v t c).toNat = [x0, x1, x2, x3] ∧ IsB w'.heap.size w' (some ⟨gg, 0, none⟩) 53 (cellB x0 x1 x2 x3 ps)) ∨
       (rightB nni g p v t c = false ∧ a = none ∧ n = 0 ∧ cp = 0 ∧ er = 1)) ∧ Below w.heap.size w w' := by
  cases hr : rightB nni g p v t c with
  | true =>
    have hw := H.word_lt hr
    obtain ⟨x0, x1, x2, x3, hx⟩ := four_of (H.word g p v t c).toNat
    refine (build_yes nni g p v t c _ x0 x1 x2 x3 ps hl w tab hr (by omega) hx).mono ?_
    rintro e w' ⟨a, cp, rfl, o, b⟩
    obtain ⟨gg, cur, rfl, h1, h2, _⟩ := o.block (by decide)
    exact ⟨_, _, _, _, rfl, .inl ⟨rfl, rfl, rfl, gg, x0, x1, x2, x3, rfl, h1, h2, o.isB.2.2, hx, o.isB.1⟩, b⟩
  | false =>
    refine (build_no nni g p v t c ps w tab hr).mono ?_
    rintro e w' ⟨rfl, b⟩
    exact ⟨_, _, _, _, rfl, .inr ⟨rfl, rfl, rfl, rfl, rfl⟩, b⟩

theorem cellB_inj {x0 x1 x2 x3 y0 y1 y2 y3 : UInt8} {ps qs : List UInt8} (h : cellB x0 x1 x2 x3 ps = cellB y0 y1 y2 y3 qs) : [x0, x1, x2, x3] = [y0, y1, y2, y3] ∧ ps = qs := by
  simp only [cellB, List.cons_append, List.nil_append, List.cons.injEq] at h
  exact ⟨by simp [h.1, h.2.1, h.2.2.1, h.2.2.2.1], h.2.2.2.2.2⟩
end Go.Proofs.YtpifmljbaogcbaaDoor
