/- Proved here: what element.Find, element.Cause and element.Key answer. Conditions: as each theorem states them. -/
import Derived.Test.YtbjeljmnknibnaaDoorFi
import Derived.Test.YtbjeljmnknibnaaDoorSm
import Derived.Test.YtbjeljmnknibnaaDoorKr
namespace Go.Proofs.YtbjeljmnknibnaaDoor
set_option linter.unusedSimpArgs false
set_option linter.unusedVariables false
open Go.RowKit Go.Shelf

theorem idxN_cases (p : El → Bool) (L : List El) : (idxN p L = -1 ∧ ∀ x ∈ L, p x = false) ∨ ∃ (k : Nat) (x : El), idxN p L = (k : Int) ∧ L[k]? = some x ∧ p x = true ∧ ∀ (j : Nat) (y : El), j < k → L[j]? = some y → p y = false := by
  unfold idxN
  cases h : L.findIdx? p with
  | none => exact .inl ⟨rfl, fun x hx => List.findIdx?_eq_none_iff.1 h x hx⟩
  | some k =>
    obtain ⟨hk, hp, hj⟩ := List.findIdx?_eq_some_iff_getElem.1 h
    refine .inr ⟨k, L[k], rfl, List.getElem?_eq_getElem hk, hp, fun j y hjk hy => ?_⟩
    have := hj j hjk
    rw [List.getElem?_eq_getElem (by omega)] at hy
    cases hy
    simpa using this

/-- What Find answers. -/
def FdAns (m0 : Nat) (L : List El) (id : UInt8) (w : World) (e : Ending) (w' : World) : Prop :=
  Below w.heap.size w w' ∧ (((∀ x ∈ L, idB id x = false) ∧ e = .returned (.tuple #[ieV 0 none 0 0, .bool false])) ∨
    ∃ (k : Nat) (x : El) (ai : Option Addr) (li ci : Nat), L[k]? = some x ∧ idB id x = true ∧ (∀ (j : Nat) (y : El), j < k → L[j]? = some y → idB id y = false) ∧ e = .returned (.tuple #[ieV x.id ai li ci, .bool true]) ∧ IsB m0 w' ai li x.body ∧ (ai = none → ci = 0) ∧ li ≤ ci)

set_option maxHeartbeats 1000000 in
theorem fd_calls (a : Option Addr) (n c : Nat) (L : List El) (id : UInt8) (w : World) {m0 : Nat} (hv : IsI m0 w a n L) (hm0 : m0 ≤ w.heap.size) (hn : n ≤ 1000) :
    Calls Tryd.prog 38 #[.slice a n c, .int .u8 (id.toNat : Int)] w (FdAns m0 L id w) := by
  have HnL : Hid (n = L.length) := hv.1
  have A1 : Below w.heap.size w ((w.alloc (.cells #[.int .u8 (id.toNat : Int)] 5)).alloc (.cells #[.int .u8 0, .slice none 0 0] 60)) := ((Below.refl _ w).alloc (Nat.le_refl _) _).alloc (by simp) _
  have K1 : BK ((w.alloc (.cells #[.int .u8 (id.toNat : Int)] 5)).alloc (.cells #[.int .u8 0, .slice none 0 0] 60)) w.heap.size #[.int .u8 (id.toNat : Int)] 5 := (bk_new w _ _).alloc _
  have K2 : BK ((w.alloc (.cells #[.int .u8 (id.toNat : Int)] 5)).alloc (.cells #[.int .u8 0, .slice none 0 0] 60)) (w.heap.size + 1) #[.int .u8 0, .slice none 0 0] 60 := by
    have := bk_new (w.alloc (.cells #[.int .u8 (id.toNat : Int)] 5)) #[.int .u8 0, .slice none 0 0] 60
    rwa [World.size_alloc] at this
  have HI := fun w1 (hb : Below w.heap.size w w1) (k : BK w1 w.heap.size #[.int .u8 (id.toNat : Int)] 5) => index_id w1 a n c L (hv.below hb hm0) (Nat.le_trans hm0 hb.size) hn w.heap.size id k
  go_enter Tryd.func38, Tryd.ntmps38
  go_wp2_with fail
  refine (HI _ A1 K1).mono ?_
  rintro e w2 ⟨rfl, b2⟩
  have B2 := A1.trans (b2.mono A1.size)
  have K3 := K2.below b2 K2.lt
  have p0 := K3.cell 0 _ rfl
  have p1 := K3.cell 1 _ rfl
  have z0 := K3.frozen 0
  have z1 := K3.frozen 1
  have kl := K3.lt
  clear HI A1 K1 K2
  rcases idxN_cases (idB id) L with ⟨e1, hall⟩ | ⟨k, x, e1, hx, hp, hj⟩
  · have HA : Hid (∀ x ∈ L, idB id x = false) := hall
    rw [e1]
    clear e1 hall
    go_wp2
    have K5 := bk_set2 (u := .int .u8 0) (v := .slice none 0 0) K3
    have B5 := below_set2 (b := w.heap.size + 1) (u := .int .u8 0) (v := .slice none 0 0) B2 (Nat.le_succ _)
    refine bodyPost_ret (v := .tuple #[ieV 0 none 0 0, .bool false]) (results_cell_tmp_row Tryd.results38 _ _ _ _ _ _ _ _ rfl rfl K5 Tryd.underlying60 rfl size_ie) rfl ⟨B5, .inl ⟨HA.out, rfl⟩⟩
  · rw [e1]
    obtain ⟨b, off, x', ai, li, ci, rfl, hbm, hx', hli, hn0, hlc, F⟩ := hv.atF (i := k) (by have := (List.getElem?_eq_some_iff.1 hx).1; have := HnL.out; omega)
    rw [hx] at hx'
    obtain rfl : x = x' := Option.some.inj hx'
    obtain ⟨I, c0, c1⟩ := F w2 (B2.mono hm0)
    have hkn : k < n := by have := (List.getElem?_eq_some_iff.1 hx).1; have := HnL.out; omega
    have q1 : decide ((k : Int) < 0) = false := by simp
    have HF : Hid (L[k]? = some x ∧ idB id x = true ∧ (∀ (j : Nat) (y : El), j < k → L[j]? = some y → idB id y = false)) := ⟨hx, hp, hj⟩
    have HI5 : Hid (∀ w', Below w.heap.size w w' → IsB m0 w' ai li x.body) := fun w' hb => (F w' (hb.mono hm0)).1
    clear e1 hx hx' hp hj hli F
    go_wp2
    have K5 := bk_set2 (u := .int .u8 (x.id.toNat : Int)) (v := .slice ai li ci) K3
    have B5 := below_set2 (b := w.heap.size + 1) (u := .int .u8 (x.id.toNat : Int)) (v := .slice ai li ci) B2 (Nat.le_succ _)
    refine bodyPost_ret (v := .tuple #[ieV x.id ai li ci, .bool true]) (results_cell_tmp_row Tryd.results38 _ _ _ _ _ _ _ _ rfl rfl K5 Tryd.underlying60 rfl size_ie) rfl ⟨B5, .inr ⟨k, x, ai, li, ci, HF.out.1, HF.out.2.1, HF.out.2.2, rfl, HI5.out _ B5, hn0, hlc⟩⟩
end Go.Proofs.YtbjeljmnknibnaaDoor
