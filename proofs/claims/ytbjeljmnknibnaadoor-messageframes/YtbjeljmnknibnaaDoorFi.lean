/- Proved here: what slices.IndexFunc and slices.ContainsFunc answer of elements, with the closures of Pack and Find. Conditions: as each theorem states them. -/
import Derived.Test.YtbjeljmnknibnaaDoorSw
namespace Go.Proofs.YtbjeljmnknibnaaDoor
set_option linter.unusedSimpArgs false
set_option linter.unusedVariables false
open Go.RowKit Go.Shelf

/-- The first element of which p says yes. -/
def idxN (p : El → Bool) (L : List El) : Int := match L.findIdx? p with | none => -1 | some k => (k : Int)
theorem idxN_none {p : El → Bool} {L : List El} (h : ∀ (j : Nat) (y : El), L[j]? = some y → p y = false) : idxN p L = -1 := by
  unfold idxN
  rw [List.findIdx?_eq_none_iff.2]
  intro x hx
  obtain ⟨j, hj⟩ := List.getElem?_of_mem hx
  exact h j x hj
theorem idxN_some {p : El → Bool} {L : List El} {k : Nat} {x : El} (hx : L[k]? = some x) (hp : p x = true) (h : ∀ (j : Nat) (y : El), j < k → L[j]? = some y → p y = false) : idxN p L = (k : Int) := by
  unfold idxN
  obtain ⟨hk, e⟩ := List.getElem?_eq_some_iff.1 hx
  rw [List.findIdx?_eq_some_iff_getElem.2 ⟨hk, by rw [e]; exact hp, fun j hj => by
    rw [h j (L[j]'(by omega)) hj (by rw [List.getElem?_eq_getElem])]; simp⟩]

set_option maxHeartbeats 2000000 in
theorem index_long (w : World) (a : Option Addr) (n c : Nat) (L : List El) {m0 : Nat} (hv : IsI m0 w a n L) (hm0 : m0 ≤ w.heap.size) (hn : n ≤ 1000) :
    Calls Tryd.prog 57 #[.slice a n c, .func (.func 52) #[] #[]] w fun e w' => e = .returned (.int .i64 (idxN longB L)) ∧ Below w.heap.size w w' := by
  have HnL : Hid (n = L.length) := hv.1
  go_enter Tryd.func57, Tryd.ntmps57
  go_wp2
  go_loopw [8] (fun iv wr => ∃ (k : Nat), k ≤ n ∧ iv = .int .i64 k ∧ Below w.heap.size w wr ∧ (∀ (j : Nat) (y : El), j < k → L[j]? = some y → longB y = false)) (fun iv _ => n - (intOf iv).toNat)
  case atStart => exact ⟨0, Nat.zero_le _, rfl, Below.refl _ _, fun j y hj => absurd hj (Nat.not_lt_zero _)⟩
  case round =>
    obtain ⟨k, hk, rfl, b1, hh⟩ := hrel
    have HH : Hid (∀ (j : Nat) (y : El), j < k → L[j]? = some y → longB y = false) := hh
    clear hh
    by_cases hlt : k < n
    · obtain ⟨b, off, x, ai, li, ci, rfl, hbm, hx, hI, hn0, hlc, c1, c2⟩ := (hv.below b1 hm0).at hlt
      have HX : Hid (L[k]? = some x) := hx
      have hli : Hid (li = x.body.length) := hI.1
      skip
      clear hx
      go_wp2_with fail
      refine (long_calls x ai li ci hli.out _).mono ?_
      rintro e w3 ⟨rfl, b3⟩
      have B3 := b1.trans (b3.mono b1.size)
      clear c1 c2 b3 b1 hli hI
      cases hp : longB x
      · have HP : Hid (longB x = false) := hp
        clear hp
        go_wp2
        go_roundw
        case rel => exact ⟨k + 1, by omega, by go_num, B3, fun j y hj hy => by
              rcases Nat.lt_or_ge j k with h | h
              · exact HH.out j y h hy
              · obtain rfl : j = k := (by omega)
                have := HX.out.symm.trans hy
                cases this
                exact HP.out⟩
        case measure => simp [intOf]; omega
      · have HE : Hid (idxN longB L = (k : Int)) := idxN_some HX.out hp HH.out
        clear hp
        go_wp2
        go_ret
        exact ⟨by rw [HE.out]; rfl, B3⟩
    · obtain rfl : k = n := by omega
      have HE : Hid (idxN longB L = -1) := idxN_none fun j y hy => HH.out j y (by have := (List.getElem?_eq_some_iff.1 hy).1; have := HnL.out; omega) hy
      go_wp2
      go_ret
      exact ⟨by rw [HE.out]; rfl, b1⟩

set_option maxHeartbeats 2000000 in
theorem index_id (w : World) (a : Option Addr) (n c : Nat) (L : List El) {m0 : Nat} (hv : IsI m0 w a n L) (hm0 : m0 ≤ w.heap.size) (hn : n ≤ 1000) (b : Nat) (id : UInt8) (hb : BK w b #[.int .u8 (id.toNat : Int)] 5) :
    Calls Tryd.prog 57 #[.slice a n c, .func (.func 58) #[] #[.pointer (some ⟨b, 0, none⟩)]] w fun e w' => e = .returned (.int .i64 (idxN (idB id) L)) ∧ Below w.heap.size w w' := by
  have HnL : Hid (n = L.length) := hv.1
  go_enter Tryd.func57, Tryd.ntmps57
  go_wp2
  go_loopw [8] (fun iv wr => ∃ (k : Nat), k ≤ n ∧ iv = .int .i64 k ∧ Below w.heap.size w wr ∧ (∀ (j : Nat) (y : El), j < k → L[j]? = some y → (idB id) y = false)) (fun iv _ => n - (intOf iv).toNat)
  case atStart => exact ⟨0, Nat.zero_le _, rfl, Below.refl _ _, fun j y hj => absurd hj (Nat.not_lt_zero _)⟩
  case round =>
    obtain ⟨k, hk, rfl, b1, hh⟩ := hrel
    have HH : Hid (∀ (j : Nat) (y : El), j < k → L[j]? = some y → (idB id) y = false) := hh
    clear hh
    by_cases hlt : k < n
    · obtain ⟨bb, off, x, ai, li, ci, rfl, hbm, hx, hI, hn0, hlc, c1, c2⟩ := (hv.below b1 hm0).at hlt
      have HX : Hid (L[k]? = some x) := hx
      have hli : Hid (li = x.body.length) := hI.1
      have KB := hb.below b1 hb.lt
      clear hx
      go_wp2_with fail
      refine (find_calls x ai li ci id b _ KB).mono ?_
      rintro e w3 ⟨rfl, b3⟩
      have B3 := b1.trans (b3.mono b1.size)
      clear c1 c2 b3 b1 hli hI
      cases hp : (idB id) x
      · have HP : Hid ((idB id) x = false) := hp
        clear hp
        go_wp2
        go_roundw
        case rel => exact ⟨k + 1, by omega, by go_num, B3, fun j y hj hy => by
              rcases Nat.lt_or_ge j k with h | h
              · exact HH.out j y h hy
              · obtain rfl : j = k := (by omega)
                have := HX.out.symm.trans hy
                cases this
                exact HP.out⟩
        case measure => simp [intOf]; omega
      · have HE : Hid (idxN (idB id) L = (k : Int)) := idxN_some HX.out hp HH.out
        clear hp
        go_wp2
        go_ret
        exact ⟨by rw [HE.out]; rfl, B3⟩
    · obtain rfl : k = n := by omega
      have HE : Hid (idxN (idB id) L = -1) := idxN_none fun j y hy => HH.out j y (by have := (List.getElem?_eq_some_iff.1 hy).1; have := HnL.out; omega) hy
      go_wp2
      go_ret
      exact ⟨by rw [HE.out]; rfl, b1⟩

theorem any_iff {L : List El} {p : El → Bool} : (decide (0 ≤ idxN p L)) = L.any p := by
  unfold idxN
  cases h : L.findIdx? p with
  | none =>
    have := List.findIdx?_eq_none_iff.1 h
    rw [List.any_eq_false.2 (fun x hx => by rw [this x hx]; simp)]
    rfl
  | some k =>
    obtain ⟨hk, hp, _⟩ := List.findIdx?_eq_some_iff_getElem.1 h
    rw [List.any_eq_true.2 ⟨_, List.getElem_mem hk, hp⟩]
    simp
set_option maxHeartbeats 1000000 in
theorem contains_calls (w : World) (a : Option Addr) (n c : Nat) (L : List El) {m0 : Nat} (hv : IsI m0 w a n L) (hm0 : m0 ≤ w.heap.size) (hn : n ≤ 1000) :
    Calls Tryd.prog 53 #[.slice a n c, .func (.func 52) #[] #[]] w fun e w' => e = .returned (.bool (L.any longB)) ∧ Below w.heap.size w w' := by
  have HC := index_long w a n c L hv hm0 hn
  have HE : Hid (decide (0 ≤ idxN longB L) = L.any longB) := any_iff
  generalize idxN longB L = z at *
  go_enter Tryd.func53, Tryd.ntmps53
  go_wp2_with fail
  refine HC.mono ?_
  rintro e w3 ⟨rfl, b3⟩
  go_wp2
  go_ret
  exact ⟨ret_bool HE.out, b3⟩
end Go.Proofs.YtbjeljmnknibnaaDoor
