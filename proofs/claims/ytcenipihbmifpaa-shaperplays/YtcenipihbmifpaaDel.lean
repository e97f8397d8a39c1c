/- Proved here: slices.IndexFunc and slices.DeleteFunc at slices of changes, with the function that come hands in. Conditions: as each theorem states them. -/
import Derived.Test.YtcenipihbmifpaaIns
import Derived.Test.YtcenipihbmifpaaPl
namespace Go.Proofs.Ytcenipihbmifpaa
set_option linter.unusedSimpArgs false
set_option linter.unusedVariables false
open Go.RowKit Go.Shelf

theorem gb_refl (w : World) (row : Option Nat) : w.grownBy w row := ⟨rfl, rfl, rfl, Nat.le_refl _, fun _ _ _ => rfl⟩
theorem gb_trans {a b c : World} {row : Option Nat} (h : a.grownBy b row) (k : b.grownBy c row) : a.grownBy c row :=
  ⟨k.os.trans h.os, k.tape.trans h.tape, k.output.trans h.output, Nat.le_trans h.size k.size, fun i hi hr => (k.block i (Nat.lt_of_lt_of_le hi h.size) hr).trans (h.block i hi hr)⟩
theorem gb_below {a b : World} {row : Option Nat} {m : Nat} (h : Below m a b) (hm : a.heap.size ≤ m) : a.grownBy b row := ⟨h.os, h.tape, h.output, h.size, fun k hk _ => h.block k (by omega)⟩
theorem gb_alloc (a : World) (row : Option Nat) (o : Obj) : a.grownBy (a.alloc o) row := gb_below ((Below.refl a.heap.size a).alloc (Nat.le_refl _) o) (Nat.le_refl _)
theorem gb_set (w : World) {g : Nat} {p : Addr} (hp : p.block = g) (u : Value) : w.grownBy (w.setCell p u) (some g) := ⟨rfl, rfl, rfl, by simp [World.setCell], fun k _ hk => Below.heap_setCell _ _ _ _ (fun e => hk (by rw [e, hp]))⟩
theorem gb_row (w : World) (g : Nat) (A : Array Value) : w.grownBy (w.setRow g A) (some g) := ⟨rfl, rfl, rfl, by simp, fun k _ hk => setRow_other w g k A (fun e => hk (by rw [e]))⟩
theorem BK.gb {w w' : World} {b : Nat} {vs : Array Value} {t : TypeId} (h : BK w b vs t) {row : Option Nat} (hg : w.grownBy w' row) (hne : some b ≠ row) : BK w' b vs t := (hg.block b h.lt hne).trans h

theorem gone_calls (w : World) (x : Int × Int) (b : Nat) (t : Int) (hb : BK w b #[.int .i64 t] 3) : Calls Try.prog 34 #[.agg #[.int .i64 x.1, .int .i64 x.2], .pointer (some ⟨b, 0, none⟩)] w fun e w' => e = .returned (.bool (decide (x.2 ≤ t))) ∧ Below w.heap.size w w' := by
  have k0 := hb.cell 0 _ rfl
  have kl := hb.lt
  go_enter Try.func34, Try.ntmps34
  go_wp2
  go_ret
  exact ⟨rfl, (Below.refl _ w).alloc (Nat.le_refl _) _⟩

set_option maxHeartbeats 2000000 in
theorem index_calls (w : World) (a : Option Addr) (n c : Nat) (L : List (Int × Int)) (hv : CS 64 0 w a n c L) (hn : n ≤ 8) (b : Nat) (t : Int) (hb : BK w b #[.int .i64 t] 3) :
    Calls Try.prog 39 #[.slice a n c, .func (.func 34) #[] #[.pointer (some ⟨b, 0, none⟩)]] w fun e w' => Below w.heap.size w w' ∧
      ((e = .returned (.int .i64 (-1)) ∧ ∀ (j : Nat) (y : Int × Int), L[j]? = some y → t < y.2) ∨ ∃ (k : Nat) (x : Int × Int), e = .returned (.int .i64 k) ∧ L[k]? = some x ∧ x.2 ≤ t ∧ ∀ (j : Nat) (y : Int × Int), j < k → L[j]? = some y → t < y.2) := by
  have HnL : Hid (n = L.length) := hv.1
  go_enter Try.func39, Try.ntmps39
  go_wp2
  go_loopw [8] (fun iv wr => ∃ (k : Nat), k ≤ n ∧ iv = .int .i64 k ∧ Below w.heap.size w wr ∧ (∀ (j : Nat) (y : Int × Int), j < k → L[j]? = some y → t < y.2)) (fun iv _ => n - (intOf iv).toNat)
  case atStart => exact ⟨0, Nat.zero_le _, rfl, Below.refl _ _, fun j y hj => absurd hj (Nat.not_lt_zero _)⟩
  case round =>
    obtain ⟨k, hk, rfl, b1, hh⟩ := hrel
    have HH : Hid (∀ (j : Nat) (y : Int × Int), j < k → L[j]? = some y → t < y.2) := hh
    clear hh
    by_cases hlt : k < n
    · obtain ⟨x, hx⟩ : ∃ x, L[k]? = some x := ⟨_, List.getElem?_eq_getElem (by have := HnL.out; omega)⟩
      have HX : Hid (L[k]? = some x) := hx
      obtain ⟨g, rfl, c1, c2⟩ := (hv.below b1 (Nat.le_refl _)).cell hx
      have K1 := hb.below b1 hb.lt
      clear hx
      go_wp2_with fail
      refine (gone_calls _ x b t K1).mono ?_
      rintro e w3 ⟨rfl, b3⟩
      have B3 := b1.trans (b3.mono b1.size)
      clear c1 c2 K1 b3 b1
      by_cases hxt : x.2 ≤ t
      · have hdx : decide (x.2 ≤ t) = true := decide_eq_true hxt
        have HT : Hid (x.2 ≤ t) := hxt
        clear hxt
        rw [hdx]
        go_wp2
        go_ret
        exact ⟨B3, .inr ⟨k, x, rfl, HX.out, HT.out, HH.out⟩⟩
      · have hdx : decide (x.2 ≤ t) = false := decide_eq_false hxt
        have HT : Hid (¬ x.2 ≤ t) := hxt
        clear hxt
        rw [hdx]
        go_wp2
        go_roundw
        case rel => exact ⟨k + 1, by omega, by go_num, B3, fun j y hj hy => by
              rcases Nat.lt_or_ge j k with h | h
              · exact HH.out j y h hy
              · obtain rfl : j = k := (by omega)
                have := HX.out.symm.trans hy
                cases this
                have := HT.out
                omega⟩
        case measure => simp [intOf]; omega
    · obtain rfl : k = n := by omega
      go_wp2
      go_ret
      exact ⟨b1, .inl ⟨rfl, fun j y hy => HH.out j y (by have := (List.getElem?_eq_some_iff.1 hy).1; have := HnL.out; omega) hy⟩⟩

/-- What is left is cleared. -/
theorem cs_clear {w : World} {base g n c i : Nat} {X : List (Int × Int)} (h : CS 64 base w (some ⟨g, 0, none⟩) n c X) (hi : i ≤ n) :
    ∃ w', (∀ ty cc, (Builtin.clear_ #[57] ty #[.slice (some ⟨g, i * 2, none⟩) (n - i) cc]).run Try.prog w = .ok (.tuple #[]) w') ∧ CS 64 base w' (some ⟨g, 0, none⟩) i c (X.take i) ∧ w.grownBy w' (some g) := by
  obtain ⟨g', cur, e1, hg, hh, h1, h2, h3, h4⟩ := h.block
  cases e1
  have hn := h.1
  have hcl : cur.toList.length = c * 2 := by simpa using h3
  refine ⟨_, fun ty cc => run_clear_c w ty g (i * 2) (n - i) cc cur _ hh (by omega), ⟨by rw [List.length_take]; omega, by rw [ccells_length, List.length_take]; omega, .inr ⟨g, c, _, rfl, hg, bk_setRow hh _, by omega, h2, ?_, ?_⟩⟩, gb_row w g _⟩
  · simp only [List.size_toArray, List.length_append, List.length_take, List.length_drop, ccells_length, List.length_replicate]
    omega
  · rw [List.append_assoc, List.take_append_of_le_length (by rw [List.length_take]; omega), List.take_take, ← ccells_take, ← h4, List.take_take]
    congr 1
    omega
theorem take_set_snoc {α : Type} (X : List α) (i : Nat) (x : α) (h : i < X.length) : (X.set i x).take (i + 1) = X.take i ++ [x] := by
  rw [List.take_add_one, List.getElem?_set_self (by simpa using h), List.take_set_of_le (Nat.le_refl _)]
  rfl
theorem lfN_snoc (L : List (Int × Int)) (x : Int × Int) (t : Int) : lfN (L ++ [x]) t = lfN L t ++ if t < x.2 then [x] else [] := by
  unfold lfN
  rw [List.filter_append]
  congr 1
  simp [List.filter_cons]
theorem lfN_all {L : List (Int × Int)} {t : Int} (h : ∀ y ∈ L, t < y.2) : lfN L t = L := List.filter_eq_self.2 (fun y hy => decide_eq_true (h y hy))
end Go.Proofs.Ytcenipihbmifpaa
