/- Proved here: the law's own rising answers the sums of the gaps, and how a slice of numbers that came in reads. Conditions: as each theorem states them. -/
import Derived.Test.YtkndejpklibkfaaAwake
namespace Go.Proofs.Ytkndejpklibkfaa
set_option linter.unusedSimpArgs false
set_option linter.unusedVariables false
open Go.RowKit

/-- The time behind so many gaps, and all such times. -/
def tmN (zs : List Int) (k : Nat) : Int := (zs.take k).sum
def rises (zs : List Int) (k : Nat) : List Int := (List.range k).map fun j => tmN zs (j + 1)
theorem tmN_zero (zs : List Int) : tmN zs 0 = 0 := by simp [tmN]
theorem tmN_succ {zs : List Int} {k : Nat} {x : Int} (h : zs[k]? = some x) : tmN zs (k + 1) = tmN zs k + x := by
  unfold tmN
  obtain ⟨hk, rfl⟩ := List.getElem?_eq_some_iff.1 h
  rw [List.take_add_one, List.getElem?_eq_getElem hk]
  simp only [Option.toList_some, List.sum_append, List.sum_cons, List.sum_nil]
  omega
theorem tmN_bound {zs : List Int} (hb : ∀ z ∈ zs, 0 ≤ z ∧ z < 4294967296) : ∀ k, 0 ≤ tmN zs k ∧ tmN zs k ≤ 4294967296 * (k : Int) := by
  intro k
  induction k with
  | zero => simp [tmN]
  | succ k ih =>
    cases h : zs[k]? with
    | none =>
      have e : tmN zs (k + 1) = tmN zs k := by unfold tmN; rw [List.take_add_one, h]; simp
      rw [e]; omega
    | some x =>
      have := hb x (List.mem_of_getElem? h)
      rw [tmN_succ h]; omega
theorem tmN_mono {zs : List Int} (hb : ∀ z ∈ zs, 0 ≤ z ∧ z < 4294967296) (k : Nat) : ∀ j, tmN zs k ≤ tmN zs (k + j) := by
  intro j
  induction j with
  | zero => simp
  | succ j ih =>
    rw [← Nat.add_assoc]
    cases h : zs[k + j]? with
    | none =>
      have e : tmN zs (k + j + 1) = tmN zs (k + j) := by unfold tmN; rw [List.take_add_one, h]; simp
      omega
    | some x =>
      have := hb x (List.mem_of_getElem? h)
      rw [tmN_succ h]; omega
theorem rises_succ (zs : List Int) (k : Nat) : rises zs (k + 1) = rises zs k ++ [tmN zs (k + 1)] := by simp [rises, List.range_succ]
theorem rises_length (zs : List Int) (k : Nat) : (rises zs k).length = k := by simp [rises]
theorem rises_get (zs : List Int) {k j : Nat} (h : j < k) : (rises zs k)[j]? = some (tmN zs (j + 1)) := by simp [rises, h]

theorem info3 : (Try.prog.info? 3).map (fun i => (i.zero, i.size, i.bytes)) = some (some (.int .i64 0), 1, 8) := by kernel_rfl

/-- A slice of numbers that came in. -/
theorem isR_of_row {k : IntKind} {w : World} {a : Option Addr} {len cap : Nat} {zs : List Int} (h : (a = none ∧ len = 0 ∧ cap = 0 ∧ zs = []) ∨
    ∃ x, a = some x ∧ len ≤ cap ∧ cap ≤ maxLen ∧ zs.length = cap ∧ (∀ i, i < zs.length → w.cell? (x.add i) = some (.int k (zs.getD i 0))) ∧ ∀ n ∈ zs, (Lit.int k n).wf = true) :
    ∃ ys : List Int, IsR k w.heap.size w a len ys ∧ len ≤ cap ∧ ∀ y ∈ ys, (Lit.int k y).wf = true := by
  rcases h with ⟨rfl, rfl, rfl, rfl⟩ | ⟨x, rfl, hl, hm, hz, hc, hw⟩
  · exact ⟨[], ⟨rfl, .inl rfl⟩, Nat.le_refl _, by simp⟩
  · refine ⟨zs.take len, ⟨by simp; omega, ?_⟩, hl, fun y hy => hw y (List.mem_of_mem_take hy)⟩
    by_cases h0 : len = 0
    · left; simp [h0]
    · right
      obtain ⟨b, off, rfl, hcx⟩ := ints_at hc (by omega)
      refine ⟨b, off, rfl, World.block_lt_of_cell? w ⟨b, off + 0, none⟩ (hcx 0 (by omega)), fun j y hy => ?_⟩
      have hj : j < (zs.take len).length := (List.getElem?_eq_some_iff.1 hy).1
      simp at hj
      rw [hcx j (by omega)]
      rw [List.getElem?_take_of_lt (by omega)] at hy
      rw [List.getD_eq_getElem?_getD, hy]
      rfl
theorem bounds_w32 {n : Int} (h : (Lit.int .u32 n).wf = true) : 0 ≤ n ∧ n < 4294967296 := by
  have := bounds_u32 h
  omega
theorem IsR.at {k : IntKind} {n : Nat} {W : World} {a : Option Addr} {len : Nat} {zs : List Int} (h : IsR k n W a len zs) {i : Nat} (hi : i < len) :
    ∃ b off x, a = some ⟨b, off, none⟩ ∧ b < n ∧ zs[i]? = some x ∧ W.cell? ⟨b, off + i, none⟩ = some (.int k x) := by
  have hl : i < zs.length := by have := h.1; omega
  obtain ⟨b, off, ea, hb, hc⟩ := h.cell (List.getElem?_eq_getElem hl)
  exact ⟨b, off, zs[i], ea, hb, List.getElem?_eq_getElem hl, hc i _ (List.getElem?_eq_getElem hl)⟩

set_option maxHeartbeats 1000000 in
theorem rising_calls (a : Option Addr) (len cap : Nat) (zs : List Int) (w : World) {n : Nat} (h : IsR .u32 n w a len zs) (hn : n ≤ w.heap.size) (hb : ∀ z ∈ zs, 0 ≤ z ∧ z < 4294967296) (hl : len ≤ 300) :
    Calls Try.prog 11 #[.slice a len cap] w fun e w' => ∃ a' c', e = .returned (.slice a' len c') ∧ OwnR 3 .i64 w.heap.size w' a' len c' (rises zs len) ∧ Below w.heap.size w w' := by
  have HB : Hid (∀ z ∈ zs, 0 ≤ z ∧ z < 4294967296) := hb
  clear hb
  go_enter Try.func11, Try.ntmps11
  go_wp2
  go_loopw [3, 4, 8] (fun ov tv iv wr => ∃ (k : Nat) (a' : Option Addr) (c' : Nat), k ≤ len ∧ iv = .int .i64 k ∧ tv = .int .i64 (tmN zs k) ∧ ov = .slice a' k c' ∧ OwnR 3 .i64 w.heap.size wr a' k c' (rises zs k) ∧ Below w.heap.size w wr) (fun _ _ iv _ => len - (intOf iv).toNat)
  case atStart => exact ⟨0, none, 0, Nat.zero_le _, rfl, by rw [tmN_zero], rfl, ownR_nil 3 .i64 _ w, Below.refl _ _⟩
  case round =>
    obtain ⟨k, a', c', hk, rfl, rfl, rfl, o1, b1⟩ := hrel
    by_cases hlt : k < len
    · obtain ⟨b, off, x, rfl, hb, hx, c1⟩ := (h.below b1 hn).at hlt
      have hs := tmN_succ hx
      have ⟨x0, x1⟩ := HB.out x (List.mem_of_getElem? hx)
      have ⟨t0, t1⟩ := tmN_bound HB.out k
      have hr := rises_succ zs k
      rw [hs] at hr
      obtain ⟨t, ht⟩ : ∃ t, tmN zs k = t := ⟨_, rfl⟩
      rw [ht] at hs hr t0 t1 ⊢
      have t2 : t ≤ 1288490188800 := by omega
      have HS : Hid (tmN zs (k + 1) = t + x) := hs
      have HR : Hid (rises zs (k + 1) = rises zs k ++ [t + x]) := hr
      clear hs hr ht hx t1
      obtain ⟨a3, c3, w3, hap, o3, b3⟩ := run_appR (P := Try.prog) 27 3 .i64 0 8 Try.underlying27 info3 (by decide) (wr.alloc (.cells #[.int .i64 (t + x)] 3)) w.heap.size 27 a' k c' _ (o1.below ((Below.refl _ wr).alloc (Nat.le_refl _) _) (Nat.le_refl _)) (some ⟨wr.heap.size, 0, none⟩) 1 1 [t + x] (isR_new .i64 wr [t + x] 3 (0, 0)) (by intro h; cases h) (by omega) (by have := b1.size; simp; omega)
      clear h
      go_wp2_with (at_builtin; refine wpList_app hap _ _ rfl rfl rfl rfl rfl ?_)
      go_roundw
      case rel => exact ⟨k + 1, a3, c3, by omega, by go_num, by rw [HS.out], rfl, by rw [HR.out]; exact o3, (b1.alloc b1.size _).trans b3⟩
      case measure => simp [intOf]; omega
    · obtain rfl : k = len := by omega
      go_wp2
      go_ret
      exact ⟨a', c', rfl, o1, b1⟩
end Go.Proofs.Ytkndejpklibkfaa
