/- Proved here: how rows of bytes in memory are spoken of. Conditions: as each theorem states them. -/
import Derived.WalkKit
import Derived.ProofKit
import Derived.OpenShut
import Derived.Handy
import Derived.Below
namespace Go.Proofs.YtehkcdnblhfnaaaDoor
open Go.RowKit

/-- A slice value holds the bytes zs; its cells lie below n. -/
def IsB (n : Nat) (W : World) (a : Option Addr) (len : Nat) (zs : List UInt8) : Prop :=
  len = zs.length ∧ (zs = [] ∨ ∃ b off, a = some ⟨b, off, none⟩ ∧ b < n ∧ ∀ j x, zs[j]? = some x → W.cell? ⟨b, off + j, none⟩ = some (.int .u8 (x.toNat : Int)))

theorem IsB.below {n m : Nat} {A B : World} (h : Below m A B) (hm : n ≤ m) {a : Option Addr} {len : Nat} {zs : List UInt8} : IsB n A a len zs → IsB n B a len zs
  | ⟨e, .inl z⟩ => ⟨e, .inl z⟩
  | ⟨e, .inr ⟨b, off, ea, hb, hc⟩⟩ => ⟨e, .inr ⟨b, off, ea, hb, fun j x hx => (h.cell (p := ⟨b, off + j, none⟩) (by show b < m; omega)).trans (hc j x hx)⟩⟩
theorem IsB.cell {n : Nat} {W : World} {a : Option Addr} {len : Nat} {zs : List UInt8} (h : IsB n W a len zs) {k : Nat} {x : UInt8} (hx : zs[k]? = some x) :
    ∃ b off, a = some ⟨b, off, none⟩ ∧ b < n ∧ ∀ j y, zs[j]? = some y → W.cell? ⟨b, off + j, none⟩ = some (.int .u8 (y.toNat : Int)) := by
  rcases h.2 with rfl | h
  · cases hx
  · exact h
theorem IsB.mono {n m : Nat} {W : World} {a : Option Addr} {len : Nat} {zs : List UInt8} (h : IsB n W a len zs) (hm : n ≤ m) : IsB m W a len zs :=
  ⟨h.1, h.2.imp id fun ⟨b, off, e, hb, hc⟩ => ⟨b, off, e, Nat.lt_of_lt_of_le hb hm, hc⟩⟩
theorem IsB.drew {n : Nat} {W : World} {a : Option Addr} {len : Nat} {zs : List UInt8} (h : IsB n W a len zs) : IsB n W.drew a len zs := h.below (m := n) ((Below.refl n W).drew) (Nat.le_refl _)

theorem heap_new (w : World) (o : Obj) : (w.alloc o).heap[w.heap.size]? = some o := by unfold World.alloc; simp
def vals (zs : List UInt8) : List Value := zs.map fun x => Value.int .u8 (x.toNat : Int)
theorem cell_new_any (w : World) (o : Array Value) (t : TypeId) (m : Nat × Nat) (k : Nat) (v : Value) (h : o[k]? = some v) : (w.alloc (.cells o t m)).cell? ⟨w.heap.size, k, none⟩ = some v := by
  unfold World.cell?
  rw [show (w.alloc (.cells o t m)).heap[(⟨w.heap.size, k, none⟩ : Addr).block]? = some (.cells o t m) from heap_new w (.cells o t m)]
  exact h
theorem isB_new (w : World) (zs : List UInt8) (t : TypeId) (m : Nat × Nat) : IsB (w.heap.size + 1) (w.alloc (.cells (vals zs).toArray t m)) (some ⟨w.heap.size, 0, none⟩) zs.length zs := by
  refine ⟨rfl, .inr ⟨_, 0, rfl, by omega, fun j x hx => ?_⟩⟩
  rw [Nat.zero_add]
  exact cell_new_any w _ t m j _ (by simp [vals, hx])

theorem ret_bool {a b : Bool} (h : a = b) : Ending.returned (.bool a) = .returned (.bool b) := by rw [h]
theorem ret_int {k : IntKind} {a b : Int} (h : a = b) : Ending.returned (.int k a) = .returned (.int k b) := by rw [h]
theorem ofNat_toNat_lt {x : Nat} (h : x < 256) : (UInt8.ofNat x).toNat = x := by simp [UInt8.toNat_ofNat']; omega
theorem byte_of_wf {z : Int} (h : (Lit.int .u8 z).wf = true) : ∃ x : UInt8, z = (x.toNat : Int) := by
  have hb := bounds_u8 h
  exact ⟨UInt8.ofNat z.toNat, by rw [ofNat_toNat_lt (by omega)]; omega⟩

theorem isB_of_row {w : World} {a : Option Addr} {len cap : Nat} {zs : List Int} (h : (a = none ∧ len = 0 ∧ cap = 0 ∧ zs = []) ∨
    ∃ x, a = some x ∧ len ≤ cap ∧ cap ≤ maxLen ∧ zs.length = cap ∧ (∀ i, i < zs.length → w.cell? (x.add i) = some (.int .u8 (zs.getD i 0))) ∧ ∀ n ∈ zs, (Lit.int .u8 n).wf = true) :
    ∃ bs : List UInt8, bs.length = len ∧ IsB w.heap.size w a len bs ∧ (a = none → cap = 0) ∧ len ≤ cap ∧ bs.length ≤ maxLen := by
  rcases h with ⟨rfl, rfl, rfl, rfl⟩ | ⟨x, rfl, hl, hm, hz, hc, hw⟩
  · exact ⟨[], rfl, ⟨rfl, .inl rfl⟩, fun _ => rfl, Nat.le_refl _, by simp⟩
  · refine ⟨(zs.take len).map fun n => UInt8.ofNat n.toNat, by simp; omega, ⟨by simp; omega, ?_⟩, (by intro h; cases h), hl, by simp; omega⟩
    by_cases h0 : len = 0
    · left; simp [h0]
    · right
      obtain ⟨b, off, rfl, hcx⟩ := ints_at hc (by omega)
      refine ⟨b, off, rfl, World.block_lt_of_cell? w ⟨b, off + 0, none⟩ (hcx 0 (by omega)), fun j y hy => ?_⟩
      have hj : j < ((zs.take len).map fun n => UInt8.ofNat n.toNat).length := (List.getElem?_eq_some_iff.1 hy).1
      simp at hj
      rw [hcx j (by omega)]
      simp only [List.getElem?_map, Option.map_eq_some_iff] at hy
      obtain ⟨n, hn, rfl⟩ := hy
      rw [List.getElem?_take_of_lt (by omega)] at hn
      have hmem : n ∈ zs := List.mem_of_getElem? hn
      have hb := bounds_u8 (hw n hmem)
      rw [List.getD_eq_getElem?_getD, hn]
      simp only [Option.getD_some]
      rw [ofNat_toNat_lt (by omega)]
      congr 2; omega
end Go.Proofs.YtehkcdnblhfnaaaDoor
