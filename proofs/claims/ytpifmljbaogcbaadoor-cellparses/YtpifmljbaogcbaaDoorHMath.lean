/- Proved here: a header's numbers, its word and its bytes, as numbers. Conditions: as each theorem states them. -/
import Derived.Test.YtpifmljbaogcbaaDoorRet
import Derived.Laws.BitsAllLaws
namespace Go.Proofs.YtpifmljbaogcbaaDoor.H
open Go.RowKit

/-- Can the numbers be? -/
def rightB (nni : Bool) (g p v t c : Int) : Bool :=
  decide ((if nni then g = 0 else 0 ≤ g ∧ g < 16) ∧ (0 ≤ p ∧ p < if nni then 4096 else 256) ∧ (0 ≤ v ∧ v < 65536) ∧ (0 ≤ t ∧ t < 8) ∧ (0 ≤ c ∧ c < 2))
/-- The word that they are. -/
def word (g p v t c : Int) : Int := g * 268435456 + p * 1048576 + v * 16 + t * 2 + c

theorem right_user {g p v t c : Int} : rightB false g p v t c = true ↔ (0 ≤ g ∧ g < 16) ∧ (0 ≤ p ∧ p < 256) ∧ (0 ≤ v ∧ v < 65536) ∧ (0 ≤ t ∧ t < 8) ∧ (0 ≤ c ∧ c < 2) := by
  simp [rightB]
theorem right_nni {g p v t c : Int} : rightB true g p v t c = true ↔ g = 0 ∧ (0 ≤ p ∧ p < 4096) ∧ (0 ≤ v ∧ v < 65536) ∧ (0 ≤ t ∧ t < 8) ∧ (0 ≤ c ∧ c < 2) := by
  simp [rightB]
theorem wrong_user {g p v t c : Int} : rightB false g p v t c = false ↔ ¬ ((0 ≤ g ∧ g < 16) ∧ (0 ≤ p ∧ p < 256) ∧ (0 ≤ v ∧ v < 65536) ∧ (0 ≤ t ∧ t < 8) ∧ (0 ≤ c ∧ c < 2)) := by
  rw [← right_user]; simp
theorem wrong_nni {g p v t c : Int} : rightB true g p v t c = false ↔ ¬ (g = 0 ∧ (0 ≤ p ∧ p < 4096) ∧ (0 ≤ v ∧ v < 65536) ∧ (0 ≤ t ∧ t < 8) ∧ (0 ≤ c ∧ c < 2)) := by
  rw [← right_nni]; simp
theorem word_lt {nni : Bool} {g p v t c : Int} (h : rightB nni g p v t c = true) : 0 ≤ word g p v t c ∧ word g p v t c < 4294967296 := by
  unfold word
  cases nni
  · have := right_user.1 h; omega
  · have := right_nni.1 h; omega

theorem or_low (a b : Int) (k : Nat) (ha : 0 ≤ a) (hb : 0 ≤ b) (hm : a * 2 ^ k < 4294967296) (hlt : b < 2 ^ k) (hb2 : b < 4294967296) : bits .or .u32 (a * 2 ^ k % 4294967296) b = a * 2 ^ k + b := by
  obtain ⟨x, rfl⟩ := Int.eq_ofNat_of_zero_le ha
  obtain ⟨y, rfl⟩ := Int.eq_ofNat_of_zero_le hb
  have e1 : (x : Int) * 2 ^ k = ((x * 2 ^ k : Nat) : Int) := by simp
  have e2 : ((2 ^ k : Nat) : Int) = (2 : Int) ^ k := by simp
  rw [← e2] at hlt
  rw [e1] at hm ⊢
  have h1 : x * 2 ^ k < 4294967296 := by omega
  have h2 : y < 2 ^ k := by omega
  rw [Int.emod_eq_of_lt (by omega) hm, u32_or_nat _ _ h1 (by omega), Nat.mul_comm, ← Nat.two_pow_add_eq_or_of_lt h2]
  simp
theorem or_zero (b : Int) (hb : 0 ≤ b) (hb2 : b < 4294967296) : bits .or .u32 0 b = b := by
  have := or_low 0 b 32 (by omega) hb (by omega) (by simpa using hb2) hb2
  simpa using this

theorem laid_user (g p v t c : Int) (g0 : 0 ≤ g) (g1 : g < 16) (p0 : 0 ≤ p) (p1 : p < 256) (v0 : 0 ≤ v) (v1 : v < 65536) (t0 : 0 ≤ t) (t1 : t < 8) (c0 : 0 ≤ c) (c1 : c < 2) :
    bits .or .u32 (bits .or .u32 (bits .or .u32 (bits .or .u32 (bits .or .u32 0 g * 256 % 4294967296) p * 65536 % 4294967296) v * 8 % 4294967296) t * 2 % 4294967296) c = word g p v t c := by
  have e1 := or_low g p 8 g0 p0 (by omega) (by omega) (by omega)
  have e2 := or_low (g * 256 + p) v 16 (by omega) v0 (by omega) (by omega) (by omega)
  have e3 := or_low ((g * 256 + p) * 65536 + v) t 3 (by omega) t0 (by omega) (by omega) (by omega)
  have e4 := or_low (((g * 256 + p) * 65536 + v) * 8 + t) c 1 (by omega) c0 (by omega) (by omega) (by omega)
  simp only [Int.reducePow] at e1 e2 e3 e4
  rw [or_zero g g0 (by omega), e1, e2, e3, e4]
  unfold word; omega
theorem laid_nni (p v t c : Int) (p0 : 0 ≤ p) (p1 : p < 4096) (v0 : 0 ≤ v) (v1 : v < 65536) (t0 : 0 ≤ t) (t1 : t < 8) (c0 : 0 ≤ c) (c1 : c < 2) :
    bits .or .u32 (bits .or .u32 (bits .or .u32 (bits .or .u32 0 p * 65536 % 4294967296) v * 8 % 4294967296) t * 2 % 4294967296) c = word 0 p v t c := by
  have e2 := or_low p v 16 (by omega) v0 (by omega) (by omega) (by omega)
  have e3 := or_low (p * 65536 + v) t 3 (by omega) t0 (by omega) (by omega) (by omega)
  have e4 := or_low ((p * 65536 + v) * 8 + t) c 1 (by omega) c0 (by omega) (by omega) (by omega)
  simp only [Int.reducePow] at e2 e3 e4
  rw [or_zero p p0 (by omega), e2, e3, e4]
  unfold word; omega

/-- A word's bytes, the highest first. -/
def bytesN (n : Nat) : List UInt8 := [UInt8.ofNat (n / 16777216), UInt8.ofNat (n / 65536 % 256), UInt8.ofNat (n / 256 % 256), UInt8.ofNat (n % 256)]
/-- The word of four bytes. -/
def numN (x0 x1 x2 x3 : UInt8) : Nat := x0.toNat * 16777216 + x1.toNat * 65536 + x2.toNat * 256 + x3.toNat
theorem numN_lt (x0 x1 x2 x3 : UInt8) : numN x0 x1 x2 x3 < 4294967296 := by
  have := x0.toNat_lt; have := x1.toNat_lt; have := x2.toNat_lt; have := x3.toNat_lt
  unfold numN; omega
theorem numN_bytes (n : Nat) (h : n < 4294967296) : numN (UInt8.ofNat (n / 16777216)) (UInt8.ofNat (n / 65536 % 256)) (UInt8.ofNat (n / 256 % 256)) (UInt8.ofNat (n % 256)) = n := by
  unfold numN
  rw [ofNat_toNat_lt (by omega), ofNat_toNat_lt (by omega), ofNat_toNat_lt (by omega), ofNat_toNat_lt (by omega)]
  omega
theorem toNat_eq {x : UInt8} {n : Nat} (h : n = x.toNat) : UInt8.ofNat n = x := by subst h; simp
theorem bytesN_num (x0 x1 x2 x3 : UInt8) : bytesN (numN x0 x1 x2 x3) = [x0, x1, x2, x3] := by
  have := x0.toNat_lt; have := x1.toNat_lt; have := x2.toNat_lt; have := x3.toNat_lt
  unfold bytesN
  rw [toNat_eq (x := x0) (by unfold numN; omega), toNat_eq (x := x1) (by unfold numN; omega), toNat_eq (x := x2) (by unfold numN; omega), toNat_eq (x := x3) (by unfold numN; omega)]
theorem bytesN_inj {m n : Nat} (hm : m < 4294967296) (hn : n < 4294967296) (h : bytesN m = bytesN n) : m = n := by
  have em := numN_bytes m hm
  have en := numN_bytes n hn
  simp only [bytesN, List.cons.injEq, and_true] at h
  rw [h.1, h.2.1, h.2.2.1, h.2.2.2, en] at em
  exact em.symm

theorem vals_bytes (n : Nat) (h : n < 4294967296) : (vals (bytesN n)).toArray = #[.int .u8 ((n : Int) / 16777216), .int .u8 ((n : Int) / 65536 % 256), .int .u8 ((n : Int) / 256 % 256), .int .u8 ((n : Int) % 256)] := by
  simp only [vals, bytesN, List.map_cons, List.map_nil]
  rw [ofNat_toNat_lt (by omega), ofNat_toNat_lt (by omega), ofNat_toNat_lt (by omega), ofNat_toNat_lt (by omega)]
  simp
theorem isB_bytes (w : World) (n : Nat) (h : n < 4294967296) (t : TypeId) (m : Nat × Nat) : IsB (w.heap.size + 1) (w.alloc (.cells #[.int .u8 ((n : Int) / 16777216), .int .u8 ((n : Int) / 65536 % 256), .int .u8 ((n : Int) / 256 % 256), .int .u8 ((n : Int) % 256)] t m)) (some ⟨w.heap.size, 0, none⟩) 4 (bytesN n) := by
  have e := isB_new w (bytesN n) t m
  rw [vals_bytes n h] at e
  exact e

/-- The numbers of a word. -/
def dG (nni : Bool) (n : Nat) : Int := if nni then 0 else ((n / 268435456 : Nat) : Int)
def dP (nni : Bool) (n : Nat) : Int := if nni then ((n / 1048576 : Nat) : Int) else ((n / 1048576 % 256 : Nat) : Int)
def dV (n : Nat) : Int := ((n / 16 % 65536 : Nat) : Int)
def dT (n : Nat) : Int := ((n / 2 % 8 : Nat) : Int)
def dC (n : Nat) : Int := ((n % 2 : Nat) : Int)
theorem right_of (nni : Bool) (n : Nat) (h : n < 4294967296) : rightB nni (dG nni n) (dP nni n) (dV n) (dT n) (dC n) = true := by
  cases nni
  · rw [right_user]; simp [dG, dP, dV, dT, dC]; omega
  · rw [right_nni]; simp [dG, dP, dV, dT, dC]; omega
theorem word_of (nni : Bool) (n : Nat) (_h : n < 4294967296) : word (dG nni n) (dP nni n) (dV n) (dT n) (dC n) = (n : Int) := by
  cases nni
  · simp [word, dG, dP, dV, dT, dC]; omega
  · simp [word, dG, dP, dV, dT, dC]; omega
theorem of_word {nni : Bool} {g p v t c : Int} {n : Nat} (h : rightB nni g p v t c = true) (hn : word g p v t c = (n : Int)) : dG nni n = g ∧ dP nni n = p ∧ dV n = v ∧ dT n = t ∧ dC n = c := by
  unfold word at hn
  cases nni
  · have := right_user.1 h
    simp [dG, dP, dV, dT, dC]; omega
  · have := right_nni.1 h
    simp [dG, dP, dV, dT, dC]; omega
end Go.Proofs.YtpifmljbaogcbaaDoor.H
