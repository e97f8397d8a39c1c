/- Proved here: the answers of Traffic, Key and Cause in one form; that unlike contracts, and keys, are unlike bytes; how whole contracts and keys are read and compared. Conditions: as each theorem states them. -/
import Derived.Deep.MidRow
import Derived.Laws.StructEq
import Derived.Test.YtbjeljmnknibnaaDoorTr
namespace Go.Proofs.YtbjeljmnknibnaaDoor
set_option linter.unusedSimpArgs false
set_option linter.unusedVariables false
open Go.RowKit Go.Shelf

/-! ### Whole structs -/
theorem run_ldw {w : World} {b : Nat} {vs : Array Value} {ty : TypeId} {fs : Array Field} (h : BK w b vs ty) (hu : Tryd.prog.underlying ty = some (.struct fs)) (hi : (Tryd.prog.info? ty).map (·.size) = some vs.size) :
    (Instr.loadAt ty (.pointer (some ⟨b, 0, none⟩))).run Tryd.prog w = .ok (.agg vs) w := by
  have := run_loadAt_mid (P := Tryd.prog) w b 0 ty vs.toList _ (fun j v hv => by rw [Nat.zero_add]; exact h.cell j v (by simpa using hv)) hu rfl (by rw [hi]; simp)
  simpa using this
theorem run_ldC {w : World} {b : Nat} {k p e v u l : Int} (h : BK w b (cC k p e v u l) 41) : (Instr.loadAt 41 (.pointer (some ⟨b, 0, none⟩))).run Tryd.prog w = .ok (.agg (cC k p e v u l)) w := run_ldw h Tryd.underlying41 (by kernel_rfl)
abbrev kC (k : Ky) : Array Value := #[.int .i64 k.1, .int .i64 k.2.1, .int .i64 k.2.2]
theorem run_ldK {w : World} {b : Nat} {k : Ky} (h : BK w b (kC k) 43) : (Instr.loadAt 43 (.pointer (some ⟨b, 0, none⟩))).run Tryd.prog w = .ok (.agg (kC k)) w := run_ldw h Tryd.underlying43 (by kernel_rfl)
theorem run_ldI {w : World} {b : Nat} {i : UInt8} {a : Option Addr} {l c : Nat} (h : BK w b #[.int .u8 (i.toNat : Int), .slice a l c] 60) : (Instr.loadAt 60 (.pointer (some ⟨b, 0, none⟩))).run Tryd.prog w = .ok (ieV i a l c) w := run_ldw h Tryd.underlying60 (by kernel_rfl)

def eqC (k p e v b l k2 p2 e2 v2 b2 l2 : Int) : Bool := (k == k2) && ((p == p2) && ((e == e2) && ((v == v2) && ((b == b2) && (l == l2)))))
theorem eqC_iff {k p e v b l k2 p2 e2 v2 b2 l2 : Int} : eqC k p e v b l k2 p2 e2 v2 b2 l2 = true ↔ k = k2 ∧ p = p2 ∧ e = e2 ∧ v = v2 ∧ b = b2 ∧ l = l2 := by simp [eqC]
theorem eql_C (k p e v b l k2 p2 e2 v2 b2 l2 : Int) (w : World) : (binOp .eql 41 (.agg (cC k p e v b l)) (.agg (cC k2 p2 e2 v2 b2 l2))).run Tryd.prog w = .ok (.bool (eqC k p e v b l k2 p2 e2 v2 b2 l2)) w := by
  unfold eqC
  cases h1 : k == k2
  · go_simp
  cases h2 : p == p2
  · go_simp
  cases h3 : e == e2
  · go_simp
  cases h4 : v == v2
  · go_simp
  cases h5 : b == b2
  · go_simp
  cases h6 : l == l2 <;> go_simp <;> simp [h1, h2, h3, h4, h5, h6]
theorem neq_C (k p e v b l : Int) (w : World) : (binOp .neq 41 (.agg (cC k p e v b l)) (.agg (cC k p e v b l))).run Tryd.prog w = .ok (.bool false) w := by go_simp
def eqK (a b : Ky) : Bool := (a.1 == b.1) && ((a.2.1 == b.2.1) && (a.2.2 == b.2.2))
theorem eqK_iff {a b : Ky} : eqK a b = true ↔ a = b := by
  obtain ⟨a1, a2, a3⟩ := a
  obtain ⟨b1, b2, b3⟩ := b
  simp [eqK]
theorem eql_K (a b : Ky) (w : World) : (binOp .eql 43 (.agg (kC a)) (.agg (kC b))).run Tryd.prog w = .ok (.bool (eqK a b)) w := by
  obtain ⟨a1, a2, a3⟩ := a
  obtain ⟨b1, b2, b3⟩ := b
  unfold eqK
  cases h1 : a1 == b1
  · go_simp
  cases h2 : a2 == b2
  · go_simp
  cases h3 : a3 == b3 <;> go_simp <;> simp [h1, h2, h3]
theorem neq_K (a : Ky) (w : World) : (binOp .neq 43 (.agg (kC a)) (.agg (kC a))).run Tryd.prog w = .ok (.bool false) w := by go_simp

/-! ### The answers -/
/-- An element, and an error. -/
def IeAll (x : El) (E : Int) (w : World) (e : Ending) (w' : World) : Prop :=
  ∃ (a : Option Addr) (n c : Nat), e = .returned (.tuple #[ieV x.id a n c, .int .i64 E]) ∧ IsB w'.heap.size w' a n x.body ∧ (a = none → c = 0) ∧ n ≤ c ∧ Below w.heap.size w w'
def noE : El := ⟨0, []⟩
def trX (k p e v b l : Int) : El := if errN k p e v b l = 0 then trafE k.toNat p.toNat e.toNat v.toNat b.toNat l.toNat else noE
def keX (k : Ky) : El := if rightK k = true then keyE k.1.toNat k.2.1.toNat k.2.2.toNat else noE
def caX (c : Int) : El := if 0 ≤ c ∧ c ≤ 127 then causeE c.toNat else noE
theorem no_all {E : Int} {w w' : World} (b : Below w.heap.size w w') : IeAll noE E w (ieNo E) w' := ⟨none, 0, 0, rfl, ⟨rfl, .inl rfl⟩, fun _ => rfl, Nat.le_refl _, b⟩
theorem ans_all {x : El} {base : Nat} {w w' : World} {e : Ending} (h : IeAns base x e w') (b : Below w.heap.size w w') : IeAll x 0 w e w' := by
  obtain ⟨a, l, c, rfl, o⟩ := h
  exact ⟨a, l, c, rfl, o.isB.1, o.isB.2.1, o.isB.2.2, b⟩
def kyX (k : Ky) : Int := if rightK k = true then 0 else 1
theorem key_nats {k : Ky} (h : rightK k = true) : ∃ p v c : Nat, k = ((p : Int), (v : Int), (c : Int)) ∧ p ≤ 7 ∧ v ≤ 4095 ∧ c ≤ 65535 := by
  obtain ⟨h1, h2, h3⟩ := (rightK_iff k).1 h
  obtain ⟨a, b, c⟩ := k
  simp only at h1 h2 h3
  refine ⟨a.toNat, b.toNat, c.toNat, ?_, by omega, by omega, by omega⟩
  simp only [Prod.mk.injEq]
  omega
def cuX (c : Int) : Int := if 0 ≤ c ∧ c ≤ 127 then 0 else 1
theorem cause_all (c : Int) (w : World) : Calls Tryd.prog 44 #[.int .i64 c] w (IeAll (caX c) (cuX c) w) := by
  by_cases h : 0 ≤ c ∧ c ≤ 127
  · obtain ⟨n, rfl⟩ := Int.eq_ofNat_of_zero_le h.1
    have hx : caX (n : Int) = causeE n := by unfold caX; rw [if_pos h]; simp
    have he : cuX (n : Int) = 0 := by unfold cuX; rw [if_pos h]
    rw [hx, he]
    refine (cause_ok n (by omega) w).mono ?_
    rintro x w' ⟨ha, hb⟩
    exact ans_all ha hb
  · have hx : caX c = noE := by unfold caX; rw [if_neg h]
    have he : cuX c = 1 := by unfold cuX; rw [if_neg h]
    rw [hx, he]
    refine (cause_no c h w).mono ?_
    rintro x w' ⟨rfl, hb⟩
    exact no_all hb

/-! ### Unlike ones are unlike bytes -/
theorem byte_inj {a b : Nat} (ha : a ≤ 255) (hb : b ≤ 255) (h : UInt8.ofNat a = UInt8.ofNat b) : a = b := by
  have := congrArg UInt8.toNat h
  rw [byteN, byteN] at this
  omega
theorem trafB_flat (k p e v b l : Nat) : trafB k [p, e, v, b, l] = [UInt8.ofNat k] ++ (beN 6 p ++ (beN 6 e ++ (beN 6 v ++ (beN 6 b ++ beN 6 l)))) := by simp [trafB]
theorem app_inj {a b c d : List UInt8} (hl : a.length = c.length) (h : a ++ b = c ++ d) : a = c ∧ b = d := List.append_inj h hl
theorem be6_inj {x y : Nat} (hx : x ≤ 1099511627776) (hy : y ≤ 1099511627776) (h : beN 6 x = beN 6 y) : x = y := beN_inj (n := 6) (by omega) (by omega) h
theorem tr_eq {k p e v b l k2 p2 e2 v2 b2 l2 : Int} (h : errN k p e v b l = 0) (h2 : errN k2 p2 e2 v2 b2 l2 = 0) : ((trX k p e v b l).body == (trX k2 p2 e2 v2 b2 l2).body) = eqC k p e v b l k2 p2 e2 v2 b2 l2 := by
  rw [Bool.eq_iff_iff, beq_iff_eq, eqC_iff]
  constructor
  · obtain ⟨k', p', e', v', b', l', rfl, rfl, rfl, rfl, rfl, rfl, i0, i1, i2, i3, i4, i5⟩ := errN_nats h
    obtain ⟨k3, p3, e3, v3, b3, l3, rfl, rfl, rfl, rfl, rfl, rfl, j0, j1, j2, j3, j4, j5⟩ := errN_nats h2
    unfold trX
    rw [if_pos h, if_pos h2]
    intro hb
    have hb' : trafB k' [p', e', v', b', l'] = trafB k3 [p3, e3, v3, b3, l3] := by simpa [trafE] using hb
    rw [trafB_flat, trafB_flat] at hb'
    obtain ⟨q0, r0⟩ := app_inj (a := [UInt8.ofNat k']) (c := [UInt8.ofNat k3]) rfl hb'
    obtain ⟨q1, r1⟩ := app_inj (by rw [beN_length, beN_length]) r0
    obtain ⟨q2, r2⟩ := app_inj (by rw [beN_length, beN_length]) r1
    obtain ⟨q3, r3⟩ := app_inj (by rw [beN_length, beN_length]) r2
    obtain ⟨q4, q5⟩ := app_inj (by rw [beN_length, beN_length]) r3
    simp only [List.cons.injEq, and_true] at q0
    have m0 := byte_inj (by omega) (by omega) q0
    have m1 := be6_inj i1 j1 q1
    have m2 := be6_inj i2 j2 q2
    have m3 := be6_inj i3 j3 q3
    have m4 := be6_inj i4 j4 q4
    have m5 := be6_inj i5 j5 q5
    subst m0 m1 m2 m3 m4 m5
    exact ⟨rfl, rfl, rfl, rfl, rfl, rfl⟩
  · rintro ⟨rfl, rfl, rfl, rfl, rfl, rfl⟩
    rfl
theorem ke_eq {a b : Ky} (h : rightK a = true) (h2 : rightK b = true) : ((keX a).body == (keX b).body) = eqK a b := by
  rw [Bool.eq_iff_iff, beq_iff_eq, eqK_iff]
  constructor
  · obtain ⟨p, v, c, rfl, i1, i2, i3⟩ := key_nats h
    obtain ⟨p2, v2, c2, rfl, j1, j2, j3⟩ := key_nats h2
    unfold keX
    rw [if_pos h, if_pos h2]
    intro hb
    have hb' : ([UInt8.ofNat p] ++ beN 2 v) ++ beN 2 c = ([UInt8.ofNat p2] ++ beN 2 v2) ++ beN 2 c2 := by simpa [keyE] using hb
    obtain ⟨q0, q1⟩ := app_inj (by rw [List.length_append, List.length_append, beN_length, beN_length]; rfl) hb'
    obtain ⟨q2, q3⟩ := app_inj (a := [UInt8.ofNat p]) (c := [UInt8.ofNat p2]) rfl q0
    simp only [List.cons.injEq, and_true] at q2
    have m0 := byte_inj (by omega) (by omega) q2
    have m1 := beN_inj (n := 2) (by omega) (by omega) q3
    have m2 := beN_inj (n := 2) (by omega) (by omega) q1
    subst m0 m1 m2
    rfl
  · rintro rfl
    rfl
theorem kyX_zero {k : Ky} (h : kyX k = 0) : rightK k = true := by
  unfold kyX at h
  split at h
  · assumption
  · cases h
theorem tr_body (k p e v b l : Int) : (trX k p e v b l).body.length ≤ 31 := by
  unfold trX
  split
  · unfold trafE
    rw [trafB_length]; simp
  · simp [noE]
theorem ke_body (k : Ky) : (keX k).body.length ≤ 5 := by
  unfold keX
  split
  · simp [keyE, beN_length]
  · simp [noE]
end Go.Proofs.YtbjeljmnknibnaaDoor
