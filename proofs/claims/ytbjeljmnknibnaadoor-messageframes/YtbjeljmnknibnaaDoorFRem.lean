/- Proved here: the register of package sums, fed with the bits of bytes, for its three generators. Conditions: as each theorem states them. -/
import Derived.WalkMore
import Derived.Test.YtbjeljmnknibnaaDoorFBits
namespace Go.Proofs.YtbjeljmnknibnaaDoor.F
open Go.RowKit Go.Shelf
attribute [local go_sem] Oper.semAt_some

/-- One bit into the register. -/
def stepN (gen deg r : Nat) (b : Bool) : Nat := if bv b = ((r / 2 ^ (deg - 1) : Nat) : Int) then r * 2 % 4294967296 &&& (2 ^ deg - 1) else (r * 2 % 4294967296 &&& (2 ^ deg - 1)) ^^^ gen
def feedN (gen deg r : Nat) (l : List Bool) : Nat := l.foldl (stepN gen deg) r
theorem feedN_snoc (gen deg r : Nat) (l : List Bool) (b : Bool) : feedN gen deg r (l ++ [b]) = stepN gen deg (feedN gen deg r l) b := by simp [feedN]
theorem and_lt (deg r : Nat) : r * 2 % 4294967296 &&& (2 ^ deg - 1) < 2 ^ deg := by
  rw [Nat.and_two_pow_sub_one_eq_mod]; exact Nat.mod_lt _ (Nat.two_pow_pos _)
theorem stepN_lt (gen deg r : Nat) (b : Bool) (hg : gen < 2 ^ deg) : stepN gen deg r b < 2 ^ deg := by
  unfold stepN
  have h1 := and_lt deg r
  split
  · exact h1
  · exact Nat.xor_lt_two_pow h1 hg
theorem feedN_lt (gen deg r : Nat) (l : List Bool) (hg : gen < 2 ^ deg) (hr : r < 2 ^ deg) : feedN gen deg r l < 2 ^ deg := by
  induction l generalizing r with
  | nil => exact hr
  | cons b l ih => exact ih _ (stepN_lt gen deg r b hg)

theorem scope_wide {P : Program} {n : Nat} {c : Code} {Q : Exit → Act → World → Prop} {a : Act} {w : World} (h : c.wpIn Fence.wide n P (Exit.noGoto Q) a w) : (Code.scope c).wpIn Fence.wide n P Q a w :=
  wpIn_wide.2 (wp_scope_straight (wpIn_wide.1 h))

theorem u32_and_of {A : Int} {B s : Nat} (h : A = ((s : Nat) : Int)) (hs : s < 4294967296) (hB : B < 4294967296) : bits .and .u32 A (B : Int) = ((s &&& B : Nat) : Int) := by
  rw [h]; exact u32_and_nat s B hs hB

set_option maxRecDepth 100000 in
set_option maxHeartbeats 2000000 in
theorem rem8_in (a : Option Addr) (len cap : Nat) (zs : List UInt8) (hreach : zs.length ≤ maxLen) (w : World) (hI : IsB w.heap.size w a len zs) :
    CallsIn Fence.wide 3 Tryd.prog 67 #[.slice a len cap, .int .u32 0, .int .u32 7, .int .u64 8] w fun e W' => e = .returned (.int .u32 (feedN 7 8 0 (bitsOf zs) : Nat)) ∧ Below w.heap.size w W' := by
  refine callsIn_of_wp_marks Tryd.func67 rfl trivial ?_ rfl
  simp only [Tryd.ntmps67, List.size_toArray, List.length_cons, List.length_nil, Nat.reduceAdd, Nat.reduceSub, Array.replicate_succ, Array.replicate_zero, List.push_toArray, List.append_toArray, List.nil_append, List.cons_append]
  gi_wp2
  refine scope_wide ?_
  gi_wp2
  refine wpIn_label ?_
  gi_wp2_with (refine ⟨trivial, ?_⟩; gi_at_call 71; refine (bits_in Fence.wide _ trivial rfl _ _ _ _).mono ?_; rintro e w' ⟨rfl, rfl⟩)
  obtain ⟨W0, hW0⟩ : ∃ W0, (((((w.alloc (.cells #[.int .u32 0] 90)).alloc (.cells #[.int .u32 7] 90)).alloc (.cells #[.int .u64 8] 89)).alloc (.cells #[.int .u32 255] 90)).alloc (.cells #[.slice a len cap] 25)) = W0 := ⟨_, rfl⟩
  have b1 := ((((Boxed.new w 90 (.int .u32 0)).alloc (.cells #[.int .u32 7] 90)).alloc (.cells #[.int .u64 8] 89)).alloc (.cells #[.int .u32 255] 90)).alloc (.cells #[.slice a len cap] 25)
  have b2 := (((Boxed.new (w.alloc (.cells #[.int .u32 0] 90)) 90 (.int .u32 7)).alloc (.cells #[.int .u64 8] 89)).alloc (.cells #[.int .u32 255] 90)).alloc (.cells #[.slice a len cap] 25)
  have b3 := ((Boxed.new ((w.alloc (.cells #[.int .u32 0] 90)).alloc (.cells #[.int .u32 7] 90)) 89 (.int .u64 8)).alloc (.cells #[.int .u32 255] 90)).alloc (.cells #[.slice a len cap] 25)
  have b4 := (Boxed.new (((w.alloc (.cells #[.int .u32 0] 90)).alloc (.cells #[.int .u32 7] 90)).alloc (.cells #[.int .u64 8] 89)) 90 (.int .u32 255)).alloc (.cells #[.slice a len cap] 25)
  have b5 := Boxed.new ((((w.alloc (.cells #[.int .u32 0] 90)).alloc (.cells #[.int .u32 7] 90)).alloc (.cells #[.int .u64 8] 89)).alloc (.cells #[.int .u32 255] 90)) 25 (.slice a len cap)
  simp only [World.size_alloc] at b1 b2 b3 b4 b5
  have hB0 : Below w.heap.size w (((((w.alloc (.cells #[.int .u32 0] 90)).alloc (.cells #[.int .u32 7] 90)).alloc (.cells #[.int .u64 8] 89)).alloc (.cells #[.int .u32 255] 90)).alloc (.cells #[.slice a len cap] 25)) :=
    (((((Below.refl _ w).alloc (Nat.le_refl _) _).alloc (by simp) _).alloc (by simp; omega) _).alloc (by simp; omega) _).alloc (by simp; omega) _
  have hsz : W0.heap.size = w.heap.size + 5 := by rw [← hW0]; simp
  rw [hW0] at b1 b2 b3 b4 b5 hB0 ⊢
  clear hW0
  refine wpIn_rangeFunc_ownG (α := Bool) rfl (by omega) (gf := 72) (lb := #[.pointer (some ⟨w.heap.size + 1 + 1 + 1 + 1, 0, none⟩)]) rfl trivial (enters_of Tryd.func72 (by kernel_rfl) rfl)
    (bits_stops Fence.wide (3 - 1) trivial rfl (by omega) (w.heap.size + 1 + 1 + 1 + 1) w.heap.size a len cap zs hreach _ (by omega) (by omega) b5.cell (hI.below hB0 (Nat.le_refl _))) belowK_t (belowK_b (by omega)) (Below.refl _ _) (fun _ => rfl)
    (fun pre W => (Boxed W w.heap.size 90 (.int .u32 (feedN 7 8 0 pre : Nat)) ∧ Boxed W (w.heap.size + 1) 90 (.int .u32 7) ∧ Boxed W (w.heap.size + 1 + 1) 89 (.int .u64 8) ∧ Boxed W (w.heap.size + 1 + 1 + 1) 90 (.int .u32 255)) ∧ Below w.heap.size w W)
    (fun _ _ _ => False)
    (OwnFrom.and (OwnFrom.and (Own.from (boxed_own _ _ _) _) (OwnFrom.and (Own.from (boxed_own _ _ _) _) (OwnFrom.and (Own.from (boxed_own _ _ _) _) (Own.from (boxed_own _ _ _) _)))) (ownFrom_below (Nat.le_refl _) (by omega)))
    (fun _ _ _ _ _ hs _ _ => hs)
    ⟨⟨b1, b2, b3, b4⟩, hB0⟩
    (fun x => { tmps := #[.slice a len cap, .int .u32 0, .int .u32 7, .int .u64 8, undef, .pointer (some ⟨w.heap.size, 0, none⟩), .pointer (some ⟨w.heap.size + 1, 0, none⟩), .pointer (some ⟨w.heap.size + 1 + 1, 0, none⟩), .int .u32 0,
      .pointer (some ⟨w.heap.size + 1 + 1 + 1, 0, none⟩), .int .u32 (bv x), undef, .int .u64 8, .int .u64 24, .int .u32 255, .slice a len cap, .func (.func 72) #[] #[.pointer (some ⟨w.heap.size + 1 + 1 + 1 + 1, 0, none⟩)], .int .u32 (bv x),
      undef, undef, undef, undef, undef, undef, undef, undef, undef, undef, undef, undef, undef, undef, undef], defers := [] }) ?assign ?body ?done ?stop
  case assign =>
    intro l x W K hK
    gi_wp2
    exact hK
  case body =>
    rintro l pre x W ⟨⟨c1, c2, c3, c4⟩, hB⟩ _
    have hr := feedN_lt 7 8 0 pre (by decide) (by decide)
    have HF := feedN_snoc 7 8 0 pre x
    generalize hrv : feedN 7 8 0 pre = r at HF hr c1
    have HF : Hid (feedN 7 8 0 (pre ++ [x]) = stepN 7 8 r x) := HF
    have k1 := c1.cell; have k2 := c2.cell; have k3 := c3.cell; have k4 := c4.cell
    have f1 := c1.frozen
    clear hrv
    have hs := and_lt 8 r
    have hand : bits .and .u32 ((r : Int) * 2) 255 = ((r * 2 % 4294967296 &&& 255 : Nat) : Int) := u32_and_of (A := (r : Int) * 2) (B := 255) (s := r * 2 % 4294967296) (by omega) (by omega) (by omega)
    have hxor : bits .xor .u32 ((r * 2 % 4294967296 &&& 255 : Nat) : Int) 7 = (((r * 2 % 4294967296 &&& 255) ^^^ 7 : Nat) : Int) := u32_xor_nat (r * 2 % 4294967296 &&& 255) 7 (by simp at hs; omega) (by omega)
    have hdef : Hid (stepN 7 8 r x = if bv x = ((r / 128 : Nat) : Int) then r * 2 % 4294967296 &&& 255 else (r * 2 % 4294967296 &&& 255) ^^^ 7) := rfl
    generalize r * 2 % 4294967296 &&& 255 = s at *
    generalize s ^^^ 7 = s2 at *
    generalize bv x = xb at *
    clear hs
    by_cases hx : xb = (r : Int) / 128
    · have HV : Hid (feedN 7 8 0 (pre ++ [x]) = s) := by rw [HF.out, hdef.out, if_pos (by omega)]; rfl
      clear HF hdef
      subst hx
      gi_wp2
      refine ⟨(KeepsOthers.setCell _ _ _).from _, (Below.refl w.heap.size W).setCell (p := ⟨w.heap.size, 0, none⟩) (Nat.le_refl _) _, ⟨?_, c2.other (by omega) _, c3.other (by omega) _, c4.other (by omega) _⟩, hB.setCell (p := ⟨w.heap.size, 0, none⟩) (Nat.le_refl _) _⟩
      rw [HV.out]; exact c1.set _
    · have HV : Hid (feedN 7 8 0 (pre ++ [x]) = s2) := by rw [HF.out, hdef.out, if_neg (by omega)]; rfl
      clear HF hdef
      have hx' : (xb == (r : Int) / 128) = false := beq_eq_false_iff_ne.2 hx
      clear hx
      gi_wp2
      refine ⟨((KeepsOthers.setCell _ _ _).trans (KeepsOthers.setCell _ _ _)).from _, ((Below.refl w.heap.size W).setCell (p := ⟨w.heap.size, 0, none⟩) (Nat.le_refl _) _).setCell (p := ⟨w.heap.size, 0, none⟩) (Nat.le_refl _) _, ⟨?_, (c2.other (by omega) _).other (by omega) _, (c3.other (by omega) _).other (by omega) _, (c4.other (by omega) _).other (by omega) _⟩, (hB.setCell (p := ⟨w.heap.size, 0, none⟩) (Nat.le_refl _) _).setCell (p := ⟨w.heap.size, 0, none⟩) (Nat.le_refl _) _⟩
      rw [HV.out]; exact (c1.set _).set _
  case done =>
    rintro D ys W hD rfl ⟨⟨c1, c2, c3, c4⟩, hB⟩ hK
    have k1 := c1.cell
    gi_wp2
    rw [Exit.noGoto_ret]
    refine ⟨by simp, .inl ⟨_, _, rfl, run_takeDeferred hK, ?_⟩⟩
    exact ⟨_, results_tmp rfl _ _ _, rfl, hB.trans (belowK_b (w := w) (Nat.le_refl _) W D _ _ (by omega) hK rfl rfl)⟩
  case stop =>
    rintro D c pre W _ _ h _
    exact h.elim

theorem rem8_calls (a : Option Addr) (len cap : Nat) (zs : List UInt8) (hreach : zs.length ≤ maxLen) (w : World) (hI : IsB w.heap.size w a len zs) :
    Calls Tryd.prog 67 #[.slice a len cap, .int .u32 0, .int .u32 7, .int .u64 8] w fun e W' => e = .returned (.int .u32 (feedN 7 8 0 (bitsOf zs) : Nat)) ∧ Below w.heap.size w W' :=
  callsIn_wide.1 (rem8_in a len cap zs hreach w hI)

set_option maxRecDepth 100000 in
set_option maxHeartbeats 2000000 in
theorem rem10_in (a : Option Addr) (len cap : Nat) (zs : List UInt8) (hreach : zs.length ≤ maxLen) (w : World) (hI : IsB w.heap.size w a len zs) :
    CallsIn Fence.wide 3 Tryd.prog 67 #[.slice a len cap, .int .u32 0, .int .u32 563, .int .u64 10] w fun e W' => e = .returned (.int .u32 (feedN 563 10 0 (bitsOf zs) : Nat)) ∧ Below w.heap.size w W' := by
  refine callsIn_of_wp_marks Tryd.func67 rfl trivial ?_ rfl
  simp only [Tryd.ntmps67, List.size_toArray, List.length_cons, List.length_nil, Nat.reduceAdd, Nat.reduceSub, Array.replicate_succ, Array.replicate_zero, List.push_toArray, List.append_toArray, List.nil_append, List.cons_append]
  gi_wp2
  refine scope_wide ?_
  gi_wp2
  refine wpIn_label ?_
  gi_wp2_with (refine ⟨trivial, ?_⟩; gi_at_call 71; refine (bits_in Fence.wide _ trivial rfl _ _ _ _).mono ?_; rintro e w' ⟨rfl, rfl⟩)
  obtain ⟨W0, hW0⟩ : ∃ W0, (((((w.alloc (.cells #[.int .u32 0] 90)).alloc (.cells #[.int .u32 563] 90)).alloc (.cells #[.int .u64 10] 89)).alloc (.cells #[.int .u32 1023] 90)).alloc (.cells #[.slice a len cap] 25)) = W0 := ⟨_, rfl⟩
  have b1 := ((((Boxed.new w 90 (.int .u32 0)).alloc (.cells #[.int .u32 563] 90)).alloc (.cells #[.int .u64 10] 89)).alloc (.cells #[.int .u32 1023] 90)).alloc (.cells #[.slice a len cap] 25)
  have b2 := (((Boxed.new (w.alloc (.cells #[.int .u32 0] 90)) 90 (.int .u32 563)).alloc (.cells #[.int .u64 10] 89)).alloc (.cells #[.int .u32 1023] 90)).alloc (.cells #[.slice a len cap] 25)
  have b3 := ((Boxed.new ((w.alloc (.cells #[.int .u32 0] 90)).alloc (.cells #[.int .u32 563] 90)) 89 (.int .u64 10)).alloc (.cells #[.int .u32 1023] 90)).alloc (.cells #[.slice a len cap] 25)
  have b4 := (Boxed.new (((w.alloc (.cells #[.int .u32 0] 90)).alloc (.cells #[.int .u32 563] 90)).alloc (.cells #[.int .u64 10] 89)) 90 (.int .u32 1023)).alloc (.cells #[.slice a len cap] 25)
  have b5 := Boxed.new ((((w.alloc (.cells #[.int .u32 0] 90)).alloc (.cells #[.int .u32 563] 90)).alloc (.cells #[.int .u64 10] 89)).alloc (.cells #[.int .u32 1023] 90)) 25 (.slice a len cap)
  simp only [World.size_alloc] at b1 b2 b3 b4 b5
  have hB0 : Below w.heap.size w (((((w.alloc (.cells #[.int .u32 0] 90)).alloc (.cells #[.int .u32 563] 90)).alloc (.cells #[.int .u64 10] 89)).alloc (.cells #[.int .u32 1023] 90)).alloc (.cells #[.slice a len cap] 25)) :=
    (((((Below.refl _ w).alloc (Nat.le_refl _) _).alloc (by simp) _).alloc (by simp; omega) _).alloc (by simp; omega) _).alloc (by simp; omega) _
  have hsz : W0.heap.size = w.heap.size + 5 := by rw [← hW0]; simp
  rw [hW0] at b1 b2 b3 b4 b5 hB0 ⊢
  clear hW0
  refine wpIn_rangeFunc_ownG (α := Bool) rfl (by omega) (gf := 72) (lb := #[.pointer (some ⟨w.heap.size + 1 + 1 + 1 + 1, 0, none⟩)]) rfl trivial (enters_of Tryd.func72 (by kernel_rfl) rfl)
    (bits_stops Fence.wide (3 - 1) trivial rfl (by omega) (w.heap.size + 1 + 1 + 1 + 1) w.heap.size a len cap zs hreach _ (by omega) (by omega) b5.cell (hI.below hB0 (Nat.le_refl _))) belowK_t (belowK_b (by omega)) (Below.refl _ _) (fun _ => rfl)
    (fun pre W => (Boxed W w.heap.size 90 (.int .u32 (feedN 563 10 0 pre : Nat)) ∧ Boxed W (w.heap.size + 1) 90 (.int .u32 563) ∧ Boxed W (w.heap.size + 1 + 1) 89 (.int .u64 10) ∧ Boxed W (w.heap.size + 1 + 1 + 1) 90 (.int .u32 1023)) ∧ Below w.heap.size w W)
    (fun _ _ _ => False)
    (OwnFrom.and (OwnFrom.and (Own.from (boxed_own _ _ _) _) (OwnFrom.and (Own.from (boxed_own _ _ _) _) (OwnFrom.and (Own.from (boxed_own _ _ _) _) (Own.from (boxed_own _ _ _) _)))) (ownFrom_below (Nat.le_refl _) (by omega)))
    (fun _ _ _ _ _ hs _ _ => hs)
    ⟨⟨b1, b2, b3, b4⟩, hB0⟩
    (fun x => { tmps := #[.slice a len cap, .int .u32 0, .int .u32 563, .int .u64 10, undef, .pointer (some ⟨w.heap.size, 0, none⟩), .pointer (some ⟨w.heap.size + 1, 0, none⟩), .pointer (some ⟨w.heap.size + 1 + 1, 0, none⟩), .int .u32 0,
      .pointer (some ⟨w.heap.size + 1 + 1 + 1, 0, none⟩), .int .u32 (bv x), undef, .int .u64 10, .int .u64 22, .int .u32 1023, .slice a len cap, .func (.func 72) #[] #[.pointer (some ⟨w.heap.size + 1 + 1 + 1 + 1, 0, none⟩)], .int .u32 (bv x),
      undef, undef, undef, undef, undef, undef, undef, undef, undef, undef, undef, undef, undef, undef, undef], defers := [] }) ?assign ?body ?done ?stop
  case assign =>
    intro l x W K hK
    gi_wp2
    exact hK
  case body =>
    rintro l pre x W ⟨⟨c1, c2, c3, c4⟩, hB⟩ _
    have hr := feedN_lt 563 10 0 pre (by decide) (by decide)
    have HF := feedN_snoc 563 10 0 pre x
    generalize hrv : feedN 563 10 0 pre = r at HF hr c1
    have HF : Hid (feedN 563 10 0 (pre ++ [x]) = stepN 563 10 r x) := HF
    have k1 := c1.cell; have k2 := c2.cell; have k3 := c3.cell; have k4 := c4.cell
    have f1 := c1.frozen
    clear hrv
    have hs := and_lt 10 r
    have hand : bits .and .u32 ((r : Int) * 2) 1023 = ((r * 2 % 4294967296 &&& 1023 : Nat) : Int) := u32_and_of (A := (r : Int) * 2) (B := 1023) (s := r * 2 % 4294967296) (by omega) (by omega) (by omega)
    have hxor : bits .xor .u32 ((r * 2 % 4294967296 &&& 1023 : Nat) : Int) 563 = (((r * 2 % 4294967296 &&& 1023) ^^^ 563 : Nat) : Int) := u32_xor_nat (r * 2 % 4294967296 &&& 1023) 563 (by simp at hs; omega) (by omega)
    have hdef : Hid (stepN 563 10 r x = if bv x = ((r / 512 : Nat) : Int) then r * 2 % 4294967296 &&& 1023 else (r * 2 % 4294967296 &&& 1023) ^^^ 563) := rfl
    generalize r * 2 % 4294967296 &&& 1023 = s at *
    generalize s ^^^ 563 = s2 at *
    generalize bv x = xb at *
    clear hs
    by_cases hx : xb = (r : Int) / 512
    · have HV : Hid (feedN 563 10 0 (pre ++ [x]) = s) := by rw [HF.out, hdef.out, if_pos (by omega)]; rfl
      clear HF hdef
      subst hx
      gi_wp2
      refine ⟨(KeepsOthers.setCell _ _ _).from _, (Below.refl w.heap.size W).setCell (p := ⟨w.heap.size, 0, none⟩) (Nat.le_refl _) _, ⟨?_, c2.other (by omega) _, c3.other (by omega) _, c4.other (by omega) _⟩, hB.setCell (p := ⟨w.heap.size, 0, none⟩) (Nat.le_refl _) _⟩
      rw [HV.out]; exact c1.set _
    · have HV : Hid (feedN 563 10 0 (pre ++ [x]) = s2) := by rw [HF.out, hdef.out, if_neg (by omega)]; rfl
      clear HF hdef
      have hx' : (xb == (r : Int) / 512) = false := beq_eq_false_iff_ne.2 hx
      clear hx
      gi_wp2
      refine ⟨((KeepsOthers.setCell _ _ _).trans (KeepsOthers.setCell _ _ _)).from _, ((Below.refl w.heap.size W).setCell (p := ⟨w.heap.size, 0, none⟩) (Nat.le_refl _) _).setCell (p := ⟨w.heap.size, 0, none⟩) (Nat.le_refl _) _, ⟨?_, (c2.other (by omega) _).other (by omega) _, (c3.other (by omega) _).other (by omega) _, (c4.other (by omega) _).other (by omega) _⟩, (hB.setCell (p := ⟨w.heap.size, 0, none⟩) (Nat.le_refl _) _).setCell (p := ⟨w.heap.size, 0, none⟩) (Nat.le_refl _) _⟩
      rw [HV.out]; exact (c1.set _).set _
  case done =>
    rintro D ys W hD rfl ⟨⟨c1, c2, c3, c4⟩, hB⟩ hK
    have k1 := c1.cell
    gi_wp2
    rw [Exit.noGoto_ret]
    refine ⟨by simp, .inl ⟨_, _, rfl, run_takeDeferred hK, ?_⟩⟩
    exact ⟨_, results_tmp rfl _ _ _, rfl, hB.trans (belowK_b (w := w) (Nat.le_refl _) W D _ _ (by omega) hK rfl rfl)⟩
  case stop =>
    rintro D c pre W _ _ h _
    exact h.elim

theorem rem10_calls (a : Option Addr) (len cap : Nat) (zs : List UInt8) (hreach : zs.length ≤ maxLen) (w : World) (hI : IsB w.heap.size w a len zs) :
    Calls Tryd.prog 67 #[.slice a len cap, .int .u32 0, .int .u32 563, .int .u64 10] w fun e W' => e = .returned (.int .u32 (feedN 563 10 0 (bitsOf zs) : Nat)) ∧ Below w.heap.size w W' :=
  callsIn_wide.1 (rem10_in a len cap zs hreach w hI)

set_option maxRecDepth 100000 in
set_option maxHeartbeats 2000000 in
theorem rem32_in (a : Option Addr) (len cap : Nat) (zs : List UInt8) (hreach : zs.length ≤ maxLen) (w : World) (hI : IsB w.heap.size w a len zs) :
    CallsIn Fence.wide 3 Tryd.prog 67 #[.slice a len cap, .int .u32 4294967295, .int .u32 79764919, .int .u64 32] w fun e W' => e = .returned (.int .u32 (feedN 79764919 32 4294967295 (bitsOf zs) : Nat)) ∧ Below w.heap.size w W' := by
  refine callsIn_of_wp_marks Tryd.func67 rfl trivial ?_ rfl
  simp only [Tryd.ntmps67, List.size_toArray, List.length_cons, List.length_nil, Nat.reduceAdd, Nat.reduceSub, Array.replicate_succ, Array.replicate_zero, List.push_toArray, List.append_toArray, List.nil_append, List.cons_append]
  gi_wp2
  refine scope_wide ?_
  gi_wp2
  refine wpIn_label ?_
  gi_wp2_with (refine ⟨trivial, ?_⟩; gi_at_call 71; refine (bits_in Fence.wide _ trivial rfl _ _ _ _).mono ?_; rintro e w' ⟨rfl, rfl⟩)
  obtain ⟨W0, hW0⟩ : ∃ W0, (((((w.alloc (.cells #[.int .u32 4294967295] 90)).alloc (.cells #[.int .u32 79764919] 90)).alloc (.cells #[.int .u64 32] 89)).alloc (.cells #[.int .u32 4294967295] 90)).alloc (.cells #[.slice a len cap] 25)) = W0 := ⟨_, rfl⟩
  have b1 := ((((Boxed.new w 90 (.int .u32 4294967295)).alloc (.cells #[.int .u32 79764919] 90)).alloc (.cells #[.int .u64 32] 89)).alloc (.cells #[.int .u32 4294967295] 90)).alloc (.cells #[.slice a len cap] 25)
  have b2 := (((Boxed.new (w.alloc (.cells #[.int .u32 4294967295] 90)) 90 (.int .u32 79764919)).alloc (.cells #[.int .u64 32] 89)).alloc (.cells #[.int .u32 4294967295] 90)).alloc (.cells #[.slice a len cap] 25)
  have b3 := ((Boxed.new ((w.alloc (.cells #[.int .u32 4294967295] 90)).alloc (.cells #[.int .u32 79764919] 90)) 89 (.int .u64 32)).alloc (.cells #[.int .u32 4294967295] 90)).alloc (.cells #[.slice a len cap] 25)
  have b4 := (Boxed.new (((w.alloc (.cells #[.int .u32 4294967295] 90)).alloc (.cells #[.int .u32 79764919] 90)).alloc (.cells #[.int .u64 32] 89)) 90 (.int .u32 4294967295)).alloc (.cells #[.slice a len cap] 25)
  have b5 := Boxed.new ((((w.alloc (.cells #[.int .u32 4294967295] 90)).alloc (.cells #[.int .u32 79764919] 90)).alloc (.cells #[.int .u64 32] 89)).alloc (.cells #[.int .u32 4294967295] 90)) 25 (.slice a len cap)
  simp only [World.size_alloc] at b1 b2 b3 b4 b5
  have hB0 : Below w.heap.size w (((((w.alloc (.cells #[.int .u32 4294967295] 90)).alloc (.cells #[.int .u32 79764919] 90)).alloc (.cells #[.int .u64 32] 89)).alloc (.cells #[.int .u32 4294967295] 90)).alloc (.cells #[.slice a len cap] 25)) :=
    (((((Below.refl _ w).alloc (Nat.le_refl _) _).alloc (by simp) _).alloc (by simp; omega) _).alloc (by simp; omega) _).alloc (by simp; omega) _
  have hsz : W0.heap.size = w.heap.size + 5 := by rw [← hW0]; simp
  rw [hW0] at b1 b2 b3 b4 b5 hB0 ⊢
  clear hW0
  refine wpIn_rangeFunc_ownG (α := Bool) rfl (by omega) (gf := 72) (lb := #[.pointer (some ⟨w.heap.size + 1 + 1 + 1 + 1, 0, none⟩)]) rfl trivial (enters_of Tryd.func72 (by kernel_rfl) rfl)
    (bits_stops Fence.wide (3 - 1) trivial rfl (by omega) (w.heap.size + 1 + 1 + 1 + 1) w.heap.size a len cap zs hreach _ (by omega) (by omega) b5.cell (hI.below hB0 (Nat.le_refl _))) belowK_t (belowK_b (by omega)) (Below.refl _ _) (fun _ => rfl)
    (fun pre W => (Boxed W w.heap.size 90 (.int .u32 (feedN 79764919 32 4294967295 pre : Nat)) ∧ Boxed W (w.heap.size + 1) 90 (.int .u32 79764919) ∧ Boxed W (w.heap.size + 1 + 1) 89 (.int .u64 32) ∧ Boxed W (w.heap.size + 1 + 1 + 1) 90 (.int .u32 4294967295)) ∧ Below w.heap.size w W)
    (fun _ _ _ => False)
    (OwnFrom.and (OwnFrom.and (Own.from (boxed_own _ _ _) _) (OwnFrom.and (Own.from (boxed_own _ _ _) _) (OwnFrom.and (Own.from (boxed_own _ _ _) _) (Own.from (boxed_own _ _ _) _)))) (ownFrom_below (Nat.le_refl _) (by omega)))
    (fun _ _ _ _ _ hs _ _ => hs)
    ⟨⟨b1, b2, b3, b4⟩, hB0⟩
    (fun x => { tmps := #[.slice a len cap, .int .u32 4294967295, .int .u32 79764919, .int .u64 32, undef, .pointer (some ⟨w.heap.size, 0, none⟩), .pointer (some ⟨w.heap.size + 1, 0, none⟩), .pointer (some ⟨w.heap.size + 1 + 1, 0, none⟩), .int .u32 0,
      .pointer (some ⟨w.heap.size + 1 + 1 + 1, 0, none⟩), .int .u32 (bv x), undef, .int .u64 32, .int .u64 0, .int .u32 4294967295, .slice a len cap, .func (.func 72) #[] #[.pointer (some ⟨w.heap.size + 1 + 1 + 1 + 1, 0, none⟩)], .int .u32 (bv x),
      undef, undef, undef, undef, undef, undef, undef, undef, undef, undef, undef, undef, undef, undef, undef], defers := [] }) ?assign ?body ?done ?stop
  case assign =>
    intro l x W K hK
    gi_wp2
    exact hK
  case body =>
    rintro l pre x W ⟨⟨c1, c2, c3, c4⟩, hB⟩ _
    have hr := feedN_lt 79764919 32 4294967295 pre (by decide) (by decide)
    have HF := feedN_snoc 79764919 32 4294967295 pre x
    generalize hrv : feedN 79764919 32 4294967295 pre = r at HF hr c1
    have HF : Hid (feedN 79764919 32 4294967295 (pre ++ [x]) = stepN 79764919 32 r x) := HF
    have k1 := c1.cell; have k2 := c2.cell; have k3 := c3.cell; have k4 := c4.cell
    have f1 := c1.frozen
    clear hrv
    have hs := and_lt 32 r
    have hand : bits .and .u32 ((r : Int) * 2 % 4294967296) 4294967295 = ((r * 2 % 4294967296 &&& 4294967295 : Nat) : Int) := u32_and_of (A := (r : Int) * 2 % 4294967296) (B := 4294967295) (s := r * 2 % 4294967296) (by omega) (by omega) (by omega)
    have hxor : bits .xor .u32 ((r * 2 % 4294967296 &&& 4294967295 : Nat) : Int) 79764919 = (((r * 2 % 4294967296 &&& 4294967295) ^^^ 79764919 : Nat) : Int) := u32_xor_nat (r * 2 % 4294967296 &&& 4294967295) 79764919 (by simp at hs; omega) (by omega)
    have hdef : Hid (stepN 79764919 32 r x = if bv x = ((r / 2147483648 : Nat) : Int) then r * 2 % 4294967296 &&& 4294967295 else (r * 2 % 4294967296 &&& 4294967295) ^^^ 79764919) := rfl
    generalize r * 2 % 4294967296 &&& 4294967295 = s at *
    generalize s ^^^ 79764919 = s2 at *
    generalize bv x = xb at *
    clear hs
    by_cases hx : xb = (r : Int) / 2147483648
    · have HV : Hid (feedN 79764919 32 4294967295 (pre ++ [x]) = s) := by rw [HF.out, hdef.out, if_pos (by omega)]; rfl
      clear HF hdef
      subst hx
      gi_wp2
      refine ⟨(KeepsOthers.setCell _ _ _).from _, (Below.refl w.heap.size W).setCell (p := ⟨w.heap.size, 0, none⟩) (Nat.le_refl _) _, ⟨?_, c2.other (by omega) _, c3.other (by omega) _, c4.other (by omega) _⟩, hB.setCell (p := ⟨w.heap.size, 0, none⟩) (Nat.le_refl _) _⟩
      rw [HV.out]; exact c1.set _
    · have HV : Hid (feedN 79764919 32 4294967295 (pre ++ [x]) = s2) := by rw [HF.out, hdef.out, if_neg (by omega)]; rfl
      clear HF hdef
      have hx' : (xb == (r : Int) / 2147483648) = false := beq_eq_false_iff_ne.2 hx
      clear hx
      gi_wp2
      refine ⟨((KeepsOthers.setCell _ _ _).trans (KeepsOthers.setCell _ _ _)).from _, ((Below.refl w.heap.size W).setCell (p := ⟨w.heap.size, 0, none⟩) (Nat.le_refl _) _).setCell (p := ⟨w.heap.size, 0, none⟩) (Nat.le_refl _) _, ⟨?_, (c2.other (by omega) _).other (by omega) _, (c3.other (by omega) _).other (by omega) _, (c4.other (by omega) _).other (by omega) _⟩, (hB.setCell (p := ⟨w.heap.size, 0, none⟩) (Nat.le_refl _) _).setCell (p := ⟨w.heap.size, 0, none⟩) (Nat.le_refl _) _⟩
      rw [HV.out]; exact (c1.set _).set _
  case done =>
    rintro D ys W hD rfl ⟨⟨c1, c2, c3, c4⟩, hB⟩ hK
    have k1 := c1.cell
    gi_wp2
    rw [Exit.noGoto_ret]
    refine ⟨by simp, .inl ⟨_, _, rfl, run_takeDeferred hK, ?_⟩⟩
    exact ⟨_, results_tmp rfl _ _ _, rfl, hB.trans (belowK_b (w := w) (Nat.le_refl _) W D _ _ (by omega) hK rfl rfl)⟩
  case stop =>
    rintro D c pre W _ _ h _
    exact h.elim

theorem rem32_calls (a : Option Addr) (len cap : Nat) (zs : List UInt8) (hreach : zs.length ≤ maxLen) (w : World) (hI : IsB w.heap.size w a len zs) :
    Calls Tryd.prog 67 #[.slice a len cap, .int .u32 4294967295, .int .u32 79764919, .int .u64 32] w fun e W' => e = .returned (.int .u32 (feedN 79764919 32 4294967295 (bitsOf zs) : Nat)) ∧ Below w.heap.size w W' :=
  callsIn_wide.1 (rem32_in a len cap zs hreach w hI)
end Go.Proofs.YtbjeljmnknibnaaDoor.F
