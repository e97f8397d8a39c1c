/- Proved here: the texts Both, Lsts, ParsesW, HLaid, HOpen, in one. Conditions: as each theorem states them. -/
import Derived.Test.YtpifmljbaogcbaaDoorCParseY
import Derived.Test.YtpifmljbaogcbaaDoorCRefPY
import Derived.Test.YtpifmljbaogcbaaDoorCBase
import Derived.OpenShut
import Derived.WideShapes
import Derived.ChangeSlices
import Derived.Test.YtpifmljbaogcbaaDoorApp
import Derived.Test.YtpifmljbaogcbaaDoorRows
import Derived.Test.YtpifmljbaogcbaaDoorHLay
import Derived.Lib.LaidTab
import Derived.LaidMore
import Derived.LaidHandle
import Derived.MakeChecks
import Derived.Stop.LaidErr
/- Proved here: cell.Parse and the document's answer alike. Conditions: as each theorem states them. -/
namespace Go.Proofs.YtpifmljbaogcbaaDoor
set_option linter.unusedSimpArgs false
set_option linter.unusedVariables false
open Go.RowKit
open H (Tab numN dG dP dV dT dC)

theorem split53 {xs : List UInt8} (h : xs.length = 53) : ∃ x0 x1 x2 x3 x4 ps, xs = [x0, x1, x2, x3, x4] ++ ps ∧ ps.length = 48 := by
  match xs, h with
  | x0 :: x1 :: x2 :: x3 :: x4 :: ps, h => exact ⟨x0, x1, x2, x3, x4, ps, rfl, by simpa using h⟩

theorem out_four (c : Bool) (x0 x1 x2 x3 x4 : UInt8) : ∃ y0 y1 y2 y3, (res c [x0, x1, x2, x3, x4]).out [x0, x1, x2, x3, x4] = [y0, y1, y2, y3] := by
  rcases res_cases c [x0, x1, x2, x3, x4] with ⟨_, e⟩ | ⟨_, _, k, _, e⟩ | ⟨_, _, e⟩
  · rw [e]; exact ⟨x0, x1, x2, x3, rfl⟩
  · obtain ⟨y0, y1, y2, y3, y4, hy⟩ := flip_list5 x0 x1 x2 x3 x4 k
    rw [e]
    exact ⟨y0, y1, y2, y3, by show (flipN _ k).take 4 = _; rw [hy]; rfl⟩
  · rw [e]; exact ⟨0, 0, 0, 0, rfl⟩

theorem parse_both (nni c : Bool) (li : Nat) (xs : List UInt8) (hl : li = xs.length) : ∃ (G P V T C : Int) (qs : List UInt8) (er : Int) (rep drop : Nat) (c' : Bool), qs.length = 48 ∧ rep + drop ≤ 1 ∧
    (∀ (w : World) (n : Nat) (ai : Option Addr) (ci r p d : Nat), IsB n w ai li xs → n ≤ w.heap.size → li ≤ ci → n ≤ r → 2 ≤ r → Tab w → RC w r p d c → p < 1000000 → d < 1000000 →
      Calls Tryd.prog 20 #[.slice ai li ci, .pointer (some ⟨r, 0, none⟩), .bool nni] w fun e w' => e = .returned (.tuple #[.agg (cellV G P V T C qs), .int .i64 er]) ∧ RC w' r (p + rep) (d + drop) c' ∧ But r w.heap.size w w') ∧
    (∀ (w : World) (n : Nat) (ai : Option Addr) (ci q p d : Nat), IsB n w ai li xs → n ≤ q → li ≤ ci → QC w q p d c → p < 1000000 → d < 1000000 →
      Calls Tryd.prog 21 #[.slice ai li ci, .pointer (some ⟨q, 0, none⟩), .bool nni] w fun e w' => ∃ (a' : Option Addr) (m c'' : Nat), e = .returned (.tuple #[.agg (hdrV G P V T C), .slice a' m c'', .int .i64 er]) ∧
        ((m = 0 ∧ qs = zer 48) ∨ (m = 48 ∧ IsB w'.heap.size w' a' 48 qs)) ∧ QC w' q (p + rep) (d + drop) c' ∧ But q w.heap.size w w') := by
  rcases Nat.lt_trichotomy li 53 with h | h | h
  · refine ⟨0, 0, 0, 0, 0, zer 48, 2, 0, 0, c, rfl, by decide, ?_, ?_⟩
    · intro w n ai ci r p d _ _ _ _ _ _ hR _ _
      refine (parse_short nni ai li ci _ h w).mono ?_
      rintro e w' ⟨rfl, b⟩
      exact ⟨rfl, hR.below b hR.lt, But.of b⟩
    · intro w n ai ci q p d _ _ _ hQ _ _
      refine (refparse_short nni ai li ci _ h w).mono ?_
      rintro e w' ⟨rfl, b⟩
      exact ⟨_, _, _, rfl, .inl ⟨rfl, rfl⟩, hQ.below b hQ.lt, But.of b⟩
  · subst h
    obtain ⟨x0, x1, x2, x3, x4, ps, rfl, hps⟩ := split53 hl.symm
    obtain ⟨y0, y1, y2, y3, hy⟩ := out_four c x0 x1 x2 x3 x4
    by_cases hg : res c [x0, x1, x2, x3, x4] = .gone
    · refine ⟨0, 0, 0, 0, 0, zer 48, 4, 0, 1, true, rfl, by decide, ?_, ?_⟩
      · intro w n ai ci r p d hI hn hc hr _ _ hR hp hd
        obtain ⟨b, off, rfl, hb, _⟩ := hI.cell (k := 0) (x := x0) rfl
        exact parse_gone nni r p d c b off ci x0 x1 x2 x3 x4 ps w hI hn hR hp hd hg
      · intro w n ai ci q p d hI hn hc hQ hp hd
        obtain ⟨b, off, rfl, hb, _⟩ := hI.cell (k := 0) (x := x0) rfl
        refine (refparse_gone nni q p d c b off ci x0 x1 x2 x3 x4 ps w hI hn hc hQ hp hd hg).mono ?_
        rintro e w' ⟨rfl, hQ', b'⟩
        exact ⟨_, _, _, rfl, .inl ⟨rfl, rfl⟩, hQ', b'⟩
    · have hok : (res c [x0, x1, x2, x3, x4]).ok = true := by
        rcases res_cases c [x0, x1, x2, x3, x4] with ⟨_, e⟩ | ⟨_, _, k, _, e⟩ | ⟨_, _, e⟩
        · rw [e]; rfl
        · rw [e]; rfl
        · exact absurd e hg
      refine ⟨dG nni (numN y0 y1 y2 y3), dP nni (numN y0 y1 y2 y3), dV (numN y0 y1 y2 y3), dT (numN y0 y1 y2 y3), dC (numN y0 y1 y2 y3), ps, 0, (res c [x0, x1, x2, x3, x4]).rep, (res c [x0, x1, x2, x3, x4]).drop, (res c [x0, x1, x2, x3, x4]).careful, hps, res_sum c [x0, x1, x2, x3, x4], ?_, ?_⟩
      · intro w n ai ci r p d hI hn hc hr hr2 tab hR hp hd
        obtain ⟨b, off, rfl, hb, _⟩ := hI.cell (k := 0) (x := x0) rfl
        exact parse_yes nni r p d c b off ci x0 x1 x2 x3 x4 y0 y1 y2 y3 ps hps w hI hn hc (by omega) hr2 tab hR hp hd hy hok _ _ _ _ _ rfl rfl rfl rfl rfl
      · intro w n ai ci q p d hI hn hc hQ hp hd
        obtain ⟨b, off, rfl, hb, _⟩ := hI.cell (k := 0) (x := x0) rfl
        refine (refparse_yes nni q p d c b off ci x0 x1 x2 x3 x4 y0 y1 y2 y3 ps hps w hI hn hc hQ hp hd hy hok _ _ _ _ _ rfl rfl rfl rfl rfl).mono ?_
        rintro e w' ⟨a', c', rfl, hI', hQ', b'⟩
        exact ⟨_, _, _, rfl, .inr ⟨rfl, hI'⟩, hQ', b'⟩
  · refine ⟨0, 0, 0, 0, 0, zer 48, 3, 0, 0, c, rfl, by decide, ?_, ?_⟩
    · intro w n ai ci r p d _ _ _ _ _ _ hR _ _
      refine (parse_long nni ai li ci _ h w).mono ?_
      rintro e w' ⟨rfl, b⟩
      exact ⟨rfl, hR.below b hR.lt, But.of b⟩
    · intro w n ai ci q p d _ _ _ hQ _ _
      refine (refparse_long nni ai li ci _ h w).mono ?_
      rintro e w' ⟨rfl, b⟩
      exact ⟨_, _, _, rfl, .inl ⟨rfl, rfl⟩, hQ.below b hQ.lt, But.of b⟩
end Go.Proofs.YtpifmljbaogcbaaDoor

/- Proved here: how a slice of slices of bytes that came in reads. Conditions: as each theorem states them. -/
namespace Go.Proofs.YtpifmljbaogcbaaDoor
set_option linter.unusedSimpArgs false
set_option linter.unusedVariables false
open Go.RowKit Go.WideShapes Go.ChangeShapes

/-- A slice of slices of bytes; all its cells lie below n. -/
def IsL (n : Nat) (W : World) (a : Option Addr) (len : Nat) : Prop :=
  len = 0 ∨ ∃ b off, a = some ⟨b, off, none⟩ ∧ b < n ∧ ∀ i, i < len → ∃ ai li ci xs, W.cell? ⟨b, off + i, none⟩ = some (.slice ai li ci) ∧ IsB n W ai li xs ∧ li ≤ ci
theorem IsL.below {n k : Nat} {A B : World} (h : Below k A B) (hk : n ≤ k) {a : Option Addr} {len : Nat} : IsL n A a len → IsL n B a len
  | .inl z => .inl z
  | .inr ⟨b, off, ea, hb, hc⟩ => .inr ⟨b, off, ea, hb, fun i hi => by
      obtain ⟨ai, li, ci, xs, h1, h2, h3⟩ := hc i hi
      exact ⟨ai, li, ci, xs, (h.cell (p := ⟨b, off + i, none⟩) (by show b < k; omega)).trans h1, h2.below h hk, h3⟩⟩
theorem IsL.at {n : Nat} {W : World} {a : Option Addr} {len : Nat} (h : IsL n W a len) {i : Nat} (hi : i < len) :
    ∃ b off ai li ci xs, a = some ⟨b, off, none⟩ ∧ b < n ∧ W.cell? ⟨b, off + i, none⟩ = some (.slice ai li ci) ∧ IsB n W ai li xs ∧ li ≤ ci := by
  rcases h with h | ⟨b, off, ea, hb, hc⟩
  · omega
  · obtain ⟨ai, li, ci, xs, h1, h2, h3⟩ := hc i hi
    exact ⟨b, off, ai, li, ci, xs, ea, hb, h1, h2, h3⟩

theorem open_lists {H : Type} {enc : TypeId × Value → H} {P : Program} {w : World} {base : Nat} {held : Bool} {t e q : TypeId} {a : Option Addr} {len cap : Nat} {d : DataW H} {p : List MemPlace}
    (ht : P.underlying t = some (.slice e)) (he : P.underlying e = some (.slice q)) (hq : P.underlying q = some (.int .u8)) (hcq : P.cellsOf q = 1) (hce : P.cellsOf e = 1) (h : DataW.Trod enc P w base (fun _ => true) held t (.slice a len cap) d p) :
    IsL w.heap.size w a len ∧ len ≤ cap := by
  obtain ⟨fuel, hf⟩ := h
  rcases DataW.trod_slice ht hf with ⟨hcs, _⟩ | ⟨x, l, c, elems, rest, n, _, hcs, _, _, hl, _, hlen, hel, _⟩
  · simp [Value.cells] at hcs
    obtain ⟨rfl, rfl, rfl⟩ := hcs
    exact ⟨.inl rfl, Nat.le_refl _⟩
  · simp [Value.cells] at hcs
    obtain ⟨rfl, rfl, rfl⟩ := hcs
    rw [hce] at hel
    have key : ∀ i, i < len → ∃ ai li ci xs, w.cell? (x.add i) = some (.slice ai li ci) ∧ IsB w.heap.size w ai li xs ∧ li ≤ ci := by
      intro i hi
      have h1 := hel i hi
      rw [List.getElem?_eq_getElem (by omega), Nat.mul_one] at h1
      obtain ⟨cs, h2, h3⟩ := Option.bind_eq_some_iff.1 h1
      obtain ⟨_, _, h4⟩ := World.cells?_some h2
      have h5 := h4 0 (by decide)
      have ex : (x.add i).add 0 = x.add i := by
        obtain ⟨b, off, spot⟩ := x
        cases spot <;> simp [Addr.add]
      rw [ex] at h5
      rcases open_ints he hq hcq h3 with ⟨hcs, _⟩ | ⟨ad, li, ci, zs, hcs, _, hl2, hm2, hz2, _, hcell, hwz⟩
      · rw [hcs] at h5
        exact ⟨none, 0, 0, [], h5, ⟨rfl, .inl rfl⟩, Nat.le_refl _⟩
      · rw [hcs] at h5
        obtain ⟨bs, _, hI, _, hlc, _⟩ := isB_of_row (w := w) (a := some ad) (len := li) (cap := ci) (zs := zs) (.inr ⟨ad, rfl, hl2, hm2, by simpa using hz2, hcell, hwz⟩)
        exact ⟨some ad, li, ci, bs, h5, hI, hlc⟩
    by_cases h0 : len = 0
    · exact ⟨.inl h0, hl⟩
    · obtain ⟨b, off, spot⟩ := x
      have hspot : spot = none := by
        obtain ⟨ai, li, ci, xs, hy, _⟩ := key 0 (by omega)
        simpa [Addr.add] using World.cell?_spot hy
      subst hspot
      refine ⟨.inr ⟨b, off, rfl, ?_, fun i hi => ?_⟩, hl⟩
      · obtain ⟨ai, li, ci, xs, hy, _⟩ := key 0 (by omega)
        rw [add_plain] at hy
        exact World.block_lt_of_cell? w ⟨b, off + 0, none⟩ hy
      · obtain ⟨ai, li, ci, xs, hy, hI, hlc⟩ := key i hi
        rw [add_plain] at hy
        exact ⟨ai, li, ci, xs, hy, hI, hlc⟩
end Go.Proofs.YtpifmljbaogcbaaDoor

/- Proved here: the walk of CellParses. Conditions: as each theorem states them. -/
namespace Go.Proofs.YtpifmljbaogcbaaDoor
set_option linter.unusedSimpArgs false
set_option linter.unusedVariables false
open Go.RowKit
open H (Tab)

theorem new_rc (w : World) : RC (w.alloc (.cells #[.int .i64 0, .int .i64 0, .bool false] 46)) w.heap.size 0 0 false := bk_new w _ 46
theorem new_qc (w : World) : QC (w.alloc (.cells #[.bool false, .int .i64 0, .int .i64 0] 49)) w.heap.size 0 0 false := bk_new w _ 49
theorem run_ldB (w : World) (b k : Nat) (ty : TypeId) (v : Value) (hu : Tryd.prog.underlying ty = some .bool) (h : w.cell? ⟨b, k, none⟩ = some v) :
    (Instr.loadAt ty (.pointer (some ⟨b, k, none⟩))).run Tryd.prog w = .ok v w := by
  simp [Instr.loadAt, Instr.sureAddr, loadVar, isAgg, run_underlying hu, go_sem, h]

set_option maxRecDepth 50000 in
set_option maxHeartbeats 8000000 in
theorem parses_walk (a : Option Addr) (len cap : Nat) (nni : Bool) (w : World) (hL : IsL w.heap.size w a len) (hcap : len ≤ cap) (tab : Tab w) :
    Calls Tryd.prog 4 #[.slice a len cap, .bool nni] w fun e w' => e = .returned (.bool true) ∧ Below w.heap.size w w' := by
  have t2 := tab.1
  by_cases hl1 : 30 < len
  · have q1 : decide (30 < (len : Int)) = true := by simp; omega
    clear hL
    go_enter Tryd.func4, Tryd.ntmps4
    go_wp2_with fail
    refine (awake_calls _ tab).mono ?_
    rintro e w1 ⟨rfl, b1⟩
    go_wp2_with fail
    refine (awake_calls _ (tab.below b1 tab.1)).mono ?_
    rintro e w2 ⟨rfl, b2⟩
    go_wp2
    go_ret
    exact ⟨rfl, b1.trans (b2.mono b1.size)⟩
  have q1 : decide (30 < (len : Int)) = false := by simp; omega
  have hl : len ≤ 30 := by omega
  clear hl1
  go_enter Tryd.func4, Tryd.ntmps4
  go_wp2_with fail
  refine (awake_calls _ tab).mono ?_
  rintro e w1 ⟨rfl, B1⟩
  have z1 := B1.size
  go_wp2
  obtain ⟨W, hW⟩ : ∃ W, (w1.alloc (.cells #[.int .i64 0, .int .i64 0, .bool false] 46)).alloc (.cells #[.bool false, .int .i64 0, .int .i64 0] 49) = W := ⟨_, rfl⟩
  have R0 : RC ((w1.alloc (.cells #[.int .i64 0, .int .i64 0, .bool false] 46)).alloc (.cells #[.bool false, .int .i64 0, .int .i64 0] 49)) w1.heap.size 0 0 false := BK.alloc (new_rc w1) _
  have Q0 := new_qc (w1.alloc (.cells #[.int .i64 0, .int .i64 0, .bool false] 46))
  rw [World.size_alloc] at Q0
  have BW : Below w.heap.size w ((w1.alloc (.cells #[.int .i64 0, .int .i64 0, .bool false] 46)).alloc (.cells #[.bool false, .int .i64 0, .int .i64 0] 49)) := (B1.alloc B1.size _).alloc (by simp; omega) _
  rw [hW] at R0 Q0 BW ⊢
  clear hW B1
  go_loopw [28] (fun i wr => ∃ (k p d : Nat) (c : Bool), k ≤ len ∧ i = .int .i64 k ∧ p + d ≤ k ∧ RC wr w1.heap.size p d c ∧ QC wr (w1.heap.size + 1) p d c ∧ Below w1.heap.size W wr) (fun i _ => len - (intOf i).toNat)
  case atStart => exact ⟨0, 0, 0, false, Nat.zero_le _, rfl, Nat.le_refl _, R0, Q0, Below.refl _ _⟩
  case round =>
    obtain ⟨k, p, d, c, hk, rfl, hpd, R1, Q1, b1⟩ := hrel
    have B1 : Below w.heap.size w _ := BW.trans (b1.mono (by omega))
    clear R0 Q0 BW
    by_cases hlt : k < len
    · have J1 := hL.below B1 (Nat.le_refl _)
      obtain ⟨b, off, ai, li, ci, xs, rfl, hb, c1, I1, hci⟩ := J1.at hlt
      clear J1
      by_cases hl2 : 100 < li
      · go_wp2
        go_ret
        exact ⟨rfl, B1⟩
      have q2 : decide (100 < (li : Int)) = false := by simp; omega
      obtain ⟨G, P, V, T, C, qs, er, rep, drop, cc, hqs, hrd, parse1, parse2⟩ := parse_both nni c li xs I1.1
      have HL : Hid (qs.length = 48) := hqs
      have T1 := tab.below B1 tab.1
      have hr := R1.lt
      have hq := Q1.lt
      clear hl2 hqs
      go_wp2_with fail
      refine (parse1 _ w.heap.size ai ci w1.heap.size p d I1 (by omega) hci (by omega) (by omega) T1 R1 (by omega) (by omega)).mono ?_
      rintro e w2 ⟨rfl, R2, b2⟩
      have Q2 := Q1.but b2 hq (by omega)
      have I2 := I1.below (b2.below (m := w.heap.size) (by omega) (by omega)) (Nat.le_refl _)
      have b12 : Below w1.heap.size W w2 := b1.trans (b2.below (by omega) (Nat.le_refl _))
      have c2 : w2.cell? ⟨b, off + k, none⟩ = some (.slice ai li ci) := ((b2.below (m := w.heap.size) (by omega) (by omega)).cell (p := ⟨b, off + k, none⟩) hb).trans c1
      have z2 := b2.size
      clear R1 Q1 b1 b2 c1 I1 parse1 T1 B1
      go_wp2_with (first | ((with_reducible show wpList _ _ _ (Oper.mk _ (Op.alloc 27) _ _ _ _ :: Oper.mk _ (Op.store 27 _ _) _ _ _ _ :: _) _ _; refine wpList_defL rfl rfl rfl rfl rfl zero27 (by rw [size27, cellV_size]; (try simp only [Option.some.injEq, zer, List.length_replicate]) <;> first | rfl | (have := HL.out; omega) | (have := HM.out; omega)) (by first | rfl | (simp only [cellV_size]; done) | (rw [cellV_size, cellV_size]; (try simp only [zer, List.length_replicate]) <;> first | rfl | (have := HL.out; omega) | (have := HM.out; omega) | (have := HL.out; have := HM.out; omega))) (cellV_one _ _ _ _ _ _) rfl ?_); intro W3 C3 A3 z3; have c3 : W3.cell? ⟨b, off + k, none⟩ = some (.slice ai li ci) := (A3.cell (p := ⟨b, off + k, none⟩) (by show b < w2.heap.size; omega)).trans c2; clear c2; try simp only [Act.put, List.setIfInBounds_toArray, List.set_cons_zero, List.set_cons_succ, World.size_alloc]) | fail)
      have R3 := R2.below A3 R2.lt
      have Q3 := Q2.below A3 (BK.lt Q2)
      have I3 := I2.below A3 (by omega)
      have b13 : Below w1.heap.size W W3 := b12.trans (A3.mono (by omega))
      clear R2 Q2 I2 b12 A3
      refine (parse2 _ w.heap.size ai ci (w1.heap.size + 1) p d I3 (by omega) hci Q3 (by omega) (by omega)).mono ?_
      rintro e w4 ⟨a4, m4, c4, rfl, h4, Q4, b4⟩
      have R4 := R3.but b4 R3.lt (by omega)
      have C4 := C3.but b4 C3.lt (by omega)
      have b14 : Below w1.heap.size W w4 := b13.trans (b4.below (m := w1.heap.size) (by omega) (by omega))
      have z4 := b4.size
      have cl := C3.lt
      have q4 := BK.lt Q4
      have hne : ∀ w, (binOp .neq 27 (.agg (cellV G P V T C qs)) (.agg (cellV G P V T C qs))).run Tryd.prog w = .ok (.bool false) w := fun w => by
        rw [neq27 _ _ _ _ _ _ _ _ _ _ _ _ HL.out HL.out w]; simp [hdrB_self]
      have HPD : Hid ((p + rep) + (d + drop) ≤ k + 1) := by rw [Hid]; omega
      clear R3 Q3 I3 b13 C3 b4 c3 parse2
      generalize p + rep = p2 at *
      generalize d + drop = d2 at *
      have A5 := (Below.refl w4.heap.size w4).alloc (Nat.le_refl _) (.cells (hdrV G P V T C) 23)
      rcases h4 with ⟨rfl, rfl⟩ | ⟨rfl, I4⟩
      · go_wp2_with (first | (with_reducible show wpList _ _ _ (Oper.mk _ (Op.build 27 _) _ _ _ _ :: _) _ _; refine wpList_bldh rfl rfl rfl ?_; (try simp only [Act.put, List.setIfInBounds_toArray, List.set_cons_zero, List.set_cons_succ, World.size_alloc])) | ((with_reducible show wpList _ _ _ (Oper.mk _ (Op.alloc 27) _ _ _ _ :: Oper.mk _ (Op.store 27 _ _) _ _ _ _ :: _) _ _; refine wpList_defL rfl rfl rfl rfl rfl zero27 (by rw [size27, cellV_size]; (try simp only [Option.some.injEq, zer, List.length_replicate]) <;> first | rfl | (have := HL.out; omega) | (have := HM.out; omega)) (by first | rfl | (simp only [cellV_size]; done) | (rw [cellV_size, cellV_size]; (try simp only [zer, List.length_replicate]) <;> first | rfl | (have := HL.out; omega) | (have := HM.out; omega) | (have := HL.out; have := HM.out; omega))) (cellV_one _ _ _ _ _ _) rfl ?_); intro W7 F7 A6 z6; rw [World.size_alloc] at F7 A6 z6; have hcp := run_cp_none W7 3 ⟨w4.heap.size + 1, 5, none⟩ 48 48 c4 a4; try simp only [Act.put, List.setIfInBounds_toArray, List.set_cons_zero, List.set_cons_succ, World.size_alloc]) | (at_builtin; refine wpList_cp hcp _ _ rfl rfl rfl rfl rfl ?_; try simp only [Act.put, List.setIfInBounds_toArray, List.set_cons_zero, List.set_cons_succ, World.size_alloc]) | fail)
        clear hcp
        have b57 : Below w4.heap.size w4 W7 := A5.trans (A6.mono (Nat.le_succ _))
        have C7 := C4.below b57 C4.lt
        have R7 := R4.below b57 R4.lt
        have Q7 := Q4.below b57 (BK.lt Q4)
        have b17 : Below w1.heap.size W W7 := b14.trans (b57.mono (by omega))
        have z7 : w1.heap.size ≤ W7.heap.size := by omega
        clear A5 A6 b57 C4 R4 Q4 b14 hL
        refine wp_region_held_drew (S := (fun w' => Below W7.heap.size W7 w')) (by kernel_rfl) (Below.refl _ W7).drew (fun hHeld => ?_)
        refine wpAnyH_take (i := 0) (oi := ({ dst := some 64, op := Op.load 27 (Operand.tmp 8), type := 27, pos := _, after := #[], guard := none } : Oper))  rfl (by kernel_rfl) (by kernel_rfl) (by kernel_rfl) (fun _ _ _ h => h) (yields_ld rfl rfl rfl (fun w hS => run_ld27 w _ _ _ _ _ _ _ _ (C7.below hS C7.lt) HL.out)) hHeld ?_
        try simp only [Act.put, List.setIfInBounds_toArray, List.set_cons_zero, List.set_cons_succ]
        refine wpAnyH_take (i := 1) (oi := ({ dst := some 65, op := Op.load 27 (Operand.tmp 13), type := 27, pos := _, after := #[], guard := none } : Oper))  rfl (by kernel_rfl) (by kernel_rfl) (by kernel_rfl) (fun _ _ _ h => h) (yields_ld rfl rfl rfl (fun w hS => run_ld27 w _ _ _ _ _ _ _ _ (F7.below hS F7.lt) HL.out)) hHeld ?_
        try simp only [Act.put, List.setIfInBounds_toArray, List.set_cons_zero, List.set_cons_succ]
        refine wpAnyH_take (i := 2) (oi := ({ dst := some 66, op := Op.binOp BinOp.neq 27 (Operand.tmp 64) (Operand.tmp 65) 27, type := 4, pos := _, after := #[{ on := 0, ground := Ground.data }, { on := 1, ground := Ground.data }], guard := none } : Oper)) (v := ?_) rfl (by kernel_rfl) (by kernel_rfl) (by kernel_rfl) (fun _ _ _ h => h) (Or.inl ⟨by rfl, ?_⟩) hHeld ?_
        rotate_left
        · (intro w hS; go_simp; try with_reducible rfl)
        try simp only [Act.put, List.setIfInBounds_toArray, List.set_cons_zero, List.set_cons_succ]
        refine wpAnyH_take (i := 3) (oi := ({ dst := some 67, op := Op.move (Operand.tmp 66), type := 4, pos := _, after := #[{ on := 2, ground := Ground.data }], guard := none } : Oper)) (v := ?_) rfl (by kernel_rfl) (by kernel_rfl) (by kernel_rfl) (fun _ _ _ h => h) (Or.inl ⟨by rfl, ?_⟩) hHeld ?_
        rotate_left
        · (intro w hS; go_simp; try with_reducible rfl)
        try simp only [Act.put, List.setIfInBounds_toArray, List.set_cons_zero, List.set_cons_succ]
        refine wpAnyH_take (i := 4) (oi := ({ dst := some 68, op := Op.move (Operand.tmp 9), type := 29, pos := _, after := #[{ on := 3, ground := Ground.guard }], guard := some (3, false) } : Oper)) (v := ?_) rfl (by kernel_rfl) (by kernel_rfl) (by kernel_rfl) (fun _ _ _ h => h) (Or.inl ⟨by rfl, ?_⟩) hHeld ?_
        rotate_left
        · (intro w hS; go_simp; try with_reducible rfl)
        try simp only [Act.put, List.setIfInBounds_toArray, List.set_cons_zero, List.set_cons_succ]
        refine wpAnyH_take (i := 5) (oi := ({ dst := some 69, op := Op.move (Operand.tmp 12), type := 3, pos := _, after := #[{ on := 3, ground := Ground.guard }], guard := some (3, false) } : Oper)) (v := ?_) rfl (by kernel_rfl) (by kernel_rfl) (by kernel_rfl) (fun _ _ _ h => h) (Or.inl ⟨by rfl, ?_⟩) hHeld ?_
        rotate_left
        · (intro w hS; go_simp; try with_reducible rfl)
        try simp only [Act.put, List.setIfInBounds_toArray, List.set_cons_zero, List.set_cons_succ]
        refine wpAnyH_take (i := 6) (oi := ({ dst := some 70, op := Op.binOp BinOp.neq 3 (Operand.tmp 68) (Operand.tmp 69) 3, type := 4, pos := _, after := #[{ on := 4, ground := Ground.data }, { on := 5, ground := Ground.data }, { on := 3, ground := Ground.guard }], guard := some (3, false) } : Oper)) (v := ?_) rfl (by kernel_rfl) (by kernel_rfl) (by kernel_rfl) (fun _ _ _ h => h) (Or.inl ⟨by rfl, ?_⟩) hHeld ?_
        rotate_left
        · (intro w hS; go_simp; try with_reducible rfl)
        try simp only [Act.put, List.setIfInBounds_toArray, List.set_cons_zero, List.set_cons_succ]
        refine wpAnyH_take (i := 7) (oi := ({ dst := some 71, op := Op.pick (Operand.tmp 67) (Operand.const (Value.bool true)) (Operand.tmp 70), type := 4, pos := _, after := #[{ on := 3, ground := Ground.data }, { on := 6, ground := Ground.data }], guard := none } : Oper)) (v := ?_) rfl (by kernel_rfl) (by kernel_rfl) (by kernel_rfl) (fun _ _ _ h => h) (Or.inl ⟨by rfl, ?_⟩) hHeld ?_
        rotate_left
        · (intro w hS; go_simp; try with_reducible rfl)
        try simp only [Act.put, List.setIfInBounds_toArray, List.set_cons_zero, List.set_cons_succ]
        refine wpAnyH_take (i := 8) (oi := ({ dst := some 72, op := Op.move (Operand.tmp 71), type := 4, pos := _, after := #[{ on := 7, ground := Ground.data }, { on := 3, ground := Ground.chain }], guard := none } : Oper)) (v := ?_) rfl (by kernel_rfl) (by kernel_rfl) (by kernel_rfl) (fun _ _ _ h => h) (Or.inl ⟨by rfl, ?_⟩) hHeld ?_
        rotate_left
        · (intro w hS; go_simp; try with_reducible rfl)
        try simp only [Act.put, List.setIfInBounds_toArray, List.set_cons_zero, List.set_cons_succ]
        refine wpAnyH_take (i := 9) (oi := ({ dst := some 73, op := Op.move (Operand.tmp 5), type := 42, pos := _, after := #[{ on := 8, ground := Ground.guard }], guard := some (8, false) } : Oper)) (v := ?_) rfl (by kernel_rfl) (by kernel_rfl) (by kernel_rfl) (fun _ _ _ h => h) (Or.inl ⟨by rfl, ?_⟩) hHeld ?_
        rotate_left
        · (intro w hS; go_simp; try with_reducible rfl)
        try simp only [Act.put, List.setIfInBounds_toArray, List.set_cons_zero, List.set_cons_succ]
        refine wpAnyH_take (i := 11) (oi := ({ dst := some 75, op := Op.move (Operand.tmp 6), type := 47, pos := _, after := #[{ on := 8, ground := Ground.guard }], guard := some (8, false) } : Oper)) (v := ?_) rfl (by kernel_rfl) (by kernel_rfl) (by kernel_rfl) (fun _ _ _ h => h) (Or.inl ⟨by rfl, ?_⟩) hHeld ?_
        rotate_left
        · (intro w hS; go_simp; try with_reducible rfl)
        try simp only [Act.put, List.setIfInBounds_toArray, List.set_cons_zero, List.set_cons_succ]
        refine wpAnyH_take (i := 12) (oi := ({ dst := some 76, op := Op.nilCheck (Operand.tmp 75), type := 0, pos := _, after := #[{ on := 11, ground := Ground.data }, { on := 8, ground := Ground.guard }], guard := some (8, false) } : Oper)) (v := ?_) rfl (by kernel_rfl) (by kernel_rfl) (by kernel_rfl) (fun _ _ _ h => h) (Or.inl ⟨by rfl, ?_⟩) hHeld ?_
        rotate_left
        · (intro w hS; go_simp; try with_reducible rfl)
        try simp only [Act.put, List.setIfInBounds_toArray, List.set_cons_zero, List.set_cons_succ]
        refine wpAnyH_take (i := 13) (oi := ({ dst := some 77, op := Op.fieldAddr 49 (Operand.tmp 76) 0, type := 0, pos := _, after := #[{ on := 12, ground := Ground.data }, { on := 8, ground := Ground.guard }], guard := some (8, false) } : Oper)) (v := ?_) rfl (by kernel_rfl) (by kernel_rfl) (by kernel_rfl) (fun _ _ _ h => h) (Or.inl ⟨by rfl, ?_⟩) hHeld ?_
        rotate_left
        · (intro w hS; go_simp; try with_reducible rfl)
        try simp only [Act.put, List.setIfInBounds_toArray, List.set_cons_zero, List.set_cons_succ]
        refine wpAnyH_take (i := 14) (oi := ({ dst := some 78, op := Op.load 4 (Operand.tmp 77), type := 4, pos := _, after := #[{ on := 13, ground := Ground.data }, { on := 8, ground := Ground.guard }], guard := some (8, false) } : Oper))  rfl (by kernel_rfl) (by kernel_rfl) (by kernel_rfl) (fun _ _ _ h => h) (yields_ld rfl rfl rfl (fun w hS => run_ldB w _ _ _ _ Tryd.underlying4 ((QC.below Q7 hS (BK.lt Q7)).facts.1))) hHeld ?_
        try simp only [Act.put, List.setIfInBounds_toArray, List.set_cons_zero, List.set_cons_succ]
        refine wpAnyH_ready (rs := [10]) (by kernel_rfl) (by simp) ?_
        refine AllReadyH.cons (o := ({ dst := some 74, op := Op.call { callee := Callee.value (Operand.func 22), args := #[Operand.tmp 73], argTypes := #[42] }, type := 4, pos := _, after := #[{ on := 9, ground := Ground.data }, { on := 8, ground := Ground.chain }, { on := 8, ground := Ground.guard }], guard := some (8, false) } : Oper)) rfl (fun K hK => ?_) AllReadyH.nil
        refine step_call (careful_calls _ p2 d2 cc _ (RC.below R7 hHeld R7.lt)) (enters_of Tryd.func22 (by kernel_rfl) rfl) _ _ rfl rfl rfl ?_
        rintro e w8 ⟨rfl, rfl⟩
        refine ⟨_, rfl, hK.out _ _ hHeld (fun hHeld => ?_)⟩
        clear hK K
        try simp only [Act.put, List.setIfInBounds_toArray, List.set_cons_zero, List.set_cons_succ]
        refine wpAnyH_take (i := 15) (oi := ({ dst := some 79, op := Op.binOp BinOp.neq 4 (Operand.tmp 74) (Operand.tmp 78) 4, type := 4, pos := _, after := #[{ on := 10, ground := Ground.data }, { on := 14, ground := Ground.data }, { on := 8, ground := Ground.guard }], guard := some (8, false) } : Oper)) (v := ?_) rfl (by kernel_rfl) (by kernel_rfl) (by kernel_rfl) (fun _ _ _ h => h) (Or.inl ⟨by rfl, ?_⟩) hHeld ?_
        rotate_left
        · (intro w hS; go_simp; try with_reducible rfl)
        try simp only [Act.put, List.setIfInBounds_toArray, List.set_cons_zero, List.set_cons_succ]
        refine wpAnyH_take (i := 16) (oi := ({ dst := some 80, op := Op.pick (Operand.tmp 72) (Operand.const (Value.bool true)) (Operand.tmp 79), type := 4, pos := _, after := #[{ on := 8, ground := Ground.data }, { on := 15, ground := Ground.data }], guard := none } : Oper)) (v := ?_) rfl (by kernel_rfl) (by kernel_rfl) (by kernel_rfl) (fun _ _ _ h => h) (Or.inl ⟨by rfl, ?_⟩) hHeld ?_
        rotate_left
        · (intro w hS; go_simp; try with_reducible rfl)
        try simp only [Act.put, List.setIfInBounds_toArray, List.set_cons_zero, List.set_cons_succ]
        refine wpAnyH_take (i := 17) (oi := ({ dst := some 81, op := Op.move (Operand.tmp 80), type := 4, pos := _, after := #[{ on := 16, ground := Ground.data }, { on := 10, ground := Ground.chain }], guard := none } : Oper)) (v := ?_) rfl (by kernel_rfl) (by kernel_rfl) (by kernel_rfl) (fun _ _ _ h => h) (Or.inl ⟨by rfl, ?_⟩) hHeld ?_
        rotate_left
        · (intro w hS; go_simp; try with_reducible rfl)
        try simp only [Act.put, List.setIfInBounds_toArray, List.set_cons_zero, List.set_cons_succ]
        refine wpAnyH_take (i := 18) (oi := ({ dst := some 82, op := Op.move (Operand.tmp 5), type := 42, pos := _, after := #[{ on := 17, ground := Ground.guard }], guard := some (17, false) } : Oper)) (v := ?_) rfl (by kernel_rfl) (by kernel_rfl) (by kernel_rfl) (fun _ _ _ h => h) (Or.inl ⟨by rfl, ?_⟩) hHeld ?_
        rotate_left
        · (intro w hS; go_simp; try with_reducible rfl)
        try simp only [Act.put, List.setIfInBounds_toArray, List.set_cons_zero, List.set_cons_succ]
        refine wpAnyH_take (i := 20) (oi := ({ dst := some 84, op := Op.move (Operand.tmp 6), type := 47, pos := _, after := #[{ on := 17, ground := Ground.guard }], guard := some (17, false) } : Oper)) (v := ?_) rfl (by kernel_rfl) (by kernel_rfl) (by kernel_rfl) (fun _ _ _ h => h) (Or.inl ⟨by rfl, ?_⟩) hHeld ?_
        rotate_left
        · (intro w hS; go_simp; try with_reducible rfl)
        try simp only [Act.put, List.setIfInBounds_toArray, List.set_cons_zero, List.set_cons_succ]
        refine wpAnyH_take (i := 21) (oi := ({ dst := some 85, op := Op.nilCheck (Operand.tmp 84), type := 0, pos := _, after := #[{ on := 20, ground := Ground.data }, { on := 17, ground := Ground.guard }], guard := some (17, false) } : Oper)) (v := ?_) rfl (by kernel_rfl) (by kernel_rfl) (by kernel_rfl) (fun _ _ _ h => h) (Or.inl ⟨by rfl, ?_⟩) hHeld ?_
        rotate_left
        · (intro w hS; go_simp; try with_reducible rfl)
        try simp only [Act.put, List.setIfInBounds_toArray, List.set_cons_zero, List.set_cons_succ]
        refine wpAnyH_take (i := 22) (oi := ({ dst := some 86, op := Op.fieldAddr 49 (Operand.tmp 85) 1, type := 0, pos := _, after := #[{ on := 21, ground := Ground.data }, { on := 17, ground := Ground.guard }], guard := some (17, false) } : Oper)) (v := ?_) rfl (by kernel_rfl) (by kernel_rfl) (by kernel_rfl) (fun _ _ _ h => h) (Or.inl ⟨by rfl, ?_⟩) hHeld ?_
        rotate_left
        · (intro w hS; go_simp; try with_reducible rfl)
        try simp only [Act.put, List.setIfInBounds_toArray, List.set_cons_zero, List.set_cons_succ]
        refine wpAnyH_take (i := 23) (oi := ({ dst := some 87, op := Op.load 3 (Operand.tmp 86), type := 3, pos := _, after := #[{ on := 22, ground := Ground.data }, { on := 17, ground := Ground.guard }], guard := some (17, false) } : Oper))  rfl (by kernel_rfl) (by kernel_rfl) (by kernel_rfl) (fun _ _ _ h => h) (yields_ld rfl rfl rfl (fun w hS => run_ldX w _ _ _ _ _ Tryd.underlying3 ((QC.below Q7 hS (BK.lt Q7)).facts.2.1))) hHeld ?_
        try simp only [Act.put, List.setIfInBounds_toArray, List.set_cons_zero, List.set_cons_succ]
        refine wpAnyH_ready (rs := [19]) (by kernel_rfl) (by simp) ?_
        refine AllReadyH.cons (o := ({ dst := some 83, op := Op.call { callee := Callee.value (Operand.func 23), args := #[Operand.tmp 82], argTypes := #[42] }, type := 3, pos := _, after := #[{ on := 18, ground := Ground.data }, { on := 17, ground := Ground.chain }, { on := 17, ground := Ground.guard }], guard := some (17, false) } : Oper)) rfl (fun K hK => ?_) AllReadyH.nil
        refine step_call (repaired_calls _ p2 d2 cc _ (RC.below R7 hHeld R7.lt)) (enters_of Tryd.func23 (by kernel_rfl) rfl) _ _ rfl rfl rfl ?_
        rintro e w9 ⟨rfl, rfl⟩
        refine ⟨_, rfl, hK.out _ _ hHeld (fun hHeld => ?_)⟩
        clear hK K
        try simp only [Act.put, List.setIfInBounds_toArray, List.set_cons_zero, List.set_cons_succ]
        refine wpAnyH_take (i := 24) (oi := ({ dst := some 88, op := Op.binOp BinOp.neq 3 (Operand.tmp 83) (Operand.tmp 87) 3, type := 4, pos := _, after := #[{ on := 19, ground := Ground.data }, { on := 23, ground := Ground.data }, { on := 17, ground := Ground.guard }], guard := some (17, false) } : Oper)) (v := ?_) rfl (by kernel_rfl) (by kernel_rfl) (by kernel_rfl) (fun _ _ _ h => h) (Or.inl ⟨by rfl, ?_⟩) hHeld ?_
        rotate_left
        · (intro w hS; go_simp; try with_reducible rfl)
        try simp only [Act.put, List.setIfInBounds_toArray, List.set_cons_zero, List.set_cons_succ]
        refine wpAnyH_take (i := 25) (oi := ({ dst := some 89, op := Op.pick (Operand.tmp 81) (Operand.const (Value.bool true)) (Operand.tmp 88), type := 4, pos := _, after := #[{ on := 17, ground := Ground.data }, { on := 24, ground := Ground.data }], guard := none } : Oper)) (v := ?_) rfl (by kernel_rfl) (by kernel_rfl) (by kernel_rfl) (fun _ _ _ h => h) (Or.inl ⟨by rfl, ?_⟩) hHeld ?_
        rotate_left
        · (intro w hS; go_simp; try with_reducible rfl)
        try simp only [Act.put, List.setIfInBounds_toArray, List.set_cons_zero, List.set_cons_succ]
        refine wpAnyH_take (i := 26) (oi := ({ dst := some 90, op := Op.move (Operand.tmp 89), type := 4, pos := _, after := #[{ on := 25, ground := Ground.data }, { on := 19, ground := Ground.chain }], guard := none } : Oper)) (v := ?_) rfl (by kernel_rfl) (by kernel_rfl) (by kernel_rfl) (fun _ _ _ h => h) (Or.inl ⟨by rfl, ?_⟩) hHeld ?_
        rotate_left
        · (intro w hS; go_simp; try with_reducible rfl)
        try simp only [Act.put, List.setIfInBounds_toArray, List.set_cons_zero, List.set_cons_succ]
        refine wpAnyH_take (i := 27) (oi := ({ dst := some 91, op := Op.move (Operand.tmp 5), type := 42, pos := _, after := #[{ on := 26, ground := Ground.guard }], guard := some (26, false) } : Oper)) (v := ?_) rfl (by kernel_rfl) (by kernel_rfl) (by kernel_rfl) (fun _ _ _ h => h) (Or.inl ⟨by rfl, ?_⟩) hHeld ?_
        rotate_left
        · (intro w hS; go_simp; try with_reducible rfl)
        try simp only [Act.put, List.setIfInBounds_toArray, List.set_cons_zero, List.set_cons_succ]
        refine wpAnyH_take (i := 29) (oi := ({ dst := some 93, op := Op.move (Operand.tmp 6), type := 47, pos := _, after := #[{ on := 26, ground := Ground.guard }], guard := some (26, false) } : Oper)) (v := ?_) rfl (by kernel_rfl) (by kernel_rfl) (by kernel_rfl) (fun _ _ _ h => h) (Or.inl ⟨by rfl, ?_⟩) hHeld ?_
        rotate_left
        · (intro w hS; go_simp; try with_reducible rfl)
        try simp only [Act.put, List.setIfInBounds_toArray, List.set_cons_zero, List.set_cons_succ]
        refine wpAnyH_take (i := 30) (oi := ({ dst := some 94, op := Op.nilCheck (Operand.tmp 93), type := 0, pos := _, after := #[{ on := 29, ground := Ground.data }, { on := 26, ground := Ground.guard }], guard := some (26, false) } : Oper)) (v := ?_) rfl (by kernel_rfl) (by kernel_rfl) (by kernel_rfl) (fun _ _ _ h => h) (Or.inl ⟨by rfl, ?_⟩) hHeld ?_
        rotate_left
        · (intro w hS; go_simp; try with_reducible rfl)
        try simp only [Act.put, List.setIfInBounds_toArray, List.set_cons_zero, List.set_cons_succ]
        refine wpAnyH_take (i := 31) (oi := ({ dst := some 95, op := Op.fieldAddr 49 (Operand.tmp 94) 2, type := 0, pos := _, after := #[{ on := 30, ground := Ground.data }, { on := 26, ground := Ground.guard }], guard := some (26, false) } : Oper)) (v := ?_) rfl (by kernel_rfl) (by kernel_rfl) (by kernel_rfl) (fun _ _ _ h => h) (Or.inl ⟨by rfl, ?_⟩) hHeld ?_
        rotate_left
        · (intro w hS; go_simp; try with_reducible rfl)
        try simp only [Act.put, List.setIfInBounds_toArray, List.set_cons_zero, List.set_cons_succ]
        refine wpAnyH_take (i := 32) (oi := ({ dst := some 96, op := Op.load 3 (Operand.tmp 95), type := 3, pos := _, after := #[{ on := 31, ground := Ground.data }, { on := 26, ground := Ground.guard }], guard := some (26, false) } : Oper))  rfl (by kernel_rfl) (by kernel_rfl) (by kernel_rfl) (fun _ _ _ h => h) (yields_ld rfl rfl rfl (fun w hS => run_ldX w _ _ _ _ _ Tryd.underlying3 ((QC.below Q7 hS (BK.lt Q7)).facts.2.2.1))) hHeld ?_
        try simp only [Act.put, List.setIfInBounds_toArray, List.set_cons_zero, List.set_cons_succ]
        refine wpAnyH_ready (rs := [28]) (by kernel_rfl) (by simp) ?_
        refine AllReadyH.cons (o := ({ dst := some 92, op := Op.call { callee := Callee.value (Operand.func 24), args := #[Operand.tmp 91], argTypes := #[42] }, type := 3, pos := _, after := #[{ on := 27, ground := Ground.data }, { on := 26, ground := Ground.chain }, { on := 26, ground := Ground.guard }], guard := some (26, false) } : Oper)) rfl (fun K hK => ?_) AllReadyH.nil
        refine step_call (dropped_calls _ p2 d2 cc _ (RC.below R7 hHeld R7.lt)) (enters_of Tryd.func24 (by kernel_rfl) rfl) _ _ rfl rfl rfl ?_
        rintro e w10 ⟨rfl, rfl⟩
        refine ⟨_, rfl, hK.out _ _ hHeld (fun hHeld => ?_)⟩
        clear hK K
        try simp only [Act.put, List.setIfInBounds_toArray, List.set_cons_zero, List.set_cons_succ]
        refine wpAnyH_take (i := 33) (oi := ({ dst := some 97, op := Op.binOp BinOp.neq 3 (Operand.tmp 92) (Operand.tmp 96) 3, type := 4, pos := _, after := #[{ on := 28, ground := Ground.data }, { on := 32, ground := Ground.data }, { on := 26, ground := Ground.guard }], guard := some (26, false) } : Oper)) (v := ?_) rfl (by kernel_rfl) (by kernel_rfl) (by kernel_rfl) (fun _ _ _ h => h) (Or.inl ⟨by rfl, ?_⟩) hHeld ?_
        rotate_left
        · (intro w hS; go_simp; try with_reducible rfl)
        try simp only [Act.put, List.setIfInBounds_toArray, List.set_cons_zero, List.set_cons_succ]
        refine wpAnyH_take (i := 34) (oi := ({ dst := some 98, op := Op.pick (Operand.tmp 90) (Operand.const (Value.bool true)) (Operand.tmp 97), type := 4, pos := _, after := #[{ on := 26, ground := Ground.data }, { on := 33, ground := Ground.data }], guard := none } : Oper)) (v := ?_) rfl (by kernel_rfl) (by kernel_rfl) (by kernel_rfl) (fun _ _ _ h => h) (Or.inl ⟨by rfl, ?_⟩) hHeld ?_
        rotate_left
        · (intro w hS; go_simp; try with_reducible rfl)
        try simp only [Act.put, List.setIfInBounds_toArray, List.set_cons_zero, List.set_cons_succ]
        refine wpAnyH_done (by kernel_rfl) ?_ _
        have R8 := RC.below R7 hHeld R7.lt
        have Q8 := QC.below Q7 hHeld (BK.lt Q7)
        have b18 := b17.trans (hHeld.mono z7)
        clear R7 Q7 C7 F7 hHeld
        go_wp2
        go_roundw
        case rel => exact ⟨k + 1, p2, d2, cc, by omega, by go_num, HPD.out, R8, Q8, b18⟩
        case measure => simp [intOf]; omega
      · go_wp2_with (first | (with_reducible show wpList _ _ _ (Oper.mk _ (Op.build 27 _) _ _ _ _ :: _) _ _; refine wpList_bldh rfl rfl rfl ?_; (try simp only [Act.put, List.setIfInBounds_toArray, List.set_cons_zero, List.set_cons_succ, World.size_alloc])) | ((with_reducible show wpList _ _ _ (Oper.mk _ (Op.alloc 27) _ _ _ _ :: Oper.mk _ (Op.store 27 _ _) _ _ _ _ :: _) _ _; refine wpList_defL rfl rfl rfl rfl rfl zero27 (by rw [size27, cellV_size]; (try simp only [Option.some.injEq, zer, List.length_replicate]) <;> first | rfl | (have := HL.out; omega) | (have := HM.out; omega)) (by first | rfl | (simp only [cellV_size]; done) | (rw [cellV_size, cellV_size]; (try simp only [zer, List.length_replicate]) <;> first | rfl | (have := HL.out; omega) | (have := HM.out; omega) | (have := HL.out; have := HM.out; omega))) (cellV_one _ _ _ _ _ _) rfl ?_); intro W6 F6 A6 z6; rw [World.size_alloc] at F6 A6 z6; have b56 : Below w4.heap.size w4 W6 := A5.trans (A6.mono (Nat.le_succ _)); obtain ⟨W7, hcp, F7, b7, but7, z67⟩ := run_cp W6 3 (w4.heap.size + 1) 5 48 48 _ _ F6 a4 48 c4 _ (I4.below b56 (Nat.le_refl _)) (by decide) (by decide) (by rw [cellV_size]; decide); try simp only [Act.put, List.setIfInBounds_toArray, List.set_cons_zero, List.set_cons_succ, World.size_alloc]) | (at_builtin; refine wpList_cp hcp _ _ rfl rfl rfl rfl rfl ?_; try simp only [Act.put, List.setIfInBounds_toArray, List.set_cons_zero, List.set_cons_succ, World.size_alloc]) | fail)
        clear hcp
        rw [List.take_of_length_le (by have := HL.out; omega), laidIn_cell G P V T C (zer 48) qs (by rw [HL.out]; rfl)] at F7
        have b57 : Below w4.heap.size w4 W7 := b56.trans (b7 _ (by omega))
        have C7 := C4.below b57 C4.lt
        have R7 := R4.below b57 R4.lt
        have Q7 := Q4.below b57 (BK.lt Q4)
        have b17 : Below w1.heap.size W W7 := b14.trans (b57.mono (by omega))
        have z7 : w1.heap.size ≤ W7.heap.size := by omega
        clear A5 A6 b57 b56 C4 R4 Q4 b14 hL F6 b7 but7 I4
        refine wp_region_held_drew (S := (fun w' => Below W7.heap.size W7 w')) (by kernel_rfl) (Below.refl _ W7).drew (fun hHeld => ?_)
        refine wpAnyH_take (i := 0) (oi := ({ dst := some 64, op := Op.load 27 (Operand.tmp 8), type := 27, pos := _, after := #[], guard := none } : Oper))  rfl (by kernel_rfl) (by kernel_rfl) (by kernel_rfl) (fun _ _ _ h => h) (yields_ld rfl rfl rfl (fun w hS => run_ld27 w _ _ _ _ _ _ _ _ (C7.below hS C7.lt) HL.out)) hHeld ?_
        try simp only [Act.put, List.setIfInBounds_toArray, List.set_cons_zero, List.set_cons_succ]
        refine wpAnyH_take (i := 1) (oi := ({ dst := some 65, op := Op.load 27 (Operand.tmp 13), type := 27, pos := _, after := #[], guard := none } : Oper))  rfl (by kernel_rfl) (by kernel_rfl) (by kernel_rfl) (fun _ _ _ h => h) (yields_ld rfl rfl rfl (fun w hS => run_ld27 w _ _ _ _ _ _ _ _ (F7.below hS F7.lt) HL.out)) hHeld ?_
        try simp only [Act.put, List.setIfInBounds_toArray, List.set_cons_zero, List.set_cons_succ]
        refine wpAnyH_take (i := 2) (oi := ({ dst := some 66, op := Op.binOp BinOp.neq 27 (Operand.tmp 64) (Operand.tmp 65) 27, type := 4, pos := _, after := #[{ on := 0, ground := Ground.data }, { on := 1, ground := Ground.data }], guard := none } : Oper)) (v := ?_) rfl (by kernel_rfl) (by kernel_rfl) (by kernel_rfl) (fun _ _ _ h => h) (Or.inl ⟨by rfl, ?_⟩) hHeld ?_
        rotate_left
        · (intro w hS; go_simp; try with_reducible rfl)
        try simp only [Act.put, List.setIfInBounds_toArray, List.set_cons_zero, List.set_cons_succ]
        refine wpAnyH_take (i := 3) (oi := ({ dst := some 67, op := Op.move (Operand.tmp 66), type := 4, pos := _, after := #[{ on := 2, ground := Ground.data }], guard := none } : Oper)) (v := ?_) rfl (by kernel_rfl) (by kernel_rfl) (by kernel_rfl) (fun _ _ _ h => h) (Or.inl ⟨by rfl, ?_⟩) hHeld ?_
        rotate_left
        · (intro w hS; go_simp; try with_reducible rfl)
        try simp only [Act.put, List.setIfInBounds_toArray, List.set_cons_zero, List.set_cons_succ]
        refine wpAnyH_take (i := 4) (oi := ({ dst := some 68, op := Op.move (Operand.tmp 9), type := 29, pos := _, after := #[{ on := 3, ground := Ground.guard }], guard := some (3, false) } : Oper)) (v := ?_) rfl (by kernel_rfl) (by kernel_rfl) (by kernel_rfl) (fun _ _ _ h => h) (Or.inl ⟨by rfl, ?_⟩) hHeld ?_
        rotate_left
        · (intro w hS; go_simp; try with_reducible rfl)
        try simp only [Act.put, List.setIfInBounds_toArray, List.set_cons_zero, List.set_cons_succ]
        refine wpAnyH_take (i := 5) (oi := ({ dst := some 69, op := Op.move (Operand.tmp 12), type := 3, pos := _, after := #[{ on := 3, ground := Ground.guard }], guard := some (3, false) } : Oper)) (v := ?_) rfl (by kernel_rfl) (by kernel_rfl) (by kernel_rfl) (fun _ _ _ h => h) (Or.inl ⟨by rfl, ?_⟩) hHeld ?_
        rotate_left
        · (intro w hS; go_simp; try with_reducible rfl)
        try simp only [Act.put, List.setIfInBounds_toArray, List.set_cons_zero, List.set_cons_succ]
        refine wpAnyH_take (i := 6) (oi := ({ dst := some 70, op := Op.binOp BinOp.neq 3 (Operand.tmp 68) (Operand.tmp 69) 3, type := 4, pos := _, after := #[{ on := 4, ground := Ground.data }, { on := 5, ground := Ground.data }, { on := 3, ground := Ground.guard }], guard := some (3, false) } : Oper)) (v := ?_) rfl (by kernel_rfl) (by kernel_rfl) (by kernel_rfl) (fun _ _ _ h => h) (Or.inl ⟨by rfl, ?_⟩) hHeld ?_
        rotate_left
        · (intro w hS; go_simp; try with_reducible rfl)
        try simp only [Act.put, List.setIfInBounds_toArray, List.set_cons_zero, List.set_cons_succ]
        refine wpAnyH_take (i := 7) (oi := ({ dst := some 71, op := Op.pick (Operand.tmp 67) (Operand.const (Value.bool true)) (Operand.tmp 70), type := 4, pos := _, after := #[{ on := 3, ground := Ground.data }, { on := 6, ground := Ground.data }], guard := none } : Oper)) (v := ?_) rfl (by kernel_rfl) (by kernel_rfl) (by kernel_rfl) (fun _ _ _ h => h) (Or.inl ⟨by rfl, ?_⟩) hHeld ?_
        rotate_left
        · (intro w hS; go_simp; try with_reducible rfl)
        try simp only [Act.put, List.setIfInBounds_toArray, List.set_cons_zero, List.set_cons_succ]
        refine wpAnyH_take (i := 8) (oi := ({ dst := some 72, op := Op.move (Operand.tmp 71), type := 4, pos := _, after := #[{ on := 7, ground := Ground.data }, { on := 3, ground := Ground.chain }], guard := none } : Oper)) (v := ?_) rfl (by kernel_rfl) (by kernel_rfl) (by kernel_rfl) (fun _ _ _ h => h) (Or.inl ⟨by rfl, ?_⟩) hHeld ?_
        rotate_left
        · (intro w hS; go_simp; try with_reducible rfl)
        try simp only [Act.put, List.setIfInBounds_toArray, List.set_cons_zero, List.set_cons_succ]
        refine wpAnyH_take (i := 9) (oi := ({ dst := some 73, op := Op.move (Operand.tmp 5), type := 42, pos := _, after := #[{ on := 8, ground := Ground.guard }], guard := some (8, false) } : Oper)) (v := ?_) rfl (by kernel_rfl) (by kernel_rfl) (by kernel_rfl) (fun _ _ _ h => h) (Or.inl ⟨by rfl, ?_⟩) hHeld ?_
        rotate_left
        · (intro w hS; go_simp; try with_reducible rfl)
        try simp only [Act.put, List.setIfInBounds_toArray, List.set_cons_zero, List.set_cons_succ]
        refine wpAnyH_take (i := 11) (oi := ({ dst := some 75, op := Op.move (Operand.tmp 6), type := 47, pos := _, after := #[{ on := 8, ground := Ground.guard }], guard := some (8, false) } : Oper)) (v := ?_) rfl (by kernel_rfl) (by kernel_rfl) (by kernel_rfl) (fun _ _ _ h => h) (Or.inl ⟨by rfl, ?_⟩) hHeld ?_
        rotate_left
        · (intro w hS; go_simp; try with_reducible rfl)
        try simp only [Act.put, List.setIfInBounds_toArray, List.set_cons_zero, List.set_cons_succ]
        refine wpAnyH_take (i := 12) (oi := ({ dst := some 76, op := Op.nilCheck (Operand.tmp 75), type := 0, pos := _, after := #[{ on := 11, ground := Ground.data }, { on := 8, ground := Ground.guard }], guard := some (8, false) } : Oper)) (v := ?_) rfl (by kernel_rfl) (by kernel_rfl) (by kernel_rfl) (fun _ _ _ h => h) (Or.inl ⟨by rfl, ?_⟩) hHeld ?_
        rotate_left
        · (intro w hS; go_simp; try with_reducible rfl)
        try simp only [Act.put, List.setIfInBounds_toArray, List.set_cons_zero, List.set_cons_succ]
        refine wpAnyH_take (i := 13) (oi := ({ dst := some 77, op := Op.fieldAddr 49 (Operand.tmp 76) 0, type := 0, pos := _, after := #[{ on := 12, ground := Ground.data }, { on := 8, ground := Ground.guard }], guard := some (8, false) } : Oper)) (v := ?_) rfl (by kernel_rfl) (by kernel_rfl) (by kernel_rfl) (fun _ _ _ h => h) (Or.inl ⟨by rfl, ?_⟩) hHeld ?_
        rotate_left
        · (intro w hS; go_simp; try with_reducible rfl)
        try simp only [Act.put, List.setIfInBounds_toArray, List.set_cons_zero, List.set_cons_succ]
        refine wpAnyH_take (i := 14) (oi := ({ dst := some 78, op := Op.load 4 (Operand.tmp 77), type := 4, pos := _, after := #[{ on := 13, ground := Ground.data }, { on := 8, ground := Ground.guard }], guard := some (8, false) } : Oper))  rfl (by kernel_rfl) (by kernel_rfl) (by kernel_rfl) (fun _ _ _ h => h) (yields_ld rfl rfl rfl (fun w hS => run_ldB w _ _ _ _ Tryd.underlying4 ((QC.below Q7 hS (BK.lt Q7)).facts.1))) hHeld ?_
        try simp only [Act.put, List.setIfInBounds_toArray, List.set_cons_zero, List.set_cons_succ]
        refine wpAnyH_ready (rs := [10]) (by kernel_rfl) (by simp) ?_
        refine AllReadyH.cons (o := ({ dst := some 74, op := Op.call { callee := Callee.value (Operand.func 22), args := #[Operand.tmp 73], argTypes := #[42] }, type := 4, pos := _, after := #[{ on := 9, ground := Ground.data }, { on := 8, ground := Ground.chain }, { on := 8, ground := Ground.guard }], guard := some (8, false) } : Oper)) rfl (fun K hK => ?_) AllReadyH.nil
        refine step_call (careful_calls _ p2 d2 cc _ (RC.below R7 hHeld R7.lt)) (enters_of Tryd.func22 (by kernel_rfl) rfl) _ _ rfl rfl rfl ?_
        rintro e w8 ⟨rfl, rfl⟩
        refine ⟨_, rfl, hK.out _ _ hHeld (fun hHeld => ?_)⟩
        clear hK K
        try simp only [Act.put, List.setIfInBounds_toArray, List.set_cons_zero, List.set_cons_succ]
        refine wpAnyH_take (i := 15) (oi := ({ dst := some 79, op := Op.binOp BinOp.neq 4 (Operand.tmp 74) (Operand.tmp 78) 4, type := 4, pos := _, after := #[{ on := 10, ground := Ground.data }, { on := 14, ground := Ground.data }, { on := 8, ground := Ground.guard }], guard := some (8, false) } : Oper)) (v := ?_) rfl (by kernel_rfl) (by kernel_rfl) (by kernel_rfl) (fun _ _ _ h => h) (Or.inl ⟨by rfl, ?_⟩) hHeld ?_
        rotate_left
        · (intro w hS; go_simp; try with_reducible rfl)
        try simp only [Act.put, List.setIfInBounds_toArray, List.set_cons_zero, List.set_cons_succ]
        refine wpAnyH_take (i := 16) (oi := ({ dst := some 80, op := Op.pick (Operand.tmp 72) (Operand.const (Value.bool true)) (Operand.tmp 79), type := 4, pos := _, after := #[{ on := 8, ground := Ground.data }, { on := 15, ground := Ground.data }], guard := none } : Oper)) (v := ?_) rfl (by kernel_rfl) (by kernel_rfl) (by kernel_rfl) (fun _ _ _ h => h) (Or.inl ⟨by rfl, ?_⟩) hHeld ?_
        rotate_left
        · (intro w hS; go_simp; try with_reducible rfl)
        try simp only [Act.put, List.setIfInBounds_toArray, List.set_cons_zero, List.set_cons_succ]
        refine wpAnyH_take (i := 17) (oi := ({ dst := some 81, op := Op.move (Operand.tmp 80), type := 4, pos := _, after := #[{ on := 16, ground := Ground.data }, { on := 10, ground := Ground.chain }], guard := none } : Oper)) (v := ?_) rfl (by kernel_rfl) (by kernel_rfl) (by kernel_rfl) (fun _ _ _ h => h) (Or.inl ⟨by rfl, ?_⟩) hHeld ?_
        rotate_left
        · (intro w hS; go_simp; try with_reducible rfl)
        try simp only [Act.put, List.setIfInBounds_toArray, List.set_cons_zero, List.set_cons_succ]
        refine wpAnyH_take (i := 18) (oi := ({ dst := some 82, op := Op.move (Operand.tmp 5), type := 42, pos := _, after := #[{ on := 17, ground := Ground.guard }], guard := some (17, false) } : Oper)) (v := ?_) rfl (by kernel_rfl) (by kernel_rfl) (by kernel_rfl) (fun _ _ _ h => h) (Or.inl ⟨by rfl, ?_⟩) hHeld ?_
        rotate_left
        · (intro w hS; go_simp; try with_reducible rfl)
        try simp only [Act.put, List.setIfInBounds_toArray, List.set_cons_zero, List.set_cons_succ]
        refine wpAnyH_take (i := 20) (oi := ({ dst := some 84, op := Op.move (Operand.tmp 6), type := 47, pos := _, after := #[{ on := 17, ground := Ground.guard }], guard := some (17, false) } : Oper)) (v := ?_) rfl (by kernel_rfl) (by kernel_rfl) (by kernel_rfl) (fun _ _ _ h => h) (Or.inl ⟨by rfl, ?_⟩) hHeld ?_
        rotate_left
        · (intro w hS; go_simp; try with_reducible rfl)
        try simp only [Act.put, List.setIfInBounds_toArray, List.set_cons_zero, List.set_cons_succ]
        refine wpAnyH_take (i := 21) (oi := ({ dst := some 85, op := Op.nilCheck (Operand.tmp 84), type := 0, pos := _, after := #[{ on := 20, ground := Ground.data }, { on := 17, ground := Ground.guard }], guard := some (17, false) } : Oper)) (v := ?_) rfl (by kernel_rfl) (by kernel_rfl) (by kernel_rfl) (fun _ _ _ h => h) (Or.inl ⟨by rfl, ?_⟩) hHeld ?_
        rotate_left
        · (intro w hS; go_simp; try with_reducible rfl)
        try simp only [Act.put, List.setIfInBounds_toArray, List.set_cons_zero, List.set_cons_succ]
        refine wpAnyH_take (i := 22) (oi := ({ dst := some 86, op := Op.fieldAddr 49 (Operand.tmp 85) 1, type := 0, pos := _, after := #[{ on := 21, ground := Ground.data }, { on := 17, ground := Ground.guard }], guard := some (17, false) } : Oper)) (v := ?_) rfl (by kernel_rfl) (by kernel_rfl) (by kernel_rfl) (fun _ _ _ h => h) (Or.inl ⟨by rfl, ?_⟩) hHeld ?_
        rotate_left
        · (intro w hS; go_simp; try with_reducible rfl)
        try simp only [Act.put, List.setIfInBounds_toArray, List.set_cons_zero, List.set_cons_succ]
        refine wpAnyH_take (i := 23) (oi := ({ dst := some 87, op := Op.load 3 (Operand.tmp 86), type := 3, pos := _, after := #[{ on := 22, ground := Ground.data }, { on := 17, ground := Ground.guard }], guard := some (17, false) } : Oper))  rfl (by kernel_rfl) (by kernel_rfl) (by kernel_rfl) (fun _ _ _ h => h) (yields_ld rfl rfl rfl (fun w hS => run_ldX w _ _ _ _ _ Tryd.underlying3 ((QC.below Q7 hS (BK.lt Q7)).facts.2.1))) hHeld ?_
        try simp only [Act.put, List.setIfInBounds_toArray, List.set_cons_zero, List.set_cons_succ]
        refine wpAnyH_ready (rs := [19]) (by kernel_rfl) (by simp) ?_
        refine AllReadyH.cons (o := ({ dst := some 83, op := Op.call { callee := Callee.value (Operand.func 23), args := #[Operand.tmp 82], argTypes := #[42] }, type := 3, pos := _, after := #[{ on := 18, ground := Ground.data }, { on := 17, ground := Ground.chain }, { on := 17, ground := Ground.guard }], guard := some (17, false) } : Oper)) rfl (fun K hK => ?_) AllReadyH.nil
        refine step_call (repaired_calls _ p2 d2 cc _ (RC.below R7 hHeld R7.lt)) (enters_of Tryd.func23 (by kernel_rfl) rfl) _ _ rfl rfl rfl ?_
        rintro e w9 ⟨rfl, rfl⟩
        refine ⟨_, rfl, hK.out _ _ hHeld (fun hHeld => ?_)⟩
        clear hK K
        try simp only [Act.put, List.setIfInBounds_toArray, List.set_cons_zero, List.set_cons_succ]
        refine wpAnyH_take (i := 24) (oi := ({ dst := some 88, op := Op.binOp BinOp.neq 3 (Operand.tmp 83) (Operand.tmp 87) 3, type := 4, pos := _, after := #[{ on := 19, ground := Ground.data }, { on := 23, ground := Ground.data }, { on := 17, ground := Ground.guard }], guard := some (17, false) } : Oper)) (v := ?_) rfl (by kernel_rfl) (by kernel_rfl) (by kernel_rfl) (fun _ _ _ h => h) (Or.inl ⟨by rfl, ?_⟩) hHeld ?_
        rotate_left
        · (intro w hS; go_simp; try with_reducible rfl)
        try simp only [Act.put, List.setIfInBounds_toArray, List.set_cons_zero, List.set_cons_succ]
        refine wpAnyH_take (i := 25) (oi := ({ dst := some 89, op := Op.pick (Operand.tmp 81) (Operand.const (Value.bool true)) (Operand.tmp 88), type := 4, pos := _, after := #[{ on := 17, ground := Ground.data }, { on := 24, ground := Ground.data }], guard := none } : Oper)) (v := ?_) rfl (by kernel_rfl) (by kernel_rfl) (by kernel_rfl) (fun _ _ _ h => h) (Or.inl ⟨by rfl, ?_⟩) hHeld ?_
        rotate_left
        · (intro w hS; go_simp; try with_reducible rfl)
        try simp only [Act.put, List.setIfInBounds_toArray, List.set_cons_zero, List.set_cons_succ]
        refine wpAnyH_take (i := 26) (oi := ({ dst := some 90, op := Op.move (Operand.tmp 89), type := 4, pos := _, after := #[{ on := 25, ground := Ground.data }, { on := 19, ground := Ground.chain }], guard := none } : Oper)) (v := ?_) rfl (by kernel_rfl) (by kernel_rfl) (by kernel_rfl) (fun _ _ _ h => h) (Or.inl ⟨by rfl, ?_⟩) hHeld ?_
        rotate_left
        · (intro w hS; go_simp; try with_reducible rfl)
        try simp only [Act.put, List.setIfInBounds_toArray, List.set_cons_zero, List.set_cons_succ]
        refine wpAnyH_take (i := 27) (oi := ({ dst := some 91, op := Op.move (Operand.tmp 5), type := 42, pos := _, after := #[{ on := 26, ground := Ground.guard }], guard := some (26, false) } : Oper)) (v := ?_) rfl (by kernel_rfl) (by kernel_rfl) (by kernel_rfl) (fun _ _ _ h => h) (Or.inl ⟨by rfl, ?_⟩) hHeld ?_
        rotate_left
        · (intro w hS; go_simp; try with_reducible rfl)
        try simp only [Act.put, List.setIfInBounds_toArray, List.set_cons_zero, List.set_cons_succ]
        refine wpAnyH_take (i := 29) (oi := ({ dst := some 93, op := Op.move (Operand.tmp 6), type := 47, pos := _, after := #[{ on := 26, ground := Ground.guard }], guard := some (26, false) } : Oper)) (v := ?_) rfl (by kernel_rfl) (by kernel_rfl) (by kernel_rfl) (fun _ _ _ h => h) (Or.inl ⟨by rfl, ?_⟩) hHeld ?_
        rotate_left
        · (intro w hS; go_simp; try with_reducible rfl)
        try simp only [Act.put, List.setIfInBounds_toArray, List.set_cons_zero, List.set_cons_succ]
        refine wpAnyH_take (i := 30) (oi := ({ dst := some 94, op := Op.nilCheck (Operand.tmp 93), type := 0, pos := _, after := #[{ on := 29, ground := Ground.data }, { on := 26, ground := Ground.guard }], guard := some (26, false) } : Oper)) (v := ?_) rfl (by kernel_rfl) (by kernel_rfl) (by kernel_rfl) (fun _ _ _ h => h) (Or.inl ⟨by rfl, ?_⟩) hHeld ?_
        rotate_left
        · (intro w hS; go_simp; try with_reducible rfl)
        try simp only [Act.put, List.setIfInBounds_toArray, List.set_cons_zero, List.set_cons_succ]
        refine wpAnyH_take (i := 31) (oi := ({ dst := some 95, op := Op.fieldAddr 49 (Operand.tmp 94) 2, type := 0, pos := _, after := #[{ on := 30, ground := Ground.data }, { on := 26, ground := Ground.guard }], guard := some (26, false) } : Oper)) (v := ?_) rfl (by kernel_rfl) (by kernel_rfl) (by kernel_rfl) (fun _ _ _ h => h) (Or.inl ⟨by rfl, ?_⟩) hHeld ?_
        rotate_left
        · (intro w hS; go_simp; try with_reducible rfl)
        try simp only [Act.put, List.setIfInBounds_toArray, List.set_cons_zero, List.set_cons_succ]
        refine wpAnyH_take (i := 32) (oi := ({ dst := some 96, op := Op.load 3 (Operand.tmp 95), type := 3, pos := _, after := #[{ on := 31, ground := Ground.data }, { on := 26, ground := Ground.guard }], guard := some (26, false) } : Oper))  rfl (by kernel_rfl) (by kernel_rfl) (by kernel_rfl) (fun _ _ _ h => h) (yields_ld rfl rfl rfl (fun w hS => run_ldX w _ _ _ _ _ Tryd.underlying3 ((QC.below Q7 hS (BK.lt Q7)).facts.2.2.1))) hHeld ?_
        try simp only [Act.put, List.setIfInBounds_toArray, List.set_cons_zero, List.set_cons_succ]
        refine wpAnyH_ready (rs := [28]) (by kernel_rfl) (by simp) ?_
        refine AllReadyH.cons (o := ({ dst := some 92, op := Op.call { callee := Callee.value (Operand.func 24), args := #[Operand.tmp 91], argTypes := #[42] }, type := 3, pos := _, after := #[{ on := 27, ground := Ground.data }, { on := 26, ground := Ground.chain }, { on := 26, ground := Ground.guard }], guard := some (26, false) } : Oper)) rfl (fun K hK => ?_) AllReadyH.nil
        refine step_call (dropped_calls _ p2 d2 cc _ (RC.below R7 hHeld R7.lt)) (enters_of Tryd.func24 (by kernel_rfl) rfl) _ _ rfl rfl rfl ?_
        rintro e w10 ⟨rfl, rfl⟩
        refine ⟨_, rfl, hK.out _ _ hHeld (fun hHeld => ?_)⟩
        clear hK K
        try simp only [Act.put, List.setIfInBounds_toArray, List.set_cons_zero, List.set_cons_succ]
        refine wpAnyH_take (i := 33) (oi := ({ dst := some 97, op := Op.binOp BinOp.neq 3 (Operand.tmp 92) (Operand.tmp 96) 3, type := 4, pos := _, after := #[{ on := 28, ground := Ground.data }, { on := 32, ground := Ground.data }, { on := 26, ground := Ground.guard }], guard := some (26, false) } : Oper)) (v := ?_) rfl (by kernel_rfl) (by kernel_rfl) (by kernel_rfl) (fun _ _ _ h => h) (Or.inl ⟨by rfl, ?_⟩) hHeld ?_
        rotate_left
        · (intro w hS; go_simp; try with_reducible rfl)
        try simp only [Act.put, List.setIfInBounds_toArray, List.set_cons_zero, List.set_cons_succ]
        refine wpAnyH_take (i := 34) (oi := ({ dst := some 98, op := Op.pick (Operand.tmp 90) (Operand.const (Value.bool true)) (Operand.tmp 97), type := 4, pos := _, after := #[{ on := 26, ground := Ground.data }, { on := 33, ground := Ground.data }], guard := none } : Oper)) (v := ?_) rfl (by kernel_rfl) (by kernel_rfl) (by kernel_rfl) (fun _ _ _ h => h) (Or.inl ⟨by rfl, ?_⟩) hHeld ?_
        rotate_left
        · (intro w hS; go_simp; try with_reducible rfl)
        try simp only [Act.put, List.setIfInBounds_toArray, List.set_cons_zero, List.set_cons_succ]
        refine wpAnyH_done (by kernel_rfl) ?_ _
        have R8 := RC.below R7 hHeld R7.lt
        have Q8 := QC.below Q7 hHeld (BK.lt Q7)
        have b18 := b17.trans (hHeld.mono z7)
        clear R7 Q7 C7 F7 hHeld
        go_wp2
        go_roundw
        case rel => exact ⟨k + 1, p2, d2, cc, by omega, by go_num, HPD.out, R8, Q8, b18⟩
        case measure => simp [intOf]; omega
    · obtain rfl : k = len := by omega
      go_wp2
      go_ret
      exact ⟨rfl, B1⟩
end Go.Proofs.YtpifmljbaogcbaaDoor

/- Proved here: what the listed tables hold when a call begins, and a start that meets it. Conditions: as each theorem states them. -/
namespace Go.Proofs.YtpifmljbaogcbaaDoor.H
open Go.RowKit

def laidL : List (String × DataW Unit) := [("trunkline/header.userBits", Rows.laid_trunkline_header_userBits), ("trunkline/header.switchBits", Rows.laid_trunkline_header_switchBits)]

theorem gSwitch : Tryd.prog.globalNamed "trunkline/header.switchBits" = some 0 := by kernel_rfl
theorem gUser : Tryd.prog.globalNamed "trunkline/header.userBits" = some 1 := by kernel_rfl
theorem tSwitch : (Tryd.prog.globals[0]?).map (·.type) = some 97 := by kernel_rfl
theorem tUser : (Tryd.prog.globals[1]?).map (·.type) = some 97 := by kernel_rfl
theorem c47 : Tryd.prog.cellsOf 73 = 1 := by kernel_rfl
theorem c54 : Tryd.prog.cellsOf 97 = 5 := by kernel_rfl

theorem door_met (os : Os) (args : Array Value) : laidMetH Tryd.prog laidL ((World.doorLaid Tryd.prog 19 os).forCall (fun _ _ => 0) ⟨#[], args, []⟩).memory :=
  laidMetH_of_parts3 (fuel := 8) (laidMet_of_run' 8 (by kernel_rfl) (by kernel_rfl)) (by kernel_rfl) (by kernel_rfl)

theorem tab_of_laid {W : World} (h : laidMetH Tryd.prog laidL W) : Tab W := by
  rw [MakeChecks.laidMetH_plain _ _ _ (by kernel_rfl)] at h
  have u := Lib.tabIs_of_head (k := .u64) (zs := [4, 8, 16, 3, 1]) gUser tUser Tryd.underlying97 Tryd.underlying73 c47 c54 h
  have s := Lib.tabIs_of_head (k := .u64) (zs := [0, 12, 16, 3, 1]) gSwitch tSwitch Tryd.underlying97 Tryd.underlying73 c47 c54 h.tail
  have e := u.cell gUser 0 (by decide)
  exact ⟨World.block_lt_of_cell? W ⟨1, 0, none⟩ e, ⟨s.cell gSwitch 0 (by decide), s.cell gSwitch 1 (by decide), s.cell gSwitch 2 (by decide), s.cell gSwitch 3 (by decide), s.cell gSwitch 4 (by decide)⟩,
    e, u.cell gUser 1 (by decide), u.cell gUser 2 (by decide), u.cell gUser 3 (by decide), u.cell gUser 4 (by decide)⟩
end Go.Proofs.YtpifmljbaogcbaaDoor.H

/- Proved here: how an array and a struct of integers that came in read. Conditions: as each theorem states them. -/
namespace Go.Proofs.YtpifmljbaogcbaaDoor.H
open Go.RowKit Go.WideShapes

theorem okWide_array {P : Program} {w : World} {r : Reach} {base : Nat} {t : TypeId} {v : Value} {n : Nat} {e : TypeId} (ht : P.underlying t = some (.array n e)) (h : Value.okWide P w r base t v) : ∃ cs, v = .agg cs ∧ cs.size = P.cellsOf t := by
  simp only [Value.okWide, ht] at h
  obtain ⟨cs, h1, h2, _⟩ := h
  exact ⟨cs, h1, h2⟩

theorem open_arr {H : Type} {enc : TypeId × Value → H} {P : Program} {w : World} {base : Nat} {spare : Nat → Bool} {held : Bool} {r : Reach} {b0 : Nat} {t e : TypeId} {n : Nat} {k : IntKind} {v : Value} {d : DataW H} {p : List MemPlace}
    (ht : P.underlying t = some (.array n e)) (he : P.underlying e = some (.int k)) (hce : P.cellsOf e = 1) (hct : P.cellsOf t = n) (hv : Value.okWide P w r b0 t v) (h : DataW.Trod enc P w base spare held t v d p) :
    ∃ zs : List Int, zs.length = n ∧ v = .agg (zs.map fun z => Value.int k z).toArray ∧ ∀ z ∈ zs, (Lit.int k z).wf = true := by
  obtain ⟨cs, rfl, hsz⟩ := okWide_array ht hv
  obtain ⟨fuel, hf⟩ := h
  obtain ⟨xs, m, _, _, hl, hx, hall⟩ := DataW.trod_array ht hf
  have hcells : (Value.cells (.agg cs)).toList = cs.toList := rfl
  rw [hcells] at hl hall
  rw [hce] at hall
  have key : ∀ i, i < n → ∃ z, cs.toList[i]? = some (.int k z) ∧ (Lit.int k z).wf = true := by
    intro i hi
    have h1 := hall i hi
    obtain ⟨y, hy⟩ : ∃ y, xs[i]? = some y := ⟨xs[i]'(by omega), by rw [List.getElem?_eq_getElem]⟩
    rw [hy] at h1
    obtain ⟨z, hz, _, hwf⟩ := DataW.trod_int he h1
    refine ⟨z, ?_, hwf⟩
    have : (List.take 1 (List.drop (i * 1) cs.toList))[0]? = some (.int k z) := by rw [hz]; rfl
    simpa using this
  have hlen : cs.toList.length = n := hl.trans hct
  have hcs : cs.toList = (cs.toList.map intOf).map fun z => Value.int k z := by
    apply List.ext_getElem?
    intro i
    by_cases hi : i < n
    · obtain ⟨z, hz, _⟩ := key i hi
      rw [List.getElem?_map, List.getElem?_map, hz]; rfl
    · rw [List.getElem?_eq_none (by omega), List.getElem?_eq_none (by simp; simpa using (by omega : cs.toList.length ≤ i))]
  refine ⟨cs.toList.map intOf, by simpa using hlen, ?_, ?_⟩
  · rw [← hcs]
  · intro z hz
    obtain ⟨v, hv, rfl⟩ := List.mem_map.1 hz
    obtain ⟨i, hi, rfl⟩ := List.getElem_of_mem hv
    obtain ⟨z, hz, hwf⟩ := key i (by omega)
    rw [List.getElem?_eq_getElem hi] at hz
    rw [Option.some.inj hz]
    exact hwf

theorem open_struct_ints {H : Type} {enc : TypeId × Value → H} {P : Program} {w : World} {base : Nat} {spare : Nat → Bool} {held : Bool} {r : Reach} {b0 : Nat} {t e : TypeId} {n : Nat} {k : IntKind} {fs : Array Field} {v : Value} {d : DataW H} {p : List MemPlace}
    (ht : P.underlying t = some (.struct fs)) (he : P.underlying e = some (.int k)) (hce : P.cellsOf e = 1) (hct : P.cellsOf t = n)
    (hfs : ((List.range n).all fun i => match fs[i]? with | some f => f.type == e && f.offset == i | none => false) = true) (hfn : fs.size = n) (hv : Value.okWide P w r b0 t v) (h : DataW.Trod enc P w base spare held t v d p) :
    ∃ zs : List Int, zs.length = n ∧ v = .agg (zs.map fun z => Value.int k z).toArray ∧ ∀ z ∈ zs, (Lit.int k z).wf = true := by
  obtain ⟨cs, rfl, hsz⟩ := okWide_struct ht hv
  obtain ⟨fuel, hf⟩ := h
  obtain ⟨xs, m, _, _, hl, hx, hall⟩ := DataW.trod_struct ht hf
  have hcells : (Value.cells (.agg cs)).toList = cs.toList := rfl
  rw [hcells] at hl hall
  have key : ∀ i, i < n → ∃ z, cs.toList[i]? = some (.int k z) ∧ (Lit.int k z).wf = true := by
    intro i hi
    have hq := List.all_eq_true.1 hfs i (List.mem_range.2 hi)
    cases hfi : fs[i]? with
    | none => rw [hfi] at hq; simp at hq
    | some f =>
      rw [hfi] at hq
      simp only [Bool.and_eq_true, beq_iff_eq] at hq
      have h1 := hall i f hfi
      rw [hq.1, hq.2, hce] at h1
      obtain ⟨y, hy⟩ : ∃ y, xs[i]? = some y := ⟨xs[i]'(by omega), by rw [List.getElem?_eq_getElem]⟩
      rw [hy] at h1
      obtain ⟨z, hz, _, hwf⟩ := DataW.trod_int he h1
      refine ⟨z, ?_, hwf⟩
      have : (List.take 1 (List.drop i cs.toList))[0]? = some (.int k z) := by rw [hz]; rfl
      simpa using this
  have hlen : cs.toList.length = n := hl.trans hct
  have hcs : cs.toList = (cs.toList.map intOf).map fun z => Value.int k z := by
    apply List.ext_getElem?
    intro i
    by_cases hi : i < n
    · obtain ⟨z, hz, _⟩ := key i hi
      rw [List.getElem?_map, List.getElem?_map, hz]; rfl
    · rw [List.getElem?_eq_none (by omega), List.getElem?_eq_none (by simp; simpa using (by omega : cs.toList.length ≤ i))]
  refine ⟨cs.toList.map intOf, by simpa using hlen, ?_, ?_⟩
  · rw [← hcs]
  · intro z hz
    obtain ⟨v, hv, rfl⟩ := List.mem_map.1 hz
    obtain ⟨i, hi, rfl⟩ := List.getElem_of_mem hv
    obtain ⟨z, hz, hwf⟩ := key i (by omega)
    rw [List.getElem?_eq_getElem hi] at hz
    rw [Option.some.inj hz]
    exact hwf
theorem list5 {α : Type} : ∀ {l : List α}, l.length = 5 → ∃ y0 y1 y2 y3 y4, l = [y0, y1, y2, y3, y4]
  | [y0, y1, y2, y3, y4], _ => ⟨y0, y1, y2, y3, y4, rfl⟩
end Go.Proofs.YtpifmljbaogcbaaDoor.H
