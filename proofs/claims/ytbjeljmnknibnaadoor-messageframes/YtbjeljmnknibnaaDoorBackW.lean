/- Proved here: the law MessageBack's walk. Conditions: as each theorem states them. -/
import Derived.Test.YtbjeljmnknibnaaDoorAw
import Derived.Test.YtbjeljmnknibnaaDoorMsm
import Derived.Test.YtbjeljmnknibnaaDoorMAny
import Derived.Deep.DeepCutAuto
namespace Go.Proofs.YtbjeljmnknibnaaDoor
set_option linter.unusedSimpArgs false
set_option linter.unusedVariables false
set_option maxRecDepth 20000
open Go.RowKit Go.Shelf

theorem unM_err_ne {zs : List UInt8} {E : Int} (h : unM zs = .error E) : E ≠ 0 := by
  by_cases hl : 1000 < zs.length
  · rw [unM_long hl] at h; cases h; decide
  by_cases h9 : zs.length < 9
  · rw [unM_short h9] at h; cases h; decide
  obtain ⟨a, b, c, d, e, f, g, hh, i, t, rfl⟩ := nine_of (zs := zs) (by omega)
  rw [unM_nine (by simp at hl; omega)] at h
  split at h
  · cases h; decide
  split at h
  · cases h; decide
  split at h
  · cases h; decide
  split at h
  · cases h; decide
  cases hu : unE 16 t with
  | error E2 =>
    rw [hu] at h
    cases h
    rcases unE_err_of hu with rfl | rfl | rfl <;> decide
  | ok L => rw [hu] at h; cases h
theorem mu_bad {zs : List UInt8} {E : Int} (h : unM zs = .error E) {w : World} {e : Ending} {w' : World} (hm : MuAll zs w e w') : ∃ (a : Option Addr) (c : Nat), e = .returned (.tuple #[meV 0 false 0 a 0 c, .int .i64 E]) ∧ Below w.heap.size w w' := by
  obtain ⟨h1, h2⟩ := unMe_err h
  obtain ⟨a, n, c, rfl, hI, _, b⟩ := hm
  rw [h1] at hI
  obtain rfl : n = 0 := hI.1
  exact ⟨a, c, by rw [h1, h2], b⟩
theorem mu_good {zs : List UInt8} {m : Me} (h : unM zs = .ok m) {w : World} {e : Ending} {w' : World} (hm : MuAll zs w e w') : ∃ (a : Option Addr) (n c : Nat), e = .returned (.tuple #[meV m.ref m.back m.kind a n c, .int .i64 0]) ∧ IsI w'.heap.size w' a n m.ies ∧ n ≤ 16 ∧ Below w.heap.size w w' := by
  obtain ⟨h1, h2⟩ := unMe_ok h
  obtain ⟨a, n, c, rfl, hI, hn, b⟩ := hm
  rw [h1] at hI
  exact ⟨a, n, c, by rw [h1, h2], hI, hn, b⟩

set_option maxHeartbeats 8000000 in
theorem back_walk (r : Int) (b : Bool) (k : Int) (a : Option Addr) (n c : Nat) (L : List El) (a1 : Option Addr) (l1 k1 : Nat) (bs : List UInt8) (cut : Nat) (hcut : cut < 65536) (x : UInt8) (W : World) (hv : IsI W.heap.size W a n L) (hn : n ≤ maxLen) (I1 : IsB W.heap.size W a1 l1 bs) (c1 : l1 ≤ k1) (ht : Tab W) :
    Calls Tryd.prog 5 #[meV r b k a n c, .slice a1 l1 k1, .int .u16 (cut : Int), .int .u8 (x.toNat : Int)] W fun e w' => e = .returned (.bool true) ∧ Below W.heap.size W w' := by
  have A0 := me_below (w := W) (r := r) (b := b) (k := k) (a := a) (n := n) (c := c)
  have K0 := me_box (w := W) (r := r) (b := b) (k := k) (a := a) (n := n) (c := c)
  go_enter Tryd.func5, Tryd.ntmps5
  go_wp2_with fail
  refine (awake_calls _ (ht.on A0)).mono ?_
  rintro e w1 ⟨rfl, b1⟩
  have B1 := A0.trans (b1.mono A0.size)
  have K1 := K0.below b1 K0.lt
  have HF := mfew_calls r b k a n c L w1 (hv.below B1 (Nat.le_refl _)) B1.size hn
  clear A0 K0 b1
  cases hf : fewB L
  · rw [hf] at HF
    go_wp2_with (with_reducible show wpList _ _ _ (Oper.mk _ (Op.load 24 _) _ _ _ _ :: _) _ _; refine wpList_ld rfl rfl rfl (run_ldM (by with_reducible assumption)) ?_; (try simp only [Act.put, List.setIfInBounds_toArray, List.set_cons_zero, List.set_cons_succ, World.size_alloc]))
    refine HF.mono ?_
    rintro e w2 ⟨rfl, b2⟩
    have B2 := B1.trans (b2.mono B1.size)
    go_wp2_with fail
    refine (awake_calls w2 (ht.on B2)).mono ?_
    rintro e w3 ⟨rfl, b3⟩
    go_wp2
    go_ret
    exact ⟨rfl, B2.trans (b3.mono B2.size)⟩
  rw [hf] at HF
  obtain ⟨h300, h20⟩ := fewB_iff.1 hf
  have hl20 : n ≤ 20 := by have := hv.1; omega
  have H300 : Hid (∀ x ∈ L, x.body.length ≤ 300) := h300
  clear hf h300 h20 hn
  by_cases h6 : 1500 < l1
  · have q1 : decide (1500 < (l1 : Int)) = true := by simp; omega
    clear h6
    go_wp2_with (with_reducible show wpList _ _ _ (Oper.mk _ (Op.load 24 _) _ _ _ _ :: _) _ _; refine wpList_ld rfl rfl rfl (run_ldM (by with_reducible assumption)) ?_; (try simp only [Act.put, List.setIfInBounds_toArray, List.set_cons_zero, List.set_cons_succ, World.size_alloc]))
    refine HF.mono ?_
    rintro e w2 ⟨rfl, b2⟩
    have B2 := B1.trans (b2.mono B1.size)
    go_wp2_with fail
    refine (awake_calls w2 (ht.on B2)).mono ?_
    rintro e w3 ⟨rfl, b3⟩
    go_wp2
    go_ret
    exact ⟨rfl, B2.trans (b3.mono B2.size)⟩
  have q1 : decide (1500 < (l1 : Int)) = false := by simp; omega
  have h15 : l1 ≤ 1500 := Nat.not_lt.1 h6
  have HB1 : Hid (∀ w, Below W.heap.size W w → Calls Tryd.prog 13 #[.slice a1 l1 k1] w (MuAll bs w)) := fun w hb => munpack_calls a1 l1 k1 bs w (I1.below hb (Nat.le_refl _)) hb.size c1 (by omega) (ht.on hb)
  clear h6
  go_wp2_with (with_reducible show wpList _ _ _ (Oper.mk _ (Op.load 24 _) _ _ _ _ :: _) _ _; refine wpList_ld rfl rfl rfl (run_ldM (by with_reducible assumption)) ?_; (try simp only [Act.put, List.setIfInBounds_toArray, List.set_cons_zero, List.set_cons_succ, World.size_alloc]))
  refine HF.mono ?_
  rintro e w2 ⟨rfl, b2⟩
  have B2 := B1.trans (b2.mono B1.size)
  have K2 := K1.below b2 K1.lt
  clear HF b2 B1 K1 q1
  have HP := mpack_all r b k a n c L w2 (hv.below B2 (Nat.le_refl _)) B2.size (by omega) (ht.on B2)
  obtain ⟨m, hm⟩ : ∃ m, mk r b k L = m := ⟨_, rfl⟩
  rw [hm] at HP
  have HM : Hid (mk r b k L = m) := hm
  clear hm
  go_wp2_with (with_reducible show wpList _ _ _ (Oper.mk _ (Op.load 24 _) _ _ _ _ :: _) _ _; refine wpList_ld rfl rfl rfl (run_ldM (by with_reducible assumption)) ?_; (try simp only [Act.put, List.setIfInBounds_toArray, List.set_cons_zero, List.set_cons_succ, World.size_alloc]))
  refine HP.mono ?_
  rintro e w3 ⟨a3, n3, c3, rfl, o3, hz3, hc3, b3⟩
  have B3 := B2.trans (b3.mono B2.size)
  have K3 := K2.below b3 K2.lt
  clear HP b3 B2 K2
  cases hU : unM bs with
  | error E2 =>
    have hE2 : (E2 != 0) = true := by simpa using unM_err_ne hU
    by_cases hE : mpE m = 0
    · obtain ⟨hr, hl⟩ := mpE_zero hE
      have e3 := mpB_ok hE
      rw [hE]
      rw [e3] at o3
      have hn3 : n3 = (bytesM m).length := o3.1
      have h9 : 9 ≤ n3 := by rw [hn3, bytesM_length]; omega
      have h1000 : n3 ≤ 1000 := by omega
      have HU1 : Hid (unM (bytesM m) = .ok (mk r b k L)) := by rw [HM.out]; exact unM_bytes hr hl
      obtain ⟨q, hq⟩ : ∃ q, cut % n3 = q := ⟨_, rfl⟩
      have hqn : q < n3 := by rw [← hq]; exact Nat.mod_lt _ (by omega)
      have HU2 : Hid (unM ((bytesM m).take q) = .error 2) := unM_cut hr hl (by omega)
      have HU3 : Hid (unM (bytesM m ++ [x]) = .error 3 ∨ unM (bytesM m ++ [x]) = .error 6) := unM_more hr hl x
      obtain ⟨zs, hzs⟩ : ∃ zs, bytesM m = zs := ⟨_, rfl⟩
      rw [hzs] at o3 hn3 HU1 HU2 HU3
      have HT : Hid (IsB w3.heap.size w3 a3 q (zs.take q)) := o3.take q (by omega)
      have tm : (cut : Int).tmod (n3 : Int) = (q : Int) := by rw [← hq]; rfl
      have HLn : Hid (n3 = zs.length) := hn3
      have hqc : (q : Int) ≤ (c3 : Int) := by omega
      have hn0 : ((n3 : Int) == 0) = false := by simp; omega
      have wn : IntKind.i64.wrap (cut : Int) = (cut : Int) := by rw [IntKind.wrap_i64]; omega
      obtain ⟨g3, o3', rfl, _, _⟩ := o3.cell (k := 0) (x := zs[0]'(by have := HLn.out; omega)) (List.getElem?_eq_getElem (by have := HLn.out; omega))
      clear hE hr hl e3 hq hzs hn3
      have HP := munpack_calls (some ⟨g3, o3', none⟩) n3 c3 zs w3 o3 (Nat.le_refl _) hc3 (by omega) (ht.on B3)
      go_wp2_with fail
      refine HP.mono ?_
      rintro e w4 hmu
      obtain ⟨a4, n4, c4, rfl, o4, h4, b4⟩ : ∃ (a' : Option Addr) (n' c' : Nat), e = .returned (.tuple #[meV r b k a' n' c', .int .i64 0]) ∧ IsI w4.heap.size w4 a' n' L ∧ n' ≤ 16 ∧ Below w3.heap.size w3 w4 := mu_good HU1.out hmu
      have B4 := B3.trans (b4.mono B3.size)
      have K4 := K3.below b4 K3.lt
      have A5 := me_below (w := w4) (r := r) (b := b) (k := k) (a := a4) (n := n4) (c := c4)
      have X5 := me_box (w := w4) (r := r) (b := b) (k := k) (a := a4) (n := n4) (c := c4)
      have B5 := B4.trans (A5.mono B4.size)
      have K5 := K4.below A5 K4.lt
      have o5 := o4.below A5 (Nat.le_refl _)
      have i5 := (o3.below b4 (Nat.le_refl _)).below A5 b4.size
      have HT5 : Hid (IsB w3.heap.size (w4.alloc (.cells (meC r b k a4 n4 c4) 24)) (some ⟨g3, o3', none⟩) q (zs.take q)) := (HT.out.below b4 (Nat.le_refl _)).below A5 b4.size
      have s34 := b4.size
      have s45 := A5.size
      clear HP hmu b4 A5 B4 K3 K4 o4 HT HU1
      have HP := munpack_calls (some ⟨g3, o3', none⟩) q c3 (zs.take q) _ HT5.out (Nat.le_trans s34 s45) (by omega) (by omega) (ht.on B5)
      go_wp2_with fail
      generalize w4.alloc (.cells (meC r b k a4 n4 c4) 24) = w5 at *
      refine HP.mono ?_
      rintro e w6 hmu
      obtain ⟨a6, c6, rfl, b6⟩ := mu_bad HU2.out hmu
      have B6 := B5.trans (b6.mono B5.size)
      have K6 := K5.below b6 K5.lt
      have X6 := X5.below b6 X5.lt
      have A7 := me_below (w := w6) (r := 0) (b := false) (k := 0) (a := a6) (n := 0) (c := c6)
      have B7 := B6.trans (A7.mono B6.size)
      have K7 := K6.below A7 K6.lt
      have X7 := X6.below A7 X6.lt
      have o7 := (o5.below b6 s45).below A7 (Nat.le_trans s45 b6.size)
      have i7 := (i5.below b6 (Nat.le_trans s34 s45)).below A7 (Nat.le_trans (Nat.le_trans s34 s45) b6.size)
      have s57 := Nat.le_trans b6.size A7.size
      have s47 := Nat.le_trans s45 s57
      have s37 := Nat.le_trans s34 s47
      clear HP hmu b6 A7 B5 B6 K5 K6 X5 X6 o5 i5 HT5 HU2 s45 s57
      go_wp2_with (with_reducible show wpList _ _ _ (Oper.mk _ (Op.buildSlice _ _ _) _ _ _ _ :: _) _ _; refine stop_here ?_)
      refine ⟨?_⟩
      generalize w6.alloc (.cells (meC 0 false 0 a6 0 c6) 24) = w7 at *
      refine wpList_slB (zs := []) (vs := []) (by rfl) w7.heap.size (by rfl) (by rfl) run_sl0 rfl (by decide) (Nat.le_refl _) ?_
      intro b8 w8 hb8 o8 e8
      have B8 := B7.trans (e8.mono B7.size)
      have K8 := K7.below e8 K7.lt
      have X8 := X7.below e8 X7.lt
      have p8 := o7.below e8 s47
      have i8 := i7.below e8 s37
      have s38 := Nat.le_trans s37 e8.size
      have s48 := Nat.le_trans s47 e8.size
      have HL8 : Hid (w7.heap.size ≤ w8.heap.size) := e8.size
      have lk7 := K7.lt
      have lx7 := X7.lt
      clear K7 X7 o7 i7
      go_wp2_with (at_builtin; refine wpList_appG (N := n3) (by rfl) (by rfl) (by rfl) (by rfl) o8 i8 (by intro h; cases h) (by omega) e8.size (by omega) ?_; intro a9 c9 w9 o9 g9; refine stop_here ?_)
      refine ⟨?_⟩
      have e9 := (e8.mono (Nat.le_refl _)).trans (g9.on o8 e8.size)
      have d9 : Below w7.heap.size w8 w9 := g9.on o8 e8.size
      have B9 := B7.trans (e9.mono B7.size)
      have K9 := K8.below d9 lk7
      have X9 := X8.below d9 lx7
      rw [List.nil_append] at o9
      have s79 := e9.size
      have p9 := p8.below d9 s47
      have i9 := i8.below d9 s37
      clear e8 d9 g9 o8 K8 X8 p8 i8 HL8
      go_wp2_with (with_reducible show wpList _ _ _ (Oper.mk _ (Op.buildSlice _ _ _) _ _ _ _ :: _) _ _; refine stop_here ?_)
      refine ⟨?_⟩
      refine wpList_slB (zs := [x]) (vs := [(0, .int .u8 (x.toNat : Int))]) (by rfl) w7.heap.size (by rfl) (by rfl) (run_sl1 x) rfl (by decide) s79 ?_
      intro b10 w10 hb10 o10 e10
      have q10 := o9.below e10 (Nat.le_refl _)
      have B10 := B9.trans (e10.mono B9.size)
      have K10 := K9.below e10 K9.lt
      have X10 := X9.below e10 X9.lt
      have p10 := p9.below e10 (by omega)
      have s710 := Nat.le_trans s79 e10.size
      clear e10 o9 p9 i9 K9 X9
      go_wp2_with (at_builtin; refine wpList_appG (N := n3 + 1) (by rfl) (by rfl) (by rfl) (by rfl) q10 o10.isB.1 (by intro h; cases h) (by omega) s710 rfl ?_; intro a11 c11 w11 o11 g11; refine stop_here ?_)
      refine ⟨?_⟩
      have d11 : Below w7.heap.size w10 w11 := g11.on q10 s710
      have K11 := K10.below d11 lk7
      have X11 := X10.below d11 lx7
      have p11 := p10.below d11 s47
      have B11 := B10.trans (d11.mono B7.size)
      have s711 := Nat.le_trans s710 d11.size
      clear g11 q10 o10 K10 X10 p10 d11
      have HP := munpack_calls a11 (n3 + 1) c11 (zs ++ [x]) w11 o11.isB.1 (Nat.le_refl _) o11.isB.2.2 (by omega) (ht.on B11)
      obtain ⟨E3, hE3, hor⟩ : ∃ E3, unM (zs ++ [x]) = .error E3 ∧ (E3 = 3 ∨ E3 = 6) := by
        rcases HU3.out with h | h
        · exact ⟨3, h, .inl rfl⟩
        · exact ⟨6, h, .inr rfl⟩
      have HE3 : Hid (unM (zs ++ [x]) = .error E3) := hE3
      have HOR : Hid (E3 = 3 ∨ E3 = 6) := hor
      clear hE3 hor o11
      go_wp2_with fail
      refine HP.mono ?_
      rintro e w12 hmu
      obtain ⟨a12, c12, rfl, b12⟩ := mu_bad HE3.out hmu
      have B12 := B11.trans (b12.mono B11.size)
      have K12 := K11.below b12 K11.lt
      have X12 := X11.below b12 X11.lt
      have A13 := me_below (w := w12) (r := 0) (b := false) (k := 0) (a := a12) (n := 0) (c := c12)
      have B13 := B12.trans (A13.mono B12.size)
      have K13 := K12.below A13 K12.lt
      have X13 := X12.below A13 X12.lt
      have s413 := Nat.le_trans (Nat.le_trans s47 s711) (Nat.le_trans b12.size A13.size)
      have p13 := (p11.below b12 (Nat.le_trans s47 s711)).below A13 (Nat.le_trans (Nat.le_trans s47 s711) b12.size)
      clear HP hmu b12 A13 B11 B12 K11 K12 X11 X12 p11 HE3 HU3
      go_upto_region 8 with fail
      generalize w12.alloc (.cells (meC 0 false 0 a12 0 c12) 24) = w13 at *
      have HS := refmsame_self r b k a4 a n4 c4 n c L w13 p13 (hv.below B13 (Nat.le_refl _)) s413 B13.size (by omega) (by omega) (fun x hx => Nat.le_trans (H300.out x hx) (by decide))
      go_cut [86] (fun s wx => s = .bool false ∧ Below W.heap.size W wx)
      case first =>
        rcases HOR.out with rfl | rfl <;>
        · go_wp2_with (with_reducible show wpList _ _ _ (Oper.mk _ (Op.load 24 _) _ _ _ _ :: _) _ _; refine wpList_ld rfl rfl rfl (run_ldM (by with_reducible assumption)) ?_; (try simp only [Act.put, List.setIfInBounds_toArray, List.set_cons_zero, List.set_cons_succ, World.size_alloc]))
          refine HS.mono ?_
          rintro e wb ⟨rfl, bb⟩
          go_wp2
          go_meet
          exact ⟨rfl, B13.trans (bb.mono B13.size)⟩
      case rest =>
      obtain ⟨rfl, B14⟩ := hcut
      obtain ⟨w14, hw14⟩ : ∃ z, z = wc := ⟨_, rfl⟩
      subst hw14
      clear HS K13 X13 p13 B13 tm wn
      go_wp2_with (with_reducible show wpList _ _ _ (Oper.mk _ (Op.load 24 _) _ _ _ _ :: _) _ _; refine wpList_ld rfl rfl rfl (run_ldM (by with_reducible assumption)) ?_; (try simp only [Act.put, List.setIfInBounds_toArray, List.set_cons_zero, List.set_cons_succ, World.size_alloc]))
      refine (HB1.out w14 B14).mono ?_
      rintro e w15 hmu
      obtain ⟨a15, c15, rfl, b15⟩ := mu_bad hU hmu
      have B15 := B14.trans (b15.mono B14.size)
      have A16 := me_below (w := w15) (r := 0) (b := false) (k := 0) (a := a15) (n := 0) (c := c15)
      have X16 := me_box (w := w15) (r := 0) (b := false) (k := 0) (a := a15) (n := 0) (c := c15)
      have B16 := B15.trans (A16.mono B15.size)
      clear hmu b15
      go_wp2
      go_ret
      exact ⟨rfl, B16⟩
    · have hEE : (mpE m == 0) = false := by simpa using hE
      generalize mpE m = E at *
      clear hE o3 hz3 hc3 K3
      go_wp2_with (with_reducible show wpList _ _ _ (Oper.mk _ (Op.load 24 _) _ _ _ _ :: _) _ _; refine wpList_ld rfl rfl rfl (run_ldM (by with_reducible assumption)) ?_; (try simp only [Act.put, List.setIfInBounds_toArray, List.set_cons_zero, List.set_cons_succ, World.size_alloc]))
      refine (HB1.out w3 B3).mono ?_
      rintro e w4 hmu
      obtain ⟨a4, c4, rfl, b4⟩ := mu_bad hU hmu
      have B4 := B3.trans (b4.mono B3.size)
      have A5 := me_below (w := w4) (r := 0) (b := false) (k := 0) (a := a4) (n := 0) (c := c4)
      have X5 := me_box (w := w4) (r := 0) (b := false) (k := 0) (a := a4) (n := 0) (c := c4)
      have B5 := B4.trans (A5.mono B4.size)
      clear hmu b4
      go_wp2
      go_ret
      exact ⟨rfl, B5⟩
  | ok M =>
    by_cases hE : mpE m = 0
    · obtain ⟨hr, hl⟩ := mpE_zero hE
      have e3 := mpB_ok hE
      rw [hE]
      rw [e3] at o3
      have hn3 : n3 = (bytesM m).length := o3.1
      have h9 : 9 ≤ n3 := by rw [hn3, bytesM_length]; omega
      have h1000 : n3 ≤ 1000 := by omega
      have HU1 : Hid (unM (bytesM m) = .ok (mk r b k L)) := by rw [HM.out]; exact unM_bytes hr hl
      obtain ⟨q, hq⟩ : ∃ q, cut % n3 = q := ⟨_, rfl⟩
      have hqn : q < n3 := by rw [← hq]; exact Nat.mod_lt _ (by omega)
      have HU2 : Hid (unM ((bytesM m).take q) = .error 2) := unM_cut hr hl (by omega)
      have HU3 : Hid (unM (bytesM m ++ [x]) = .error 3 ∨ unM (bytesM m ++ [x]) = .error 6) := unM_more hr hl x
      obtain ⟨zs, hzs⟩ : ∃ zs, bytesM m = zs := ⟨_, rfl⟩
      rw [hzs] at o3 hn3 HU1 HU2 HU3
      have HT : Hid (IsB w3.heap.size w3 a3 q (zs.take q)) := o3.take q (by omega)
      have tm : (cut : Int).tmod (n3 : Int) = (q : Int) := by rw [← hq]; rfl
      have HLn : Hid (n3 = zs.length) := hn3
      have hqc : (q : Int) ≤ (c3 : Int) := by omega
      have hn0 : ((n3 : Int) == 0) = false := by simp; omega
      have wn : IntKind.i64.wrap (cut : Int) = (cut : Int) := by rw [IntKind.wrap_i64]; omega
      obtain ⟨g3, o3', rfl, _, _⟩ := o3.cell (k := 0) (x := zs[0]'(by have := HLn.out; omega)) (List.getElem?_eq_getElem (by have := HLn.out; omega))
      clear hE hr hl e3 hq hzs hn3
      have HP := munpack_calls (some ⟨g3, o3', none⟩) n3 c3 zs w3 o3 (Nat.le_refl _) hc3 (by omega) (ht.on B3)
      go_wp2_with fail
      refine HP.mono ?_
      rintro e w4 hmu
      obtain ⟨a4, n4, c4, rfl, o4, h4, b4⟩ : ∃ (a' : Option Addr) (n' c' : Nat), e = .returned (.tuple #[meV r b k a' n' c', .int .i64 0]) ∧ IsI w4.heap.size w4 a' n' L ∧ n' ≤ 16 ∧ Below w3.heap.size w3 w4 := mu_good HU1.out hmu
      have B4 := B3.trans (b4.mono B3.size)
      have K4 := K3.below b4 K3.lt
      have A5 := me_below (w := w4) (r := r) (b := b) (k := k) (a := a4) (n := n4) (c := c4)
      have X5 := me_box (w := w4) (r := r) (b := b) (k := k) (a := a4) (n := n4) (c := c4)
      have B5 := B4.trans (A5.mono B4.size)
      have K5 := K4.below A5 K4.lt
      have o5 := o4.below A5 (Nat.le_refl _)
      have i5 := (o3.below b4 (Nat.le_refl _)).below A5 b4.size
      have HT5 : Hid (IsB w3.heap.size (w4.alloc (.cells (meC r b k a4 n4 c4) 24)) (some ⟨g3, o3', none⟩) q (zs.take q)) := (HT.out.below b4 (Nat.le_refl _)).below A5 b4.size
      have s34 := b4.size
      have s45 := A5.size
      clear HP hmu b4 A5 B4 K3 K4 o4 HT HU1
      have HP := munpack_calls (some ⟨g3, o3', none⟩) q c3 (zs.take q) _ HT5.out (Nat.le_trans s34 s45) (by omega) (by omega) (ht.on B5)
      go_wp2_with fail
      generalize w4.alloc (.cells (meC r b k a4 n4 c4) 24) = w5 at *
      refine HP.mono ?_
      rintro e w6 hmu
      obtain ⟨a6, c6, rfl, b6⟩ := mu_bad HU2.out hmu
      have B6 := B5.trans (b6.mono B5.size)
      have K6 := K5.below b6 K5.lt
      have X6 := X5.below b6 X5.lt
      have A7 := me_below (w := w6) (r := 0) (b := false) (k := 0) (a := a6) (n := 0) (c := c6)
      have B7 := B6.trans (A7.mono B6.size)
      have K7 := K6.below A7 K6.lt
      have X7 := X6.below A7 X6.lt
      have o7 := (o5.below b6 s45).below A7 (Nat.le_trans s45 b6.size)
      have i7 := (i5.below b6 (Nat.le_trans s34 s45)).below A7 (Nat.le_trans (Nat.le_trans s34 s45) b6.size)
      have s57 := Nat.le_trans b6.size A7.size
      have s47 := Nat.le_trans s45 s57
      have s37 := Nat.le_trans s34 s47
      clear HP hmu b6 A7 B5 B6 K5 K6 X5 X6 o5 i5 HT5 HU2 s45 s57
      go_wp2_with (with_reducible show wpList _ _ _ (Oper.mk _ (Op.buildSlice _ _ _) _ _ _ _ :: _) _ _; refine stop_here ?_)
      refine ⟨?_⟩
      generalize w6.alloc (.cells (meC 0 false 0 a6 0 c6) 24) = w7 at *
      refine wpList_slB (zs := []) (vs := []) (by rfl) w7.heap.size (by rfl) (by rfl) run_sl0 rfl (by decide) (Nat.le_refl _) ?_
      intro b8 w8 hb8 o8 e8
      have B8 := B7.trans (e8.mono B7.size)
      have K8 := K7.below e8 K7.lt
      have X8 := X7.below e8 X7.lt
      have p8 := o7.below e8 s47
      have i8 := i7.below e8 s37
      have s38 := Nat.le_trans s37 e8.size
      have s48 := Nat.le_trans s47 e8.size
      have HL8 : Hid (w7.heap.size ≤ w8.heap.size) := e8.size
      have lk7 := K7.lt
      have lx7 := X7.lt
      clear K7 X7 o7 i7
      go_wp2_with (at_builtin; refine wpList_appG (N := n3) (by rfl) (by rfl) (by rfl) (by rfl) o8 i8 (by intro h; cases h) (by omega) e8.size (by omega) ?_; intro a9 c9 w9 o9 g9; refine stop_here ?_)
      refine ⟨?_⟩
      have e9 := (e8.mono (Nat.le_refl _)).trans (g9.on o8 e8.size)
      have d9 : Below w7.heap.size w8 w9 := g9.on o8 e8.size
      have B9 := B7.trans (e9.mono B7.size)
      have K9 := K8.below d9 lk7
      have X9 := X8.below d9 lx7
      rw [List.nil_append] at o9
      have s79 := e9.size
      have p9 := p8.below d9 s47
      have i9 := i8.below d9 s37
      clear e8 d9 g9 o8 K8 X8 p8 i8 HL8
      go_wp2_with (with_reducible show wpList _ _ _ (Oper.mk _ (Op.buildSlice _ _ _) _ _ _ _ :: _) _ _; refine stop_here ?_)
      refine ⟨?_⟩
      refine wpList_slB (zs := [x]) (vs := [(0, .int .u8 (x.toNat : Int))]) (by rfl) w7.heap.size (by rfl) (by rfl) (run_sl1 x) rfl (by decide) s79 ?_
      intro b10 w10 hb10 o10 e10
      have q10 := o9.below e10 (Nat.le_refl _)
      have B10 := B9.trans (e10.mono B9.size)
      have K10 := K9.below e10 K9.lt
      have X10 := X9.below e10 X9.lt
      have p10 := p9.below e10 (by omega)
      have s710 := Nat.le_trans s79 e10.size
      clear e10 o9 p9 i9 K9 X9
      go_wp2_with (at_builtin; refine wpList_appG (N := n3 + 1) (by rfl) (by rfl) (by rfl) (by rfl) q10 o10.isB.1 (by intro h; cases h) (by omega) s710 rfl ?_; intro a11 c11 w11 o11 g11; refine stop_here ?_)
      refine ⟨?_⟩
      have d11 : Below w7.heap.size w10 w11 := g11.on q10 s710
      have K11 := K10.below d11 lk7
      have X11 := X10.below d11 lx7
      have p11 := p10.below d11 s47
      have B11 := B10.trans (d11.mono B7.size)
      have s711 := Nat.le_trans s710 d11.size
      clear g11 q10 o10 K10 X10 p10 d11
      have HP := munpack_calls a11 (n3 + 1) c11 (zs ++ [x]) w11 o11.isB.1 (Nat.le_refl _) o11.isB.2.2 (by omega) (ht.on B11)
      obtain ⟨E3, hE3, hor⟩ : ∃ E3, unM (zs ++ [x]) = .error E3 ∧ (E3 = 3 ∨ E3 = 6) := by
        rcases HU3.out with h | h
        · exact ⟨3, h, .inl rfl⟩
        · exact ⟨6, h, .inr rfl⟩
      have HE3 : Hid (unM (zs ++ [x]) = .error E3) := hE3
      have HOR : Hid (E3 = 3 ∨ E3 = 6) := hor
      clear hE3 hor o11
      go_wp2_with fail
      refine HP.mono ?_
      rintro e w12 hmu
      obtain ⟨a12, c12, rfl, b12⟩ := mu_bad HE3.out hmu
      have B12 := B11.trans (b12.mono B11.size)
      have K12 := K11.below b12 K11.lt
      have X12 := X11.below b12 X11.lt
      have A13 := me_below (w := w12) (r := 0) (b := false) (k := 0) (a := a12) (n := 0) (c := c12)
      have B13 := B12.trans (A13.mono B12.size)
      have K13 := K12.below A13 K12.lt
      have X13 := X12.below A13 X12.lt
      have s413 := Nat.le_trans (Nat.le_trans s47 s711) (Nat.le_trans b12.size A13.size)
      have p13 := (p11.below b12 (Nat.le_trans s47 s711)).below A13 (Nat.le_trans (Nat.le_trans s47 s711) b12.size)
      clear HP hmu b12 A13 B11 B12 K11 K12 X11 X12 p11 HE3 HU3
      go_upto_region 8 with fail
      generalize w12.alloc (.cells (meC 0 false 0 a12 0 c12) 24) = w13 at *
      have HS := refmsame_self r b k a4 a n4 c4 n c L w13 p13 (hv.below B13 (Nat.le_refl _)) s413 B13.size (by omega) (by omega) (fun x hx => Nat.le_trans (H300.out x hx) (by decide))
      go_cut [86] (fun s wx => s = .bool false ∧ Below W.heap.size W wx)
      case first =>
        rcases HOR.out with rfl | rfl <;>
        · go_wp2_with (with_reducible show wpList _ _ _ (Oper.mk _ (Op.load 24 _) _ _ _ _ :: _) _ _; refine wpList_ld rfl rfl rfl (run_ldM (by with_reducible assumption)) ?_; (try simp only [Act.put, List.setIfInBounds_toArray, List.set_cons_zero, List.set_cons_succ, World.size_alloc]))
          refine HS.mono ?_
          rintro e wb ⟨rfl, bb⟩
          go_wp2
          go_meet
          exact ⟨rfl, B13.trans (bb.mono B13.size)⟩
      case rest =>
      obtain ⟨rfl, B14⟩ := hcut
      obtain ⟨w14, hw14⟩ : ∃ z, z = wc := ⟨_, rfl⟩
      subst hw14
      clear HS K13 X13 p13 B13 tm wn
      go_wp2_with (with_reducible show wpList _ _ _ (Oper.mk _ (Op.load 24 _) _ _ _ _ :: _) _ _; refine wpList_ld rfl rfl rfl (run_ldM (by with_reducible assumption)) ?_; (try simp only [Act.put, List.setIfInBounds_toArray, List.set_cons_zero, List.set_cons_succ, World.size_alloc]))
      refine (HB1.out w14 B14).mono ?_
      rintro e w15 hmu
      obtain ⟨a15, n15, c15, rfl, o15, hn15, b15⟩ := mu_good hU hmu
      obtain ⟨eb, er, el⟩ := bytes_unM hU
      have B15 := B14.trans (b15.mono B14.size)
      have A16 := me_below (w := w15) (r := M.ref) (b := M.back) (k := M.kind) (a := a15) (n := n15) (c := c15)
      have X16 := me_box (w := w15) (r := M.ref) (b := M.back) (k := M.kind) (a := a15) (n := n15) (c := c15)
      have B16 := B15.trans (A16.mono B15.size)
      have o16 := o15.below A16 (Nat.le_refl _)
      have HP := mpack_all M.ref M.back M.kind a15 n15 c15 M.ies (w15.alloc (.cells (meC M.ref M.back M.kind a15 n15 c15) 24)) o16 A16.size (by omega) (ht.on B16)
      have hz := mpE_ok er (by rw [eb]; exact el)
      unfold MpAll at HP
      rw [show mk M.ref M.back M.kind M.ies = M from rfl, hz, mpB_ok hz, eb] at HP
      have HRt : Hid (∀ w, Below (w15.alloc (.cells (meC M.ref M.back M.kind a15 n15 c15) 24)).heap.size (w15.alloc (.cells (meC M.ref M.back M.kind a15 n15 c15) 24)) w → Calls Tryd.prog 17 #[meV M.ref M.back M.kind a15 n15 c15] w fun e w' => e = .returned (.bool true) ∧ Below w.heap.size w w') := fun w hb => by
        have := mright_calls M.ref M.back M.kind a15 n15 c15 M.ies w (o16.below hb A16.size) (Nat.le_trans A16.size hb.size) (by omega) (ht.on (B16.trans (hb.mono B16.size)))
        rwa [show mk M.ref M.back M.kind M.ies = M from rfl, er] at this
      clear hmu b15 eb er hz o15 o16
      go_wp2_with (with_reducible show wpList _ _ _ (Oper.mk _ (Op.load 24 _) _ _ _ _ :: _) _ _; refine wpList_ld rfl rfl rfl (run_ldM (by with_reducible assumption)) ?_; (try simp only [Act.put, List.setIfInBounds_toArray, List.set_cons_zero, List.set_cons_succ, World.size_alloc]))
      generalize w15.alloc (.cells (meC M.ref M.back M.kind a15 n15 c15) 24) = w16 at *
      refine HP.mono ?_
      rintro e w17 ⟨a17, n17, c17, rfl, o17, _, _, b17⟩
      have B17 := B16.trans (b17.mono B16.size)
      have X17 := X16.below b17 X16.lt
      have hl17 : n17 ≤ 1000 := by have := o17.1; omega
      have HS := same_calls a17 a1 n17 c17 l1 k1 bs bs w17 o17 (I1.below B17 (Nat.le_refl _)) (Nat.le_refl _) B17.size (by omega)
      rw [beq_self_eq_true] at HS
      clear HP X16
      go_wp2_with fail
      refine HS.mono ?_
      rintro e w18 ⟨rfl, b18⟩
      have X18 := X17.below b18 X17.lt
      have B18 := B17.trans (b18.mono B17.size)
      have c18 := b17.trans (b18.mono b17.size)
      clear HS X17
      go_wp2_with (with_reducible show wpList _ _ _ (Oper.mk _ (Op.load 24 _) _ _ _ _ :: _) _ _; refine wpList_ld rfl rfl rfl (run_ldM (by with_reducible assumption)) ?_; (try simp only [Act.put, List.setIfInBounds_toArray, List.set_cons_zero, List.set_cons_succ, World.size_alloc]))
      refine (HRt.out w18 c18).mono ?_
      rintro e w19 ⟨rfl, b19⟩
      go_wp2
      go_ret
      exact ⟨rfl, B18.trans (b19.mono B18.size)⟩
    · have hEE : (mpE m == 0) = false := by simpa using hE
      generalize mpE m = E at *
      clear hE o3 hz3 hc3 K3
      go_wp2_with (with_reducible show wpList _ _ _ (Oper.mk _ (Op.load 24 _) _ _ _ _ :: _) _ _; refine wpList_ld rfl rfl rfl (run_ldM (by with_reducible assumption)) ?_; (try simp only [Act.put, List.setIfInBounds_toArray, List.set_cons_zero, List.set_cons_succ, World.size_alloc]))
      refine (HB1.out w3 B3).mono ?_
      rintro e w4 hmu
      obtain ⟨a4, n4, c4, rfl, o4, hn4, b4⟩ := mu_good hU hmu
      obtain ⟨eb, er, el⟩ := bytes_unM hU
      have B4 := B3.trans (b4.mono B3.size)
      have A5 := me_below (w := w4) (r := M.ref) (b := M.back) (k := M.kind) (a := a4) (n := n4) (c := c4)
      have X5 := me_box (w := w4) (r := M.ref) (b := M.back) (k := M.kind) (a := a4) (n := n4) (c := c4)
      have B5 := B4.trans (A5.mono B4.size)
      have o5 := o4.below A5 (Nat.le_refl _)
      have HP := mpack_all M.ref M.back M.kind a4 n4 c4 M.ies (w4.alloc (.cells (meC M.ref M.back M.kind a4 n4 c4) 24)) o5 A5.size (by omega) (ht.on B5)
      have hz := mpE_ok er (by rw [eb]; exact el)
      unfold MpAll at HP
      rw [show mk M.ref M.back M.kind M.ies = M from rfl, hz, mpB_ok hz, eb] at HP
      have HRt : Hid (∀ w, Below (w4.alloc (.cells (meC M.ref M.back M.kind a4 n4 c4) 24)).heap.size (w4.alloc (.cells (meC M.ref M.back M.kind a4 n4 c4) 24)) w → Calls Tryd.prog 17 #[meV M.ref M.back M.kind a4 n4 c4] w fun e w' => e = .returned (.bool true) ∧ Below w.heap.size w w') := fun w hb => by
        have := mright_calls M.ref M.back M.kind a4 n4 c4 M.ies w (o5.below hb A5.size) (Nat.le_trans A5.size hb.size) (by omega) (ht.on (B5.trans (hb.mono B5.size)))
        rwa [show mk M.ref M.back M.kind M.ies = M from rfl, er] at this
      clear hmu b4 eb er hz o4 o5
      go_wp2_with (with_reducible show wpList _ _ _ (Oper.mk _ (Op.load 24 _) _ _ _ _ :: _) _ _; refine wpList_ld rfl rfl rfl (run_ldM (by with_reducible assumption)) ?_; (try simp only [Act.put, List.setIfInBounds_toArray, List.set_cons_zero, List.set_cons_succ, World.size_alloc]))
      generalize w4.alloc (.cells (meC M.ref M.back M.kind a4 n4 c4) 24) = w5 at *
      refine HP.mono ?_
      rintro e w6 ⟨a6, n6, c6, rfl, o6, _, _, b6⟩
      have B6 := B5.trans (b6.mono B5.size)
      have X6 := X5.below b6 X5.lt
      have hl6 : n6 ≤ 1000 := by have := o6.1; omega
      have HS := same_calls a6 a1 n6 c6 l1 k1 bs bs w6 o6 (I1.below B6 (Nat.le_refl _)) (Nat.le_refl _) B6.size (by omega)
      rw [beq_self_eq_true] at HS
      clear HP X5
      go_wp2_with fail
      refine HS.mono ?_
      rintro e w7 ⟨rfl, b7⟩
      have X7 := X6.below b7 X6.lt
      have B7 := B6.trans (b7.mono B6.size)
      have c7 := b6.trans (b7.mono b6.size)
      clear HS X6
      go_wp2_with (with_reducible show wpList _ _ _ (Oper.mk _ (Op.load 24 _) _ _ _ _ :: _) _ _; refine wpList_ld rfl rfl rfl (run_ldM (by with_reducible assumption)) ?_; (try simp only [Act.put, List.setIfInBounds_toArray, List.set_cons_zero, List.set_cons_succ, World.size_alloc]))
      refine (HRt.out w7 c7).mono ?_
      rintro e w8 ⟨rfl, b8⟩
      go_wp2
      go_ret
      exact ⟨rfl, B7.trans (b8.mono B7.size)⟩
end Go.Proofs.YtbjeljmnknibnaaDoor
