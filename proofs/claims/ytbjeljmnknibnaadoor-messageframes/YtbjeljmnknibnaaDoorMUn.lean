/- Proved here: what message.Unpack answers. Conditions: as each theorem states them. -/
import Derived.Test.YtbjeljmnknibnaaDoorWr
namespace Go.Proofs.YtbjeljmnknibnaaDoor
set_option linter.unusedSimpArgs false
set_option linter.unusedVariables false
set_option maxRecDepth 20000
open Go.RowKit Go.Shelf

/-- The message that is unpacked; the error. -/
def unMe (zs : List UInt8) : Me := match unM zs with | .ok m => m | .error _ => ⟨0, false, 0, []⟩
def unMx (zs : List UInt8) : Int := match unM zs with | .ok _ => 0 | .error e => e
theorem unMe_ok {zs : List UInt8} {m : Me} (h : unM zs = .ok m) : unMe zs = m ∧ unMx zs = 0 := by unfold unMe unMx; rw [h]; exact ⟨rfl, rfl⟩
theorem unMe_err {zs : List UInt8} {e : Int} (h : unM zs = .error e) : unMe zs = ⟨0, false, 0, []⟩ ∧ unMx zs = e := by unfold unMe unMx; rw [h]; exact ⟨rfl, rfl⟩
abbrev meVV (m : Me) (a : Option Addr) (n c : Nat) : Value := meV m.ref m.back m.kind a n c
/-- What Unpack answers. -/
def MuAll (zs : List UInt8) (w : World) (e : Ending) (w' : World) : Prop :=
  ∃ (a : Option Addr) (n c : Nat), e = .returned (.tuple #[meVV (unMe zs) a n c, .int .i64 (unMx zs)]) ∧ IsI w'.heap.size w' a n (unMe zs).ies ∧ n ≤ 16 ∧ Below w.heap.size w w'
theorem mu_err {zs : List UInt8} {E : Int} (h : unM zs = .error E) {w w' : World} (b : Below w.heap.size w w') : MuAll zs w (.returned (.tuple #[meV 0 false 0 none 0 0, .int .i64 E])) w' := by
  obtain ⟨h1, h2⟩ := unMe_err h
  exact ⟨none, 0, 0, by rw [h1, h2], by rw [h1]; exact isI_nil _ _ _, by decide, b⟩
theorem mu_ok {zs : List UInt8} {m : Me} (h : unM zs = .ok m) {w w' : World} {a : Option Addr} {n c : Nat} (hI : IsI w'.heap.size w' a n m.ies) (b : Below w.heap.size w w') : MuAll zs w (.returned (.tuple #[meVV m a n c, .int .i64 0])) w' := by
  obtain ⟨h1, h2⟩ := unMe_ok h
  have h16 := (okL_iff.1 (rightM_iff.1 (bytes_unM h).2.1).1).1
  exact ⟨a, n, c, by rw [h1, h2], by rw [h1]; exact hI, by rw [hI.1]; exact h16, b⟩
theorem me_new (w : World) : BK (w.alloc (.cells (meC 0 false 0 none 0 0) 24)) w.heap.size (meC 0 false 0 none 0 0) 24 := bk_new w _ _

set_option maxHeartbeats 400000 in
theorem munpack_calls (ad : Option Addr) (len cap : Nat) (zs : List UInt8) (w : World) {n : Nat} (H : IsB n w ad len zs) (hn : n ≤ w.heap.size) (hlc : len ≤ cap) (hm : len ≤ 10000) (ht : Tab w) :
    Calls Tryd.prog 13 #[.slice ad len cap] w (MuAll zs w) := by
  have A0 := me_below (w := w) (r := 0) (b := false) (k := 0) (a := none) (n := 0) (c := 0)
  have K0 := me_new w
  have HW := mwrong_calls ad len cap zs (w.alloc (.cells (meC 0 false 0 none 0 0) 24)) (H.below A0 hn) (Nat.le_trans hn A0.size) hlc hm (ht.on A0)
  by_cases hw : wrongM zs = 0
  · rw [hw] at HW
    obtain ⟨a, b, c, d, e, f, g, hh, i, t, rfl, ht1, HU⟩ := unM_fine hw
    have HU : Hid (unM (a :: b :: c :: d :: e :: f :: g :: hh :: i :: t) = _) := HU
    have hl : Hid (len = t.length + 9) := H.1
    have hl9 : 9 ≤ len := by have := hl.out; omega
    have hc9 : 9 ≤ cap := by omega
    have hb5 : 5 < len := by omega
    have HN3 := num3_lt c d e
    have hf8 : f.toNat < 256 := f.toNat_lt
    obtain ⟨bl, off, rfl, hbl, _, _, I9⟩ := H.mid3
    have hlt : Hid (len - 9 = t.length) := by show _ = _; have := hl.out; omega
    obtain ⟨a9, ha9⟩ : ∃ a9, (if cap = 9 then some (⟨bl, off, none⟩ : Addr) else some ⟨bl, off + 9, none⟩) = a9 := ⟨_, rfl⟩
    have I9 : IsB n w a9 (len - 9) t := by
      rw [← ha9]
      split
      · rename_i hc
        have h0 : t.length = 0 := by have := hl.out; omega
        have h1 : t = [] := List.eq_nil_of_length_eq_zero h0
        exact ⟨hlt.out, .inl h1⟩
      · rw [hlt.out]; exact I9
    have HUn := fun w1 (hb : Below w.heap.size w w1) => unpack_calls a9 (len - 9) (cap - 9) t w1 (I9.below hb hn) (Nat.le_trans hn hb.size) (by omega) (by omega)
    have HRf := fun w1 (hb : Below w.heap.size w w1) => refof_calls (some ⟨bl, off, none⟩) len cap w1 (H.below hb hn) (Nat.le_trans hn hb.size) hl9 hlc
    obtain ⟨_, _, e1, _, C0⟩ := H.cell (k := 0) (x := a) rfl
    cases e1
    have C5 := fun w1 (hb : Below w.heap.size w w1) => (hb.cell (p := ⟨bl, off + 5, none⟩) (by show bl < _; omega)).trans (C0 5 f rfl)
    have hnb := not_back HN3
    have hib := is_back HN3
    obtain ⟨N3, hN3⟩ : ∃ N3, numN [c, d, e] = N3 := ⟨_, rfl⟩
    rw [hN3] at hnb hib HRf HU HN3
    have HNB : Hid (((N3 % 8388608 : Nat) : Int) = ((N3 % 8388608 : Nat) : Int)) := rfl
    clear hw H C0 I9 hl ht ht1 hN3
    go_enter Tryd.func13, Tryd.ntmps13
    go_wp2_with fail
    refine HW.mono ?_
    rintro e' w1 ⟨rfl, b1⟩
    have B1 := A0.trans (b1.mono A0.size)
    have K1 := K0.below b1 K0.lt
    clear HW A0 K0 b1
    go_wp2_with fail
    refine (HUn w1 B1).mono ?_
    rintro e' w2 ⟨b2, ⟨L, a2, c2, hL, rfl, o2⟩ | ⟨E, hE, rfl⟩⟩
    · have B2 := B1.trans (b2.mono B1.size)
      have K2 := K1.below b2 K1.lt
      have HU : Hid (unM (a :: b :: c :: d :: e :: f :: g :: hh :: i :: t) = .ok ⟨(N3 % 8388608 : Nat), decide (8388608 ≤ N3), f.toNat, L⟩) := by show _ = _; rw [HU.out, hL]
      clear hL HUn
      have kb := K1.lt
      go_wp2_with fail
      refine (HRf w2 B2).mono ?_
      rintro e' w3 ⟨rfl, b3⟩
      have B3 := B2.trans (b3.mono B2.size)
      have K3 := K2.below b3 K2.lt
      have o3 := o2.below b3 (Nat.le_refl _)
      have c5 := C5 w3 B3
      have B1s := B1.size
      clear HRf C5 b2 b3 K2 K1 o2
      obtain ⟨L9, hL9⟩ : ∃ L9, L.length = L9 := ⟨_, rfl⟩
      rw [hL9] at o3
      rw [hL9]
      obtain ⟨r6, hr6⟩ : ∃ r6, ((N3 % 8388608 : Nat) : Int) = r6 := ⟨_, rfl⟩
      rw [hr6] at hnb HU
      go_wp2_with (with_reducible show wpList _ _ _ (Oper.mk _ (Op.store 24 _ _) _ _ _ _ :: _) _ _; refine stop_here ?_)
      refine ⟨?_⟩
      refine wpList_st rfl rfl rfl rfl K3 size_M rfl (by simp [Value.oneCell']) ?_
      intro w7 K7 b7 but7 z7
      have o7 := o3.keep (Nat.le_refl _) (by omega) (fun k hk hk2 => but7.block k (by rw [← z7] at hk2; omega) (by omega))
      go_wp2
      refine bodyPost_ret (v := .tuple #[meV r6 (decide (8388608 ≤ N3)) (f.toNat : Int) a2 L9 c2, .int .i64 0]) (results_cell_tmp_row Tryd.results13 _ _ _ _ _ _ _ _ rfl rfl K7 Tryd.underlying24 rfl size_M) rfl (mu_ok HU.out o7.isI.1 (B3.trans (b7 _ (Nat.le_refl _))))
    · have B2 := B1.trans (b2.mono B1.size)
      have K2 := K1.below b2 K1.lt
      have HU : Hid (unM (a :: b :: c :: d :: e :: f :: g :: hh :: i :: t) = .error E) := by show _ = _; rw [HU.out, hE]
      have hne : (E != 0) = true := by
        rcases unE_err_of hE with rfl | rfl | rfl <;> rfl
      clear hE HUn HRf
      go_wp2_with (with_reducible show wpList _ _ _ (Oper.mk _ (Op.store 24 _ _) _ _ _ _ :: _) _ _; refine stop_here ?_)
      refine ⟨?_⟩
      refine wpList_st rfl rfl rfl rfl K2 size_M rfl (by simp [Value.oneCell']) ?_
      intro w7 K7 b7 but7 z7
      go_wp2
      refine bodyPost_ret (v := .tuple #[meV 0 false 0 none 0 0, .int .i64 E]) (results_cell_tmp_row Tryd.results13 _ _ _ _ _ _ _ _ rfl rfl K7 Tryd.underlying24 rfl size_M) rfl (mu_err HU.out (B2.trans (b7 _ (Nat.le_refl _))))
  · have HU : Hid (unM zs = .error (wrongM zs)) := unM_wrong hw
    obtain ⟨E, hE⟩ : ∃ E, wrongM zs = E := ⟨_, rfl⟩
    rw [hE] at HW HU hw
    have hne : (E != 0) = true := by simpa using hw
    clear hw hE
    go_enter Tryd.func13, Tryd.ntmps13
    go_wp2_with fail
    refine HW.mono ?_
    rintro e' w1 ⟨rfl, b1⟩
    have B1 := A0.trans (b1.mono A0.size)
    have K1 := K0.below b1 K0.lt
    clear HW A0 K0 b1
    go_wp2_with (with_reducible show wpList _ _ _ (Oper.mk _ (Op.store 24 _ _) _ _ _ _ :: _) _ _; refine stop_here ?_)
    refine ⟨?_⟩
    refine wpList_st rfl rfl rfl rfl K1 size_M rfl (by simp [Value.oneCell']) ?_
    intro w7 K7 b7 but7 z7
    go_wp2
    refine bodyPost_ret (v := .tuple #[meV 0 false 0 none 0 0, .int .i64 E]) (results_cell_tmp_row Tryd.results13 _ _ _ _ _ _ _ _ rfl rfl K7 Tryd.underlying24 rfl size_M) rfl (mu_err HU.out (B1.trans (b7 _ (Nat.le_refl _))))
end Go.Proofs.YtbjeljmnknibnaaDoor
