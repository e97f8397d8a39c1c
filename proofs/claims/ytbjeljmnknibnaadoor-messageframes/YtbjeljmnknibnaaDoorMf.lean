/- Proved here: the first element of an Id, told by the code and by the document, and the cause that a message tells. Conditions: as each theorem states them. -/
import Derived.Test.YtbjeljmnknibnaaDoorFd
import Derived.Test.YtbjeljmnknibnaaDoorRc
import Derived.Test.YtbjeljmnknibnaaDoorMr
namespace Go.Proofs.YtbjeljmnknibnaaDoor
set_option linter.unusedSimpArgs false
set_option linter.unusedVariables false
set_option maxRecDepth 20000
open Go.RowKit Go.Shelf

/-- The first element of that Id; is there one? -/
def fdX (id : UInt8) (L : List El) : El := (L.find? (idB id)).getD ⟨0, []⟩
def fdB (id : UInt8) (L : List El) : Bool := (L.find? (idB id)).isSome
theorem fd_none {id : UInt8} {L : List El} (h : ∀ x ∈ L, idB id x = false) : fdX id L = ⟨0, []⟩ ∧ fdB id L = false := by
  have : L.find? (idB id) = none := List.find?_eq_none.2 fun x hx => by rw [h x hx]; decide
  unfold fdX fdB
  rw [this]
  exact ⟨rfl, rfl⟩
theorem fd_some {id : UInt8} {L : List El} {k : Nat} {x : El} (hx : L[k]? = some x) (hp : idB id x = true) (hj : ∀ (j : Nat) (y : El), j < k → L[j]? = some y → idB id y = false) : fdX id L = x ∧ fdB id L = true := by
  obtain ⟨hk, hxk⟩ := List.getElem?_eq_some_iff.1 hx
  have : L.find? (idB id) = some x := by
    rw [List.find?_eq_some_iff_getElem]
    exact ⟨hp, k, hk, hxk, fun j hjk => by rw [hj j _ hjk (List.getElem?_eq_getElem (by omega))]; decide⟩
  unfold fdX fdB
  rw [this]
  exact ⟨rfl, rfl⟩
/-- What Find answers, in one form. -/
def FdAll (m0 : Nat) (L : List El) (id : UInt8) (w : World) (e : Ending) (w' : World) : Prop :=
  ∃ (ai : Option Addr) (li ci : Nat), e = .returned (.tuple #[ieV (fdX id L).id ai li ci, .bool (fdB id L)]) ∧ IsB m0 w' ai li (fdX id L).body ∧ (ai = none → ci = 0) ∧ li ≤ ci ∧ Below w.heap.size w w'
theorem fdall_none {m0 : Nat} {L : List El} {id : UInt8} {w w' : World} (h : ∀ x ∈ L, idB id x = false) (b : Below w.heap.size w w') : FdAll m0 L id w (.returned (.tuple #[ieV 0 none 0 0, .bool false])) w' := by
  obtain ⟨e1, e2⟩ := fd_none h
  exact ⟨none, 0, 0, by rw [e1, e2], by rw [e1]; exact ⟨rfl, .inl rfl⟩, fun _ => rfl, Nat.le_refl _, b⟩
theorem fdall_some {m0 : Nat} {L : List El} {id : UInt8} {w w' : World} {k : Nat} {x : El} (hx : L[k]? = some x) (hp : idB id x = true) (hj : ∀ (j : Nat) (y : El), j < k → L[j]? = some y → idB id y = false) {ai : Option Addr} {li ci : Nat}
    (hI : IsB m0 w' ai li x.body) (h0 : ai = none → ci = 0) (h1 : li ≤ ci) (b : Below w.heap.size w w') : FdAll m0 L id w (.returned (.tuple #[ieV x.id ai li ci, .bool true])) w' := by
  obtain ⟨e1, e2⟩ := fd_some hx hp hj
  exact ⟨ai, li, ci, by rw [e1, e2], by rw [e1]; exact hI, h0, h1, b⟩
theorem fd_all (a : Option Addr) (n c : Nat) (L : List El) (id : UInt8) (w : World) {m0 : Nat} (hv : IsI m0 w a n L) (hm0 : m0 ≤ w.heap.size) (hn : n ≤ 1000) :
    Calls Tryd.prog 38 #[.slice a n c, .int .u8 (id.toNat : Int)] w (FdAll m0 L id w) := by
  refine (fd_calls a n c L id w hv hm0 hn).mono ?_
  rintro e w' ⟨b, ⟨h, rfl⟩ | ⟨k, x, ai, li, ci, hx, hp, hj, rfl, hI, h0, h1⟩⟩
  · exact fdall_none h b
  · exact fdall_some hx hp hj hI h0 h1 b
theorem eq_id {x : El} {id : UInt8} : ((x.id.toNat : Int) == (id.toNat : Int)) = idB id x := by
  unfold idB
  rw [Bool.eq_iff_iff]
  simp only [beq_iff_eq, ← UInt8.toNat_inj]
  omega

set_option maxHeartbeats 1000000 in
theorem reffd_all (a : Option Addr) (n c : Nat) (L : List El) (id : UInt8) (w : World) {m0 : Nat} (hv : IsI m0 w a n L) (hm0 : m0 ≤ w.heap.size) (hn : n ≤ 1000) :
    Calls Tryd.prog 41 #[.slice a n c, .int .u8 (id.toNat : Int)] w (FdAll m0 L id w) := by
  have HnL : Hid (n = L.length) := hv.1
  have A1 : Below w.heap.size w (w.alloc (.cells #[.int .u8 0, .slice none 0 0] 60)) := (Below.refl _ w).alloc (Nat.le_refl _) _
  have K1 : BK (w.alloc (.cells #[.int .u8 0, .slice none 0 0] 60)) w.heap.size #[.int .u8 0, .slice none 0 0] 60 := bk_new w _ _
  go_enter Tryd.func41, Tryd.ntmps41
  go_wp2
  go_loopw [9] (fun iv wr => ∃ (k : Nat), k ≤ n ∧ iv = .int .i64 k ∧ BK wr w.heap.size #[.int .u8 0, .slice none 0 0] 60 ∧ Below w.heap.size w wr ∧ Hid (∀ (j : Nat) (y : El), j < k → L[j]? = some y → idB id y = false)) (fun iv _ => n - (intOf iv).toNat)
  case atStart => exact ⟨0, Nat.zero_le _, rfl, K1, A1, fun j y hj => absurd hj (Nat.not_lt_zero _)⟩
  case round =>
    obtain ⟨k, hk, rfl, K2, B2, HJ⟩ := hrel
    clear K1 A1
    have kl := K2.lt
    have p0 := K2.cell 0 _ rfl
    have p1 := K2.cell 1 _ rfl
    have z0 := K2.frozen 0
    have z1 := K2.frozen 1
    by_cases hlt : k < n
    · obtain ⟨b, off, x, ai, li, ci, rfl, hbm, hx, hli, hn0, hlc, F⟩ := hv.atF hlt
      obtain ⟨I, c0, c1⟩ := F wr (B2.mono hm0)
      have HX : Hid (L[k]? = some x) := hx
      have HI5 : Hid (∀ w', Below w.heap.size w w' → IsB m0 w' ai li x.body) := fun w' hb => (F w' (hb.mono hm0)).1
      have qe := eq_id (x := x) (id := id)
      cases hq : idB id x
      · rw [hq] at qe
        have HQ : Hid (idB id x = false) := hq
        clear hx hq F I hli
        go_wp2
        go_roundw
        case rel => exact ⟨k + 1, by omega, by go_num, K2, B2, fun j y hj hy => by
              rcases Nat.lt_or_ge j k with h | h
              · exact HJ.out j y h hy
              · obtain rfl : j = k := (by omega)
                have := HX.out.symm.trans hy
                cases this
                exact HQ.out⟩
        case measure => simp [intOf]; omega
      · rw [hq] at qe
        have HQ : Hid (idB id x = true) := hq
        clear hx hq F I hli
        have K5 := bk_set2 (u := .int .u8 (x.id.toNat : Int)) (v := .slice ai li ci) K2
        have B5 := below_set2 (b := w.heap.size) (u := .int .u8 (x.id.toNat : Int)) (v := .slice ai li ci) B2 (Nat.le_refl _)
        go_wp2_with (with_reducible show bodyPost _ _ _ _ _ _; refine stop_here ?_)
        refine ⟨?_⟩
        refine bodyPost_ret (v := .tuple #[ieV x.id ai li ci, .bool true]) (results_cell_tmp_row Tryd.results41 _ _ _ _ _ _ _ _ rfl rfl K5 Tryd.underlying60 rfl size_ie) rfl (fdall_some HX.out HQ.out HJ.out (HI5.out _ B5) hn0 hlc B5)
    · obtain rfl : k = n := by omega
      have HA : Hid (∀ x ∈ L, idB id x = false) := fun x hx => by
        obtain ⟨j, hj, e⟩ := List.getElem_of_mem hx
        exact HJ.out j x (by have := HnL.out; omega) (by rw [List.getElem?_eq_getElem hj, e])
      have K5 := bk_set2 (u := .int .u8 0) (v := .slice none 0 0) K2
      have B5 := below_set2 (b := w.heap.size) (u := .int .u8 0) (v := .slice none 0 0) B2 (Nat.le_refl _)
      clear hv
      go_wp2_with (with_reducible show bodyPost _ _ _ _ _ _; refine stop_here ?_)
      refine ⟨?_⟩
      refine bodyPost_ret (v := .tuple #[ieV 0 none 0 0, .bool false]) (results_cell_tmp_row Tryd.results41 _ _ _ _ _ _ _ _ rfl rfl K5 Tryd.underlying60 rfl size_ie) rfl (fdall_none HA.out B5)

/-- The cause that elements tell. -/
def caN (L : List El) : Int := (rcN (fdX 8 L)).1
theorem rcN_err (x : El) (h : (rcN x).2 ≠ 0) : (rcN x).1 = 0 := by
  unfold rcN at h ⊢
  split
  · rfl
  · rename_i h1
    rw [if_neg h1] at h
    revert h
    split
    · split
      · intro h; exact absurd rfl h
      · intro _; rfl
    · intro _; rfl
theorem caN_none {L : List El} (h : fdB 8 L = false) : caN L = 0 := by
  unfold caN fdX
  unfold fdB at h
  cases hf : L.find? (idB 8) with
  | none => rfl
  | some x => rw [hf] at h; cases h

set_option maxHeartbeats 1000000 in
theorem mcause_calls (r : Int) (b : Bool) (k : Int) (a : Option Addr) (n c : Nat) (L : List El) (w : World) {m0 : Nat} (hv : IsI m0 w a n L) (hm0 : m0 ≤ w.heap.size) (hn : n ≤ 1000) :
    Calls Tryd.prog 23 #[meV r b k a n c] w fun e w' => e = .returned (.int .i64 (caN L)) ∧ Below w.heap.size w w' := by
  have A0 := me_below (w := w) (r := r) (b := b) (k := k) (a := a) (n := n) (c := c)
  have K0 := me_box (w := w) (r := r) (b := b) (k := k) (a := a) (n := n) (c := c)
  have HF := fd_all a n c L 8 (w.alloc (.cells (meC r b k a n c) 24)) (hv.below A0 hm0) (Nat.le_trans hm0 A0.size) hn
  obtain ⟨x, hx⟩ : ∃ x, fdX 8 L = x := ⟨_, rfl⟩
  unfold FdAll at HF
  rw [hx] at HF
  have HC : Hid (caN L = (rcN x).1) := by show _ = _; rw [← hx]; rfl
  clear hv hx
  go_enter Tryd.func23, Tryd.ntmps23
  go_wp2_with fail
  refine HF.mono ?_
  rintro e w1 ⟨ai, li, ci, rfl, I1, h0, h1, b1⟩
  have B1 := A0.trans (b1.mono A0.size)
  have A2 : Below w1.heap.size w1 (w1.alloc (.cells #[.int .u8 (x.id.toNat : Int), .slice ai li ci] 60)) := (Below.refl _ w1).alloc (Nat.le_refl _) _
  have K2 := ie_box (w := w1) (x := x) (a := ai) (l := li) (c := ci)
  have HR := rc_calls x ai li ci (w1.alloc (.cells #[.int .u8 (x.id.toNat : Int), .slice ai li ci] 60)) (I1.below A2 (Nat.le_trans hm0 B1.size)) (Nat.le_trans hm0 (Nat.le_trans B1.size A2.size))
  have B2 := B1.trans (A2.mono B1.size)
  clear HF K0
  go_wp2_with (with_reducible show wpList _ _ _ (Oper.mk _ (Op.load 60 _) _ _ _ _ :: _) _ _; refine wpList_ld rfl rfl rfl (run_ldI (by with_reducible assumption)) ?_; (try simp only [Act.put, List.setIfInBounds_toArray, List.set_cons_zero, List.set_cons_succ, World.size_alloc]))
  refine HR.mono ?_
  rintro e w3 ⟨rfl, b3⟩
  go_wp2
  go_ret
  exact ⟨ret_int (by rw [HC.out]), B2.trans (b3.mono B2.size)⟩

set_option maxHeartbeats 1000000 in
theorem refmcause_calls (r : Int) (b : Bool) (k : Int) (a : Option Addr) (n c : Nat) (L : List El) (w : World) {m0 : Nat} (hv : IsI m0 w a n L) (hm0 : m0 ≤ w.heap.size) (hn : n ≤ 1000) :
    Calls Tryd.prog 24 #[meV r b k a n c] w fun e w' => e = .returned (.int .i64 (caN L)) ∧ Below w.heap.size w w' := by
  have A0 := me_below (w := w) (r := r) (b := b) (k := k) (a := a) (n := n) (c := c)
  have K0 := me_box (w := w) (r := r) (b := b) (k := k) (a := a) (n := n) (c := c)
  have HF := reffd_all a n c L 8 (w.alloc (.cells (meC r b k a n c) 24)) (hv.below A0 hm0) (Nat.le_trans hm0 A0.size) hn
  obtain ⟨x, hx⟩ : ∃ x, fdX 8 L = x := ⟨_, rfl⟩
  obtain ⟨B, hB⟩ : ∃ B, fdB 8 L = B := ⟨_, rfl⟩
  unfold FdAll at HF
  rw [hx, hB] at HF
  have HC : Hid (caN L = (rcN x).1) := by show _ = _; rw [← hx]; rfl
  have HN : Hid (B = false → caN L = 0) := fun h => caN_none (hB.trans h)
  have HE : Hid ((rcN x).2 ≠ 0 → (rcN x).1 = 0) := rcN_err x
  clear hv hx hB
  go_enter Tryd.func24, Tryd.ntmps24
  go_wp2_with fail
  refine HF.mono ?_
  rintro e w1 ⟨ai, li, ci, rfl, I1, h0, h1, b1⟩
  have B1 := A0.trans (b1.mono A0.size)
  have A2 : Below w1.heap.size w1 (w1.alloc (.cells #[.int .u8 (x.id.toNat : Int), .slice ai li ci] 60)) := (Below.refl _ w1).alloc (Nat.le_refl _) _
  have K2 := ie_box (w := w1) (x := x) (a := ai) (l := li) (c := ci)
  have HR := refrc_calls x ai li ci (w1.alloc (.cells #[.int .u8 (x.id.toNat : Int), .slice ai li ci] 60)) (I1.below A2 (Nat.le_trans hm0 B1.size)) (Nat.le_trans hm0 (Nat.le_trans B1.size A2.size))
  have B2 := B1.trans (A2.mono B1.size)
  obtain ⟨u, hu⟩ : ∃ u, rcN x = u := ⟨_, rfl⟩
  obtain ⟨u1, u2⟩ := u
  rw [hu] at HR HC HE
  clear HF K0 hu
  go_wp2_with (with_reducible show wpList _ _ _ (Oper.mk _ (Op.load 60 _) _ _ _ _ :: _) _ _; refine wpList_ld rfl rfl rfl (run_ldI (by with_reducible assumption)) ?_; (try simp only [Act.put, List.setIfInBounds_toArray, List.set_cons_zero, List.set_cons_succ, World.size_alloc]))
  refine HR.mono ?_
  rintro e w3 ⟨rfl, b3⟩
  have B3 := B2.trans (b3.mono B2.size)
  cases B
  · go_wp2
    go_ret
    exact ⟨ret_int (show caN L = 0 by first | exact HN.out rfl | exact HN.out trivial).symm, B3⟩
  · by_cases hz : u2 = 0
    · subst hz
      go_wp2
      go_ret
      exact ⟨ret_int HC.out.symm, B3⟩
    · have q1 : (u2 != 0) = true := by simpa using hz
      have H0 : Hid (caN L = 0) := by show _ = _; rw [HC.out]; exact HE.out hz
      clear hz
      go_wp2
      go_ret
      exact ⟨ret_int H0.out.symm, B3⟩
end Go.Proofs.YtbjeljmnknibnaaDoor
