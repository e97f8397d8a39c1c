/- Proved here: the law MessageFrames' walk. Conditions: as each theorem states them. -/
import Derived.Test.YtbjeljmnknibnaaDoorBackW
import Derived.Test.YtbjeljmnknibnaaDoorFUp
import Derived.Test.YtbjeljmnknibnaaDoorFPk
import Derived.Test.YtbjeljmnknibnaaDoorFFlip
namespace Go.Proofs.YtbjeljmnknibnaaDoor
set_option linter.unusedSimpArgs false
set_option linter.unusedVariables false
set_option maxRecDepth 20000
open Go.RowKit Go.Shelf

theorem one_bit (j : Nat) (h : 1 ≤ j) : Nat.testBit 1 j = false := by
  rw [Nat.testBit_eq_decide_div_mod_eq]
  have : 1 / 2 ^ j = 0 := Nat.div_eq_of_lt (Nat.one_lt_two_pow (by omega))
  rw [this]; rfl
theorem burst_one (xs : List UInt8) (p : Nat) (hp : p < 8 * xs.length) : ∀ i, F.burstTo xs p 1 (i + 1) = F.flipN xs p
  | 0 => by
    unfold F.burstTo
    rw [if_pos (by simp [F.hit, hp])]
    rfl
  | i + 1 => by
    unfold F.burstTo
    rw [if_neg (by simp [F.hit, one_bit (i + 1) (by omega)])]
    exact burst_one xs p hp i
theorem changed_one (n p : Nat) (hp : p < 8 * n) : ∀ i, F.changedTo n p 1 (i + 1) = true
  | 0 => by simp [F.changedTo, F.hit, hp]
  | i + 1 => by
    unfold F.changedTo
    rw [changed_one n p hp i]
    rfl
theorem unpack_flip {t : List UInt8} (m : UInt8) (h1 : 1 ≤ t.length) (p : Nat) (hp : p < 8 * (F.frameN t m).length) : F.unpackN (F.flipN (F.frameN t m) p) = ([], 0, 4) := by
  have := F.unpack_burst m h1 p 1 (changed_one _ p hp 31)
  rwa [burst_one _ p hp 31] at this
/-- What frame.Pack answers of bytes that can be framed. -/
theorem fpack_all (a : Option Addr) (n c : Nat) (zs : List UInt8) (w : World) (h : IsB w.heap.size w a n zs) (nn : a = none → c = 0) (h1 : 1 ≤ n) (h2 : n ≤ 1000) :
    Calls Tryd.prog 25 #[.slice a n c, .int .u8 0] w fun e w' => ∃ a' c', e = .returned (.tuple #[.slice a' (48 * F.manyN n) c', .int .i64 0]) ∧ IsB w'.heap.size w' a' (48 * F.manyN n) (F.frameN zs 0) ∧ (a' = none → c' = 0) ∧ 48 * F.manyN n ≤ c' ∧ Below w.heap.size w w' := by
  refine (F.pack_calls a n c zs 0 w (n := w.heap.size) h (Nat.le_refl _) nn h1 h2).mono ?_
  rintro e w' ⟨a', c', rfl, o, b⟩
  exact ⟨a', c', rfl, o.isB.1, o.isB.2.1, o.isB.2.2, b⟩
theorem funpack_good (a : Option Addr) (n c : Nat) (fr zs : List UInt8) (w : World) {m0 : Nat} (h : IsB m0 w a n fr) (hm : m0 ≤ w.heap.size) (hc : n ≤ c) (hl : n ≤ 3000) (hf : F.unpackN fr = (zs, 0, 0)) :
    Calls Tryd.prog 26 #[.slice a n c] w fun e w' => ∃ a' c', e = .returned (.tuple #[.slice a' zs.length c', .int .u8 0, .int .i64 0]) ∧ IsB w'.heap.size w' a' zs.length zs ∧ zs.length ≤ c' ∧ Below w.heap.size w w' := by
  refine (F.unpack_calls a n c fr w (n := m0) h hm hc hl).mono ?_
  intro e w' hu
  unfold F.UpAns at hu
  rw [hf] at hu
  obtain ⟨a', c', rfl, hI, _, hle, b⟩ := hu
  exact ⟨a', c', rfl, hI, hle, b⟩
theorem funpack_bad (a : Option Addr) (n c : Nat) (fr : List UInt8) (w : World) {m0 : Nat} (h : IsB m0 w a n fr) (hm : m0 ≤ w.heap.size) (hc : n ≤ c) (hl : n ≤ 3000) (hf : F.unpackN fr = ([], 0, 4)) :
    Calls Tryd.prog 26 #[.slice a n c] w fun e w' => ∃ a' c', e = .returned (.tuple #[.slice a' 0 c', .int .u8 0, .int .i64 4]) ∧ Below w.heap.size w w' := by
  refine (F.unpack_calls a n c fr w (n := m0) h hm hc hl).mono ?_
  intro e w' hu
  unfold F.UpAns at hu
  rw [hf] at hu
  obtain ⟨a', c', rfl, _, _, _, b⟩ := hu
  exact ⟨a', c', rfl, b⟩
theorem flip_all (a : Option Addr) (n c : Nat) (xs : List UInt8) (w : World) {m0 : Nat} (h : IsB m0 w a n xs) (hm : m0 ≤ w.heap.size) (nn : a = none → c = 0) (hl : n ≤ 90000) (i : Nat) (hi : i < 8 * n) :
    Calls Tryd.prog 27 #[.slice a n c, .int .i64 i] w fun e w' => ∃ a' c', e = .returned (.slice a' n c') ∧ IsB w'.heap.size w' a' n (F.flipN xs i) ∧ n ≤ c' ∧ Below w.heap.size w w' := by
  refine (F.flip_calls a n c xs w (n := m0) h hm nn hl i hi).mono ?_
  rintro e w' ⟨a', c', rfl, o, b⟩
  exact ⟨a', c', rfl, o.isB.1, o.isB.2.2, b⟩

set_option maxHeartbeats 8000000 in
theorem frames_walk (r : Int) (b : Bool) (k : Int) (a : Option Addr) (n c : Nat) (L : List El) (bit : Nat) (hbit : bit < 65536) (W : World) (hv : IsI W.heap.size W a n L) (hn : n ≤ maxLen) (ht : Tab W) :
    Calls Tryd.prog 8 #[meV r b k a n c, .int .u16 (bit : Int)] W fun e w' => e = .returned (.bool true) ∧ Below W.heap.size W w' := by
  have A0 := me_below (w := W) (r := r) (b := b) (k := k) (a := a) (n := n) (c := c)
  have K0 := me_box (w := W) (r := r) (b := b) (k := k) (a := a) (n := n) (c := c)
  go_enter Tryd.func8, Tryd.ntmps8
  go_wp2_with fail
  refine (awake_calls _ (ht.on A0)).mono ?_
  rintro e w1 ⟨rfl, b1⟩
  have B1 := A0.trans (b1.mono A0.size)
  have K1 := K0.below b1 K0.lt
  have HF := mfew_calls r b k a n c L w1 (hv.below B1 (Nat.le_refl _)) B1.size hn
  clear A0 K0 b1
  cases hf : fewB L
  · rw [hf] at HF
    go_wp2_with (with_reducible show wpList _ _ _ (Oper.mk _ (Op.load 24 _) _ _ _ _ :: _) _ _; refine wpList_ld rfl rfl rfl (run_ldM (by with_reducible assumption)) ?_; (try simp only [Act.put, List.setIfInBounds_toArray, List.set_cons_zero, List.set_cons_succ, World.size_alloc]))
    refine HF.mono ?_
    rintro e w2 ⟨rfl, b2⟩
    have B2 := B1.trans (b2.mono B1.size)
    go_wp2_with fail
    refine (awake_calls w2 (ht.on B2)).mono ?_
    rintro e w3 ⟨rfl, b3⟩
    go_wp2
    go_ret
    exact ⟨rfl, B2.trans (b3.mono B2.size)⟩
  rw [hf] at HF
  obtain ⟨h300, h20⟩ := fewB_iff.1 hf
  have hl20 : n ≤ 20 := by have := hv.1; omega
  have H300 : Hid (∀ x ∈ L, x.body.length ≤ 300) := h300
  clear hf h300 h20 hn
  go_wp2_with (with_reducible show wpList _ _ _ (Oper.mk _ (Op.load 24 _) _ _ _ _ :: _) _ _; refine wpList_ld rfl rfl rfl (run_ldM (by with_reducible assumption)) ?_; (try simp only [Act.put, List.setIfInBounds_toArray, List.set_cons_zero, List.set_cons_succ, World.size_alloc]))
  refine HF.mono ?_
  rintro e w2 ⟨rfl, b2⟩
  have B2 := B1.trans (b2.mono B1.size)
  have K2 := K1.below b2 K1.lt
  clear HF b2 B1 K1
  have HP := mpack_all r b k a n c L w2 (hv.below B2 (Nat.le_refl _)) B2.size (by omega) (ht.on B2)
  obtain ⟨m, hm⟩ : ∃ m, mk r b k L = m := ⟨_, rfl⟩
  rw [hm] at HP
  have HM : Hid (mk r b k L = m) := hm
  clear hm
  go_wp2_with (with_reducible show wpList _ _ _ (Oper.mk _ (Op.load 24 _) _ _ _ _ :: _) _ _; refine wpList_ld rfl rfl rfl (run_ldM (by with_reducible assumption)) ?_; (try simp only [Act.put, List.setIfInBounds_toArray, List.set_cons_zero, List.set_cons_succ, World.size_alloc]))
  refine HP.mono ?_
  rintro e w3 ⟨a3, n3, c3, rfl, o3, hz3, hc3, b3⟩
  have B3 := B2.trans (b3.mono B2.size)
  have K3 := K2.below b3 K2.lt
  clear HP b3 B2 K2
  by_cases hE : mpE m = 0
  · obtain ⟨hr, hl⟩ := mpE_zero hE
    have e3 := mpB_ok hE
    rw [hE]
    rw [e3] at o3
    have hn3 : n3 = (bytesM m).length := o3.1
    have h9 : 9 ≤ n3 := by rw [hn3, bytesM_length]; omega
    have h1000 : n3 ≤ 1000 := by omega
    have HU1 : Hid (unM (bytesM m) = .ok (mk r b k L)) := by rw [HM.out]; exact unM_bytes hr hl
    obtain ⟨zs, hzs⟩ : ∃ zs, bytesM m = zs := ⟨_, rfl⟩
    rw [hzs] at o3 hn3 HU1
    have HLn : Hid (n3 = zs.length) := hn3
    have HFr : Hid (F.unpackN (F.frameN zs 0) = (zs, 0, 0)) := F.unpack_frame 0 (by omega) (by omega)
    have hfl := F.frame_len (t := zs) 0 (by omega)
    have hmany := F.many_eq (n := n3) (by omega)
    have HP := fpack_all a3 n3 c3 zs w3 o3 hz3 (by omega) h1000
    obtain ⟨LF, hLF⟩ : ∃ LF, 48 * F.manyN n3 = LF := ⟨_, rfl⟩
    rw [← hn3] at hfl
    rw [hLF] at HP hfl
    have hlo : 48 ≤ LF := by omega
    have hhi : LF ≤ 1100 := by omega
    have HFB : Hid (∀ p, p < 8 * LF → F.unpackN (F.flipN (F.frameN zs 0) p) = ([], 0, 4)) := fun p hp => unpack_flip 0 (by omega) p (by omega)
    clear hE hr hl e3 hzs hn3 o3 hz3 hmany hLF hfl
    obtain ⟨fr, hfr⟩ : ∃ fr, F.frameN zs 0 = fr := ⟨_, rfl⟩
    rw [hfr] at HP HFr HFB
    clear hfr
    go_wp2_with fail
    refine HP.mono ?_
    rintro e w4 ⟨a4, c4, rfl, o4, hz4, hc4, b4⟩
    have B4 := B3.trans (b4.mono B3.size)
    have K4 := K3.below b4 K3.lt
    have q0 : ((LF : Int) == 0) = false := by simp; omega
    clear HP b4 B3 K3
    have HP := funpack_good a4 LF c4 fr zs w4 o4 (Nat.le_refl _) hc4 (by omega) HFr.out
    rw [← HLn.out] at HP
    go_wp2_with fail
    refine HP.mono ?_
    rintro e w5 ⟨a5, c5, rfl, o5, hc5, b5⟩
    have B5 := B4.trans (b5.mono B4.size)
    have K5 := K4.below b5 K4.lt
    have o45 := o4.below b5 (Nat.le_refl _)
    have s45 := b5.size
    clear HP b5 B4 K4 o4
    have HP := munpack_calls a5 n3 c5 zs w5 o5 (Nat.le_refl _) hc5 (by omega) (ht.on B5)
    go_wp2_with fail
    refine HP.mono ?_
    rintro e w6 hmu
    obtain ⟨a6, n6, c6, rfl, o6, h6, b6⟩ : ∃ (a' : Option Addr) (n' c' : Nat), e = .returned (.tuple #[meV r b k a' n' c', .int .i64 0]) ∧ IsI w6.heap.size w6 a' n' L ∧ n' ≤ 16 ∧ Below w5.heap.size w5 w6 := mu_good HU1.out hmu
    have B6 := B5.trans (b6.mono B5.size)
    have K6 := K5.below b6 K5.lt
    have o46 := o45.below b6 s45
    have s46 := Nat.le_trans s45 b6.size
    clear HP hmu b6 B5 K5 o45 o5 HU1 s45
    have A7 := me_below (w := w6) (r := r) (b := b) (k := k) (a := a6) (n := n6) (c := c6)
    have X7 := me_box (w := w6) (r := r) (b := b) (k := k) (a := a6) (n := n6) (c := c6)
    have B7 := B6.trans (A7.mono B6.size)
    have K7 := K6.below A7 K6.lt
    have o47 := o46.below A7 s46
    have o7 := o6.below A7 (Nat.le_refl _)
    have s47 := Nat.le_trans s46 A7.size
    have s67 := A7.size
    clear A7 B6 K6 o46 o6 s46
    obtain ⟨p, hp⟩ : ∃ p, bit % (8 * LF) = p := ⟨_, rfl⟩
    have hpl : p < 8 * LF := by rw [← hp]; exact Nat.mod_lt _ (by omega)
    have e8 : wrap64 (8 * (LF : Int)) = 8 * (LF : Int) := by unfold wrap64; omega
    have e9 : IntKind.i64.wrap (8 * (LF : Int)) = 8 * (LF : Int) := by rw [IntKind.wrap_i64]; omega
    have tm : (bit : Int).tmod (8 * (LF : Int)) = (p : Int) := by rw [← hp]; rfl
    have wn : IntKind.i64.wrap (bit : Int) = (bit : Int) := by rw [IntKind.wrap_i64]; omega
    have hn0 : ((8 * (LF : Int)) == 0) = false := by simp; omega
    clear hp
    have HP := flip_all a4 LF c4 fr (w6.alloc (.cells (meC r b k a6 n6 c6) 24)) o47 s47 hz4 (by omega) p hpl
    go_wp2_with fail
    generalize w6.alloc (.cells (meC r b k a6 n6 c6) 24) = w7 at *
    refine HP.mono ?_
    rintro e w8 ⟨a8, c8, rfl, o8, hc8, b8⟩
    have B8 := B7.trans (b8.mono B7.size)
    have K8 := K7.below b8 K7.lt
    have X8 := X7.below b8 X7.lt
    have o78 := o7.below b8 s67
    have s68 := Nat.le_trans s67 b8.size
    clear HP b8 B7 K7 X7 o7 o47 tm
    have HP := funpack_bad a8 LF c8 (F.flipN fr p) w8 o8 (Nat.le_refl _) hc8 (by omega) (HFB.out p hpl)
    go_wp2_with fail
    refine HP.mono ?_
    rintro e w9 ⟨a9, c9, rfl, b9⟩
    have B9 := B8.trans (b9.mono B8.size)
    have K9 := K8.below b9 K8.lt
    have X9 := X8.below b9 X8.lt
    have o9 := o78.below b9 s68
    have s69 := Nat.le_trans s68 b9.size
    clear HP b9 B8 K8 X8 o78 o8
    have HS := refmsame_self r b k a6 a n6 c6 n c L w9 o9 (hv.below B9 (Nat.le_refl _)) s69 B9.size (by omega) (by omega) (fun x hx => Nat.le_trans (H300.out x hx) (by decide))
    go_wp2_with (with_reducible show wpList _ _ _ (Oper.mk _ (Op.load 24 _) _ _ _ _ :: _) _ _; refine wpList_ld rfl rfl rfl (run_ldM (by with_reducible assumption)) ?_; (try simp only [Act.put, List.setIfInBounds_toArray, List.set_cons_zero, List.set_cons_succ, World.size_alloc]))
    refine HS.mono ?_
    rintro e w10 ⟨rfl, b10⟩
    go_wp2
    go_ret
    exact ⟨rfl, B9.trans (b10.mono B9.size)⟩
  · have hEE : (mpE m != 0) = true := by simpa using hE
    have hn0 : n3 = 0 := by
      have := o3.1
      rw [mpB_no hE] at this
      exact this
    subst hn0
    generalize mpE m = E at *
    clear hE o3 hz3 hc3 K3
    go_wp2
    go_ret
    exact ⟨rfl, B3⟩
end Go.Proofs.YtbjeljmnknibnaaDoor
