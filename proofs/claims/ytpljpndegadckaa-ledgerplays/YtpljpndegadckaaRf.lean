/- Proved here: how the document's ledger lies in memory, and what its New, At, Used, Get, without and Free answer. Conditions: as each theorem states them. -/
import Derived.Test.YtpljpndegadckaaSm
namespace Go.Proofs.Ytpljpndegadckaa
set_option linter.unusedSimpArgs false
set_option linter.unusedVariables false
open Go.RowKit Go.Shelf

theorem cret_int' {q : IntKind} {x y : Int} (h : x = y) : (.returned (.int q x) : Ending) = .returned (.int q y) := by rw [h]
/-- The document's ledger in block q. -/
structure RV (w : World) (q : Nat) (L : List En) (room : Int) : Prop where
  ex : ∃ a c, BK w q #[.int .i64 room, .slice a L.length c] 39 ∧ ES 0 w a L.length c L
theorem RV.lt {w : World} {q : Nat} {L : List En} {room : Int} (h : RV w q L room) : q < w.heap.size := by obtain ⟨a, c, h1, _⟩ := h.ex; exact h1.lt
theorem RV.below {w w' : World} {q m : Nat} {L : List En} {room : Int} (h : RV w q L room) (hb : Below m w w') (hm : w.heap.size ≤ m) : RV w' q L room := by
  obtain ⟨a, c, h1, h2⟩ := h.ex
  exact ⟨a, c, h1.below hb (Nat.lt_of_lt_of_le h1.lt hm), h2.below hb hm⟩
theorem RV.drew {w : World} {q : Nat} {L : List En} {room : Int} (h : RV w q L room) : RV w.drew q L room := h.below (Below.refl w.heap.size w).drew (Nat.le_refl _)
theorem RV.x {w w' : World} {q m b mb n : Nat} {L L' : List En} {room r' : Int} (h : RV w q L room) (hb : But2 b mb m w w') (hm : w.heap.size ≤ m) (hx : XV w b mb L' r' n) (hq : q ≠ b ∧ q ≠ mb) : RV w' q L room := by
  obtain ⟨a, c, h1, h2⟩ := h.ex
  exact ⟨a, c, h1.but2 hb (Nat.lt_of_lt_of_le h1.lt hm) hq.1 hq.2, h2.ke (KE.x hb hm hx)⟩
/-- A new list stored. -/
theorem RV.set {w : World} {q : Nat} {L L' : List En} {room : Int} (h : RV w q L room) {a : Option Addr} {n c base : Nat} (hs : ES base w a n c L') : RV (w.setCell ⟨q, 1, none⟩ (.slice a n c)) q L' room ∧ But q w.heap.size w (w.setCell ⟨q, 1, none⟩ (.slice a n c)) := by
  obtain ⟨a', c', h1, h2⟩ := h.ex
  have hb : But q w.heap.size w (w.setCell ⟨q, 1, none⟩ (.slice a n c)) := (But.refl q w.heap.size w).set (p := ⟨q, 1, none⟩) rfl _
  obtain rfl : n = L'.length := hs.1
  exact ⟨⟨a, c, h1.set 1 _, (hs.mono (Nat.zero_le _)).ke (KE.but hb (Nat.le_refl _) h1 (by decide))⟩, hb⟩

theorem sum_take (L : List En) (i : Nat) {x : En} (hx : L[i]? = some x) : sumL (L.take (i + 1)) = sumL (L.take i) + x.2 := by
  induction L generalizing i with
  | nil => cases hx
  | cons y L ih =>
    cases i with
    | zero => simp at hx; subst hx; simp [sumL]
    | succ i =>
      rw [List.take_succ_cons, sumL, ih i (by simpa using hx), List.take_succ_cons, sumL]; omega
theorem sum_split (L : List En) (i : Nat) : sumL L = sumL (L.take i) + sumL (L.drop i) := by
  induction L generalizing i with
  | nil => simp [sumL]
  | cons y L ih =>
    cases i with
    | zero => simp [sumL]
    | succ i => rw [List.take_succ_cons, sumL, sumL, List.drop_succ_cons, ih i]; omega
theorem sum_pre {L : List En} (h : ∀ x ∈ L, 0 ≤ x.2) (i : Nat) : 0 ≤ sumL (L.take i) ∧ sumL (L.take i) ≤ sumL L := by
  have h1 := sum_nonneg (L := L.take i) fun x hx => h x (List.mem_of_mem_take hx)
  have h2 := sum_nonneg (L := L.drop i) fun x hx => h x (List.mem_of_mem_drop hx)
  have := sum_split L i
  omega

set_option maxHeartbeats 800000 in
theorem rnew_calls (r : Int) (w : World) : Calls Try.prog 11 #[.int .i64 r] w fun e w' => e = .returned (.pointer (some ⟨w.heap.size, 0, none⟩)) ∧ RV w' w.heap.size [] (roomN r) ∧ Below w.heap.size w w' := by
  have hm1 : Hid (max 0 (min r 1152921504606846976) = roomN r) := by show _ = _; unfold roomN; omega
  go_enter Try.func11, Try.ntmps11
  go_wp2
  go_ret
  refine ⟨rfl, ⟨none, 0, ?_, es_nil 0 _⟩, below_box _ _⟩
  rw [← hm1.out]
  exact bk_new _ _ _

set_option maxHeartbeats 2000000 in
theorem rat_calls {w : World} {q : Nat} {L : List En} {room : Int} (h : RV w q L room) (hlen : L.length ≤ 1000) (k : Int) :
    Calls Try.prog 27 #[.pointer (some ⟨q, 0, none⟩), .int .i64 k] w fun e w' =>
      ((∃ (i : Nat) (x : En), e = .returned (.int .i64 (i : Int)) ∧ L[i]? = some x ∧ getB L k = true ∧ getN L k = x.2) ∨ (e = .returned (.int .i64 (-1)) ∧ getB L k = false)) ∧ w' = w := by
  obtain ⟨a, c, h1, h2⟩ := h.ex
  have q1 := h1.cell 1 _ rfl
  have hI := h2.isE
  go_enter Try.func27, Try.ntmps27
  go_wp2
  go_loopw [11] (fun iv wr => ∃ (i : Nat), i ≤ L.length ∧ iv = .int .i64 i ∧ look (L.drop i) k = look L k ∧ wr = w) (fun iv _ => L.length - (intOf iv).toNat)
  case atStart => exact ⟨0, Nat.zero_le _, rfl, rfl, rfl⟩
  case round =>
    obtain ⟨i, hi, rfl, hlk, rfl⟩ := hrel
    by_cases hlt : i < L.length
    · obtain ⟨g, off, x, rfl, hg, hx, hc⟩ := hI.at hlt
      obtain ⟨c0, c1⟩ := hc wr rfl
      by_cases he : x.1 = k
      · have d : (x.1 == k) = true := by simpa using he
        have HE : Hid (L[i]? = some x ∧ getB L k = true ∧ getN L k = x.2) := by
          have := look_here hx he
          rw [hlk] at this
          exact ⟨hx, by unfold getB; rw [this]; rfl, by unfold getN; rw [this]; rfl⟩
        clear hx hlk hc hI h1 h2 h he
        go_wp2
        go_ret
        exact ⟨.inl ⟨i, x, rfl, HE.out⟩, rfl⟩
      · have d : (x.1 == k) = false := by simpa using he
        have HE : Hid (look (L.drop (i + 1)) k = look L k) := by show _ = _; rw [← look_step hx he, hlk]
        clear hx hlk hc hI h1 h2 h he
        go_wp2
        go_roundw
        case rel => exact ⟨i + 1, by omega, by go_num, HE.out, by first | rfl | trivial⟩
        case measure => simp [intOf]; omega
    · obtain rfl : i = L.length := by omega
      have HE : Hid (getB L k = false) := by
        rw [List.drop_length] at hlk
        show getB L k = false
        unfold getB; rw [← hlk]; rfl
      clear hlk hI h1 h2 h
      go_wp2
      go_ret
      exact ⟨.inr ⟨rfl, HE.out⟩, rfl⟩

set_option maxHeartbeats 2000000 in
theorem rused_calls {w : World} {q : Nat} {L : List En} {room r' : Int} (h : RV w q L room) (ho : Ok L r') (hlen : L.length ≤ 1000) :
    Calls Try.prog 19 #[.pointer (some ⟨q, 0, none⟩)] w fun e w' => e = .returned (.int .i64 (sumL L)) ∧ w' = w := by
  obtain ⟨a, c, h1, h2⟩ := h.ex
  have q1 := h1.cell 1 _ rfl
  have hI := h2.isE
  have HO : Hid (Ok L r') := ho
  go_enter Try.func19, Try.ntmps19
  go_wp2
  go_loopw [3, 10] (fun sv iv wr => ∃ (i : Nat), i ≤ L.length ∧ iv = .int .i64 i ∧ sv = .int .i64 (sumL (L.take i)) ∧ wr = w) (fun _ iv _ => L.length - (intOf iv).toNat)
  case atStart => exact ⟨0, Nat.zero_le _, rfl, by simp [sumL], rfl⟩
  case round =>
    obtain ⟨i, hi, rfl, rfl, rfl⟩ := hrel
    by_cases hlt : i < L.length
    · obtain ⟨g, off, x, rfl, hg, hx, hc⟩ := hI.at hlt
      obtain ⟨c0, c1⟩ := hc wr rfl
      have e1 := sum_take L i hx
      have b1 := sum_pre HO.out.pos i
      have b2 := sum_pre HO.out.pos (i + 1)
      have b3 := HO.out.sum
      have b4 := HO.out.room
      have HS : Hid (sumL (L.take (i + 1)) = sumL (L.take i) + x.2) := e1
      have hw : IntKind.i64.wrap (sumL (L.take i) + x.2) = sumL (L.take i) + x.2 := by rw [IntKind.wrap_i64]; omega
      clear hx hc hI h1 h2 h e1 b1 b2 b3 b4 ho
      generalize sumL (L.take i) = S at *
      go_wp2
      go_roundw
      case rel => exact ⟨i + 1, by omega, by go_num, by rw [HS.out], by first | rfl | trivial⟩
      case measure => simp [intOf]; omega
    · obtain rfl : i = L.length := by omega
      rw [List.take_length]
      clear hI h1 h2 h
      go_wp2
      go_ret
      exact ⟨rfl, rfl⟩

set_option maxHeartbeats 2000000 in
theorem rget_calls {w : World} {q : Nat} {L : List En} {room : Int} (h : RV w q L room) (hlen : L.length ≤ 1000) (k : Int) :
    Calls Try.prog 17 #[.pointer (some ⟨q, 0, none⟩), .int .i64 k] w fun e w' => e = .returned (.tuple #[.int .i64 (getN L k), .bool (getB L k)]) ∧ w' = w := by
  have hat := rat_calls h hlen k
  obtain ⟨a, c, h1, h2⟩ := h.ex
  have q1 := h1.cell 1 _ rfl
  have hI := h2.isE
  clear h h1 h2
  go_enter Try.func17, Try.ntmps17
  go_wp2_with fail
  refine hat.mono ?_
  rintro e w1 ⟨(⟨i, x, rfl, hx, hb, hn⟩ | ⟨rfl, hb⟩), e1⟩
  · rw [e1]
    have hi : i < L.length := (List.getElem?_eq_some_iff.1 hx).1
    obtain ⟨g, off, y, rfl, hg, hy, hc⟩ := hI.at hi
    obtain rfl : x = y := Option.some.inj (hx.symm.trans hy)
    obtain ⟨c0, c1⟩ := hc w rfl
    have d : decide ((i : Int) < 0) = false := by simp
    have HN : Hid (getB L k = true ∧ getN L k = x.2) := ⟨hb, hn⟩
    clear hb hn hx hy hc hI e1
    go_wp2
    go_returns
    exact ⟨by rw [HN.out.1, HN.out.2]; rfl, rfl⟩
  · rw [e1]
    have d : decide ((-1 : Int) < 0) = true := by decide
    have HN : Hid (getB L k = false ∧ getN L k = 0) := ⟨hb, getN_none hb⟩
    clear hb hI e1
    go_wp2
    go_returns
    exact ⟨by rw [HN.out.1, HN.out.2]; rfl, rfl⟩

theorem del_take {L : List En} {i : Nat} {x : En} (hx : L[i]? = some x) (k : Int) : del (L.take (i + 1)) k = del (L.take i) k ++ (if x.1 = k then [] else [x]) := by
  rw [List.take_add_one, hx]
  unfold del
  rw [List.filter_append]
  congr 1
  by_cases h : x.1 = k
  · rw [if_pos h]; simp [h]
  · rw [if_neg h]; simp [h]
set_option maxHeartbeats 2000000 in
theorem rwithout_calls {w : World} {q : Nat} {L : List En} {room : Int} (h : RV w q L room) (hlen : L.length ≤ 1000) (k : Int) :
    Calls Try.prog 29 #[.pointer (some ⟨q, 0, none⟩), .int .i64 k] w fun e w' => ∃ a c, e = .returned (.slice a (del L k).length c) ∧ ES w.heap.size w' a (del L k).length c (del L k) ∧ Below w.heap.size w w' := by
  obtain ⟨a, c, h1, h2⟩ := h.ex
  have q1 := h1.cell 1 _ rfl
  have hI := h2.isE
  clear h
  go_enter Try.func29, Try.ntmps29
  go_wp2
  go_loopw [5, 12] (fun ov iv wr => ∃ (i : Nat) (a' : Option Addr) (c' : Nat), i ≤ L.length ∧ iv = .int .i64 i ∧ ov = .slice a' (del (L.take i) k).length c' ∧ ES w.heap.size wr a' (del (L.take i) k).length c' (del (L.take i) k) ∧ Below w.heap.size w wr) (fun _ iv _ => L.length - (intOf iv).toNat)
  case atStart => exact ⟨0, none, 0, Nat.zero_le _, rfl, rfl, es_nil _ _, Below.refl _ _⟩
  case round =>
    obtain ⟨i, a', c', hi, rfl, rfl, E4, B4⟩ := hrel
    have K4 := h1.below B4 h1.lt
    have q4 := K4.cell 1 _ rfl
    by_cases hlt : i < L.length
    · obtain ⟨g, off, x, rfl, hg, hx, hc⟩ := hI.at hlt
      obtain ⟨c0, c1⟩ := hc wr (B4.block g hg)
      have hdl : (del (L.take i) k).length ≤ 1000 := by have := del_le (L.take i) k; rw [List.length_take] at this; omega
      have ht := del_take hx k
      by_cases he : x.1 = k
      · have d : (x.1 != k) = false := by simpa using he
        rw [if_pos he, List.append_nil] at ht
        have HT : Hid (del (L.take (i + 1)) k = del (L.take i) k) := ht
        clear hx hc hI h1 h2 he ht
        go_wp2
        go_roundw
        case rel => exact ⟨i + 1, a', c', by omega, by go_num, by rw [HT.out], by rw [HT.out]; exact E4, B4⟩
        case measure => simp [intOf]; omega
      · have d : (x.1 != k) = true := by simpa using he
        rw [if_neg he] at ht
        have HT : Hid (del (L.take (i + 1)) k = del (L.take i) k ++ [x]) := ht
        generalize del (L.take i) k = D at *
        have E5 := E4.below (below_box wr (.cells #[.int .i64 x.1, .int .i64 x.2] 60)) (Nat.le_refl _)
        obtain ⟨a6, c6, w6, hap, E6, B6, _⟩ := run_app_e (wr.alloc (.cells #[.int .i64 x.1, .int .i64 x.2] 60)) w.heap.size (by have := B4.size; simp; omega) a' D.length c' D E5 37 _ _ 1 1 [x] (isE_lit wr x.1 x.2 _ _ (Nat.lt_succ_self _)) (by omega)
        have B7 : Below w.heap.size w w6 := (B4.trans ((below_box wr (.cells #[.int .i64 x.1, .int .i64 x.2] 60)).mono B4.size)).trans B6
        clear hx hc hI h1 h2 he ht E4 E5 B4 B6
        go_wp2_with (at_builtin; refine wpList_app hap _ _ rfl rfl rfl rfl rfl ?_)
        go_roundw
        case rel => exact ⟨i + 1, a6, c6, by omega, by go_num, by rw [HT.out, List.length_append]; rfl, by rw [HT.out, List.length_append]; exact E6, B7⟩
        case measure => simp [intOf]; omega
    · obtain rfl : i = L.length := by omega
      rw [List.take_length] at E4 ⊢
      clear hI h1 h2
      go_wp2
      go_ret
      exact ⟨a', c', rfl, E4, B4⟩

set_option maxHeartbeats 2000000 in
theorem rfree_calls {w : World} {q : Nat} {L : List En} {room : Int} (h : RV w q L room) (hlen : L.length ≤ 1000) (k : Int) :
    Calls Try.prog 15 #[.pointer (some ⟨q, 0, none⟩), .int .i64 k] w fun e w' => e = .returned (.tuple #[.int .i64 (getN L k), .bool (getB L k)]) ∧ RV w' q (del L k) room ∧ But q w.heap.size w w' := by
  have hg := rget_calls h hlen k
  have hw := rwithout_calls h hlen k
  go_enter Try.func15, Try.ntmps15
  go_wp2_with fail
  refine hg.mono ?_
  rintro e w1 ⟨rfl, e1⟩
  rw [e1]
  clear e1 hg
  go_wp2_with fail
  refine hw.mono ?_
  rintro e w2 ⟨a2, c2, rfl, E2, B2⟩
  have R2 := h.below B2 (Nat.le_refl _)
  obtain ⟨R3, b3⟩ := R2.set E2
  obtain ⟨a', c', K2, _⟩ := R2.ex
  have p1 := K2.cell 1 _ rfl
  have f1 := K2.frozen 1
  have B3 := (But.of (r := q) B2).trans (b3.mono B2.size)
  clear hw h R2 K2 E2 B2 b3
  go_wp2
  go_returns
  exact ⟨rfl, R3, B3⟩
end Go.Proofs.Ytpljpndegadckaa
