/- Proved here: the walk of LedgerNil. Conditions: as each theorem states them. -/
import Derived.Test.YtpljpndegadckaaAw
import Derived.Test.YtpljpndegadckaaAl
import Derived.Test.YtpljpndegadckaaSm
namespace Go.Proofs.Ytpljpndegadckaa
set_option linter.unusedSimpArgs false
set_option linter.unusedVariables false
open Go.RowKit Go.Shelf
attribute [local go_sem] Oper.semAt_some

theorem all_calls (v : Value) (w : World) (hv : v.oneCell' = true) (hc : v.cells = #[v]) : Calls Try.prog 23 #[v] w fun e w' => e = .returned (.func (.func 30) #[] #[.pointer (some ⟨w.heap.size, 0, none⟩)]) ∧ w' = w.alloc (.cells #[v] 24) :=
  callsIn_wide.1 (all_in 0 v w hv hc)
/-- An end that is no panic. -/
def calm (Q : Exit → Act → World → Prop) : Exit → Act → World → Prop
  | .ret, a, w => Q .ret a w
  | .normal, a, w => Q .normal a w
  | _, _, _ => False
theorem wp_calm {P : Program} {c : Code} {Q : Exit → Act → World → Prop} {a : Act} {w : World} (h : c.wp P (calm Q) a w) : c.wp P Q a w :=
  wp_mono h fun e a w h => by cases e <;> first | exact h | exact h.elim

/-- What is left when numbers have been freed. -/
def dels (L : List En) (P : List En) : List En := P.foldl (fun T x => del T x.1) L
theorem dels_snoc (L P : List En) (x : En) : dels L (P ++ [x]) = del (dels L P) x.1 := by unfold dels; rw [List.foldl_append]; rfl
theorem del_head {x : En} {L : List En} (hs : Srt (x :: L)) : del (x :: L) x.1 = L := by
  obtain ⟨h1, _⟩ := List.pairwise_cons.1 hs
  have h2 : getB L x.1 = false := by
    cases hb : getB L x.1 with
    | false => rfl
    | true =>
      obtain ⟨y, hy, e⟩ := List.mem_map.1 (getB_mem.1 hb)
      have := h1 y hy; omega
  have h3 : del (x :: L) x.1 = del L x.1 := by unfold del; rw [List.filter_cons, if_neg (by simp)]
  rw [h3, del_none h2]
theorem dels_pre {L P : List En} (hp : P <+: L) (hs : Srt L) : dels L P = L.drop P.length := by
  induction P generalizing L with
  | nil => rfl
  | cons y P ih =>
    obtain ⟨R, rfl⟩ := hp
    have e : y :: P ++ R = y :: (P ++ R) := rfl
    rw [e] at hs ⊢
    show dels (del (y :: (P ++ R)) y.1) P = _
    rw [del_head hs, ih (List.prefix_append _ _) (List.pairwise_cons.1 hs).2]
    rfl

/-- The ledger, and the variables that are boxed. -/
structure NI (b mb bx bs bn : Nat) (st : Int) (W : World) (L : List En) (room : Int) (nn : Nat) (N : Int) : Prop where
  x : XV W b mb L room nn
  hbx : BK W bx #[.pointer (some ⟨b, 0, none⟩)] 24
  hbs : BK W bs #[.int .u8 st] 5
  hbn : BK W bn #[.int .i64 N] 3
theorem NI.same {b mb bx bs bn nn : Nat} {st N room : Int} {W W' : World} {L : List En} (h : NI b mb bx bs bn st W L room nn N) (hs : ∀ k, k = b ∨ k = mb ∨ k = bx ∨ k = bs ∨ k = bn → W'.heap[k]? = W.heap[k]?) : NI b mb bx bs bn st W' L room nn N :=
  ⟨h.x.same (hs _ (.inl rfl)) (hs _ (.inr (.inl rfl))), (hs _ (.inr (.inr (.inl rfl)))).trans h.hbx, (hs _ (.inr (.inr (.inr (.inl rfl))))).trans h.hbs, (hs _ (.inr (.inr (.inr (.inr rfl))))).trans h.hbn⟩
theorem NI.below {b mb bx bs bn nn m : Nat} {st N room : Int} {W W' : World} {L : List En} (h : NI b mb bx bs bn st W L room nn N) (hb : Below m W W') (hm : W.heap.size ≤ m) : NI b mb bx bs bn st W' L room nn N :=
  h.same fun k hk => hb.block k (by have := h.x.lt; have := h.x.mlt; have := h.hbx.lt; have := h.hbs.lt; have := h.hbn.lt; omega)
theorem NI.grown {b mb bx bs bn nn B : Nat} {st N room : Int} {X Y : World} {L : List En} {row : Option Nat} (h : NI b mb bx bs bn st X L room nn N) (hg : X.grownBy Y row) (hr : ∀ r, row = some r → B ≤ r) (hB : b < B ∧ mb < B ∧ bx < B ∧ bs < B ∧ bn < B) : NI b mb bx bs bn st Y L room nn N :=
  h.same fun k hk => hg.block k (by have := h.x.lt; have := h.x.mlt; have := h.hbx.lt; have := h.hbs.lt; have := h.hbn.lt; omega) (fun e => by have := hr k e.symm; omega)
/-- A number freed; the count stored. -/
theorem NI.free {b mb bx bs bn nn : Nat} {st N room : Int} {W W' : World} {L L' : List En} (h : NI b mb bx bs bn st W L room nn N) (hx : XV W' b mb L' room nn) (hb : But2 b mb W.heap.size W W') (hne : (bx ≠ b ∧ bx ≠ mb) ∧ (bs ≠ b ∧ bs ≠ mb) ∧ bn ≠ b ∧ bn ≠ mb) : NI b mb bx bs bn st W' L' room nn N :=
  ⟨hx, h.hbx.but2 hb h.hbx.lt hne.1.1 hne.1.2, h.hbs.but2 hb h.hbs.lt hne.2.1.1 hne.2.1.2, h.hbn.but2 hb h.hbn.lt hne.2.2.1 hne.2.2.2⟩
theorem NI.setN {b mb bx bs bn nn : Nat} {st N room : Int} {W : World} {L : List En} (h : NI b mb bx bs bn st W L room nn N) (M : Int) (hne : bx ≠ bn ∧ bs ≠ bn ∧ b ≠ bn ∧ mb ≠ bn) : NI b mb bx bs bn st (W.setCell ⟨bn, 0, none⟩ (.int .i64 M)) L room nn M :=
  have q : ∀ k, k ≠ bn → (W.setCell ⟨bn, 0, none⟩ (.int .i64 M)).heap[k]? = W.heap[k]? := fun k hk => Below.heap_setCell _ _ _ _ hk
  ⟨h.x.same (q _ hne.2.2.1) (q _ hne.2.2.2), (q _ hne.1).trans h.hbx, (q _ hne.2.1).trans h.hbs, h.hbn.set 0 _⟩
theorem keepsFrom_but2 {r q n m : Nat} {W W' : World} (h : But2 r q n W W') (hn : W.heap.size ≤ n) (hr : r < m) (hq : q < m) : KeepsFrom m W W' :=
  ⟨h.size, fun k o hm hk _ => (h.block k (by have := (Array.getElem?_eq_some_iff.1 hk).1; omega) (by omega) (by omega)).trans hk⟩

set_option maxHeartbeats 8000000 in
set_option maxRecDepth 100000 in
theorem nil_in (s : Option Addr) (len cap : Nat) (M : List Op3) (st : Int) (hs0 : 0 ≤ st) (hs1 : st ≤ 255) (hl100 : len ≤ 100) (w : World) (hL : IsO w.heap.size w s len M) (hwf : ∀ x ∈ M, okI x.1 ∧ okI x.2.1 ∧ okI x.2.2) :
    CallsIn Fence.wide 9 Try.prog 7 #[.slice s len cap, .int .u8 st] w fun e w' => e = .returned (.bool true) ∧ Below w.heap.size w w' := by
  have q1 : decide (100 < (len : Int)) = false := by simp; omega
  refine callsIn_of_wp_marks Try.func7 rfl trivial ?_ rfl
  refine wpIn_wide.2 (wp_calm ?_)
  simp only [Try.ntmps7, List.size_toArray, List.length_cons, List.length_nil, Nat.reduceAdd, Nat.reduceSub, Array.replicate_succ, Array.replicate_zero, List.push_toArray, List.append_toArray, List.nil_append, List.cons_append]
  have S0 := bk_new w #[.int .u8 st] 5
  have B0 := below_box w (.cells #[.int .u8 st] 5)
  go_wp2_with fail
  refine (awake_calls _).mono ?_
  rintro x w1 ⟨rfl, b1⟩
  have S1 := S0.below b1 S0.lt
  have B1 := B0.trans (b1.mono B0.size)
  have hn1 : w.heap.size + 1 ≤ w1.heap.size := by have := S1.lt; omega
  clear S0 B0 b1
  go_wp2_with fail
  refine (new_calls 1152921504606846976 _).mono ?_
  rintro x w2 ⟨rfl, X2, b2⟩
  rw [show roomN 1152921504606846976 = 1152921504606846976 by decide] at X2
  have S2 := S1.below b2 S1.lt
  have B2 := B1.trans (b2.mono B1.size)
  have hbl := X2.lt
  have hmb : w.heap.size + 1 ≤ w1.heap.size := hn1
  have hb : w.heap.size + 1 ≤ w1.heap.size + 1 := by omega
  clear S1 B1 b2 hn1
  generalize w1.heap.size + 1 = b at *
  generalize w1.heap.size = mb at *
  clear w1
  have hml := X2.mlt
  have K3 := bk_new w2 #[.pointer (some ⟨b, 0, none⟩)] 24
  have b3 := below_box w2 (.cells #[.pointer (some ⟨b, 0, none⟩)] 24)
  have X3 := X2.below b3 (Nat.le_refl _)
  have S3 := S2.below b3 S2.lt
  have B3 := B2.trans (b3.mono B2.size)
  go_wp2
  generalize w2.alloc (.cells #[.pointer (some ⟨b, 0, none⟩)] 24) = w3 at *
  clear X2 S2 B2 b3
  generalize w2.heap.size = bx at *
  clear w2
  go_loopw [26] (fun iv wr => ∃ (i : Nat) (L : List En), i ≤ len ∧ iv = .int .i64 i ∧ XV wr b mb L 1152921504606846976 i ∧ BK wr bx #[.pointer (some ⟨b, 0, none⟩)] 24 ∧ BK wr w.heap.size #[.int .u8 st] 5 ∧ Below w.heap.size w wr) (fun iv _ => len - (intOf iv).toNat)
  case atStart => exact ⟨0, [], Nat.zero_le _, rfl, X3, K3, S3, B3⟩
  case round =>
    obtain ⟨i, L, hi, rfl, X4, K4, S4, B4⟩ := hrel
    clear X3 K3 S3 B3
    by_cases hlt : i < len
    · obtain ⟨g, off, x, rfl, hg, hx, hc⟩ := hL.at hlt
      have hxw := hwf x (List.mem_of_getElem? hx)
      obtain ⟨c0, c1, c2⟩ := hc _ B4
      have k4 := K4.cell 0 _ rfl
      clear hx
      go_wp2
      refine wp_region_held_drew (S := (fun w' => w'.cell? ⟨bx, 0, none⟩ = some (.pointer (some ⟨b, 0, none⟩)) ∧ w'.cell? ⟨g, off + i * 3, none⟩ = some (.int .i64 x.1) ∧ w'.cell? ⟨g, off + i * 3 + 1, none⟩ = some (.int .i64 x.2.1) ∧ w'.cell? ⟨g, off + i * 3 + 1 + 1, none⟩ = some (.int .i64 x.2.2))) (by kernel_rfl) ⟨k4, c0, c1, c2⟩ (fun hHeld => ?_)
      refine wpAnyH_take (i := 0) (oi := ({ dst := some 29, op := Op.load 24 (Operand.tmp 5), type := 24, pos := _, after := #[], guard := none } : Oper)) (v := ?_) rfl (by kernel_rfl) (by kernel_rfl) (by kernel_rfl) (fun _ _ _ h => h) (Or.inl ⟨by rfl, ?_⟩) hHeld ?_
      rotate_left
      · (intro w hS; go_simp; try with_reducible rfl)
      try simp only [Act.put, List.setIfInBounds_toArray, List.set_cons_zero, List.set_cons_succ]
      refine wpAnyH_take (i := 1) (oi := ({ dst := some 30, op := Op.move (Operand.tmp 0), type := 22, pos := _, after := #[], guard := none } : Oper)) (v := ?_) rfl (by kernel_rfl) (by kernel_rfl) (by kernel_rfl) (fun _ _ _ h => h) (Or.inl ⟨by rfl, ?_⟩) hHeld ?_
      rotate_left
      · (intro w hS; go_simp; try with_reducible rfl)
      try simp only [Act.put, List.setIfInBounds_toArray, List.set_cons_zero, List.set_cons_succ]
      refine wpAnyH_take (i := 2) (oi := ({ dst := some 31, op := Op.move (Operand.tmp 6), type := 3, pos := _, after := #[], guard := none } : Oper)) (v := ?_) rfl (by kernel_rfl) (by kernel_rfl) (by kernel_rfl) (fun _ _ _ h => h) (Or.inl ⟨by rfl, ?_⟩) hHeld ?_
      rotate_left
      · (intro w hS; go_simp; try with_reducible rfl)
      try simp only [Act.put, List.setIfInBounds_toArray, List.set_cons_zero, List.set_cons_succ]
      refine wpAnyH_take (i := 3) (oi := ({ dst := some 32, op := Op.indexAddr 22 (Operand.tmp 30) (Operand.tmp 31), type := 0, pos := _, after := #[{ on := 1, ground := Ground.data }, { on := 2, ground := Ground.data }], guard := none } : Oper)) (v := ?_) rfl (by kernel_rfl) (by kernel_rfl) (by kernel_rfl) (fun _ _ _ h => h) (Or.inl ⟨by rfl, ?_⟩) hHeld ?_
      rotate_left
      · (intro w hS; go_simp; try with_reducible rfl)
      try simp only [Act.put, List.setIfInBounds_toArray, List.set_cons_zero, List.set_cons_succ]
      refine wpAnyH_take (i := 4) (oi := ({ dst := some 33, op := Op.load 29 (Operand.tmp 32), type := 29, pos := _, after := #[{ on := 3, ground := Ground.data }], guard := none } : Oper)) (v := ?_) rfl (by kernel_rfl) (by kernel_rfl) (by kernel_rfl) (fun _ _ _ h => h) (Or.inl ⟨by rfl, ?_⟩) hHeld ?_
      rotate_left
      · (intro w hS; go_simp; try with_reducible rfl)
      try simp only [Act.put, List.setIfInBounds_toArray, List.set_cons_zero, List.set_cons_succ]
      refine wpAnyH_ready (rs := [5]) (by kernel_rfl) (by simp) ?_
      refine AllReadyH.cons (o := ({ dst := some 34, op := Op.call { callee := Callee.value (Operand.func 12), args := #[Operand.tmp 29, Operand.tmp 33], argTypes := #[24, 29] }, type := 31, pos := _, after := #[{ on := 0, ground := Ground.data }, { on := 4, ground := Ground.data }], guard := none } : Oper)) rfl (fun K hK => ?_) AllReadyH.nil
      refine step_call (do_calls X4.drew (by omega) x hxw) (enters_of Try.func12 (by kernel_rfl) rfl) _ _ rfl rfl rfl ?_
      rintro e w5 ⟨rfl, X5, q5⟩
      have B5 := (show Below w.heap.size w wr.drew from B4.drew).trans (q5.below B4.size (by omega) (by omega))
      have K5 := BK.but2 (show BK wr.drew _ _ _ from K4) q5 K4.lt (by omega) (by omega)
      have S5 := BK.but2 (show BK wr.drew _ _ _ from S4) q5 S4.lt (by omega) (by omega)
      refine ⟨_, rfl, hK.out _ _ ⟨K5.cell 0 _ rfl, hc _ B5⟩ (fun hHeld => ?_)⟩
      clear hK K
      try simp only [Act.put, List.setIfInBounds_toArray, List.set_cons_zero, List.set_cons_succ]
      refine wpAnyH_done (by kernel_rfl) ?_ _
      skip
      clear X4 K4 S4 B4 q5 c0 c1 c2 k4
      go_wp2
      go_roundw
      case rel => exact ⟨i + 1, _, by omega, by go_num, X5, K5, S5, B5⟩
      case measure => simp [intOf]; omega
    · obtain rfl : i = len := by omega
      clear hL hwf hlt
      have k4 := K4.cell 0 _ rfl
      have hL1 : L.length ≤ 1000 := by have := X4.len; omega
      go_wp2_with fail
      refine (lall_calls X4 (by omega) hL1).mono ?_
      rintro e w5 ⟨a5, c5, rfl, E5, b5⟩
      clear E5
      have X5 := X4.below b5 (Nat.le_refl _)
      have K5 := K4.below b5 K4.lt
      have S5 := S4.below b5 S4.lt
      have B5 := B4.trans (b5.mono B4.size)
      have hbx : bx < w5.heap.size := K5.lt
      have hbb := X5.lt
      have hbm := X5.mlt
      clear X4 K4 S4 B4 b5 k4
      have b6 := below_box w5 (.cells #[.int .i64 0] 3)
      have N6 := bk_new w5 #[.int .i64 0] 3
      have I6 : NI b mb bx w.heap.size w5.heap.size st (w5.alloc (.cells #[.int .i64 0] 3)) L 1152921504606846976 i 0 :=
        ⟨X5.below b6 (Nat.le_refl _), K5.below b6 K5.lt, S5.below b6 S5.lt, N6⟩
      have B6 := B5.trans (b6.mono B5.size)
      have k6 := I6.hbx.cell 0 _ rfl
      have b7 := below_box (w5.alloc (.cells #[.int .i64 0] 3)) (.cells #[.pointer (some ⟨b, 0, none⟩)] 24)
      have I7 := I6.below b7 (Nat.le_refl _)
      have B7 := B6.trans (b7.mono B6.size)
      have P7 := bk_new (w5.alloc (.cells #[.int .i64 0] 3)) #[.pointer (some ⟨b, 0, none⟩)] 24
      have hs7 : ((w5.alloc (.cells #[.int .i64 0] 3)).alloc (.cells #[.pointer (some ⟨b, 0, none⟩)] 24)).heap.size = w5.heap.size + 2 := by simp
      simp only [World.size_alloc] at P7
      have k5 := K5.cell 0 _ rfl
      clear b6 b7 N6 X5 K5 S5 B5 I6 B6
      go_wp2_with fail
      refine (all_calls _ _ rfl rfl).mono ?_
      rintro e w8 ⟨rfl, e8⟩
      rw [e8]
      clear e8 k5 k6
      rw [World.size_alloc]
      generalize (w5.alloc (.cells #[.int .i64 0] 3)).alloc (.cells #[.pointer (some ⟨b, 0, none⟩)] 24) = W0 at *
      generalize w5.heap.size = bn at *
      clear w5
      go_wp2
      rename_i KK hKK
      have hsrt := I7.x.ok.srt
      have hlen100 : L.length ≤ 100 := by have := I7.x.len; omega
      have HKO : Hid (∀ x ∈ L, okI x.1) := fun x hx => by
        obtain ⟨DD, hm1, hm2⟩ := I7.x.map
        exact keys_ok hm1 hm2 hsrt hx
      have TAIL : ∀ (D : Nat) (W : World) (T : List En) (nn : Int), NI b mb bx w.heap.size bn st W T 1152921504606846976 i nn → nn = min (L.length : Int) (st + 1) → (T.length : Int) = L.length - nn → Below w.heap.size w W → bn + 2 ≤ D → W.heap[D]? = some (.deferred (some [])) →
          KK { tmps := #[.slice s i cap, .int .u8 st, undef, .pointer (some ⟨w.heap.size, 0, none⟩), .bool false, .pointer (some ⟨bx, 0, none⟩), u6, .int .i64 (L.length : Int), .pointer (some ⟨bn, 0, none⟩), undef, undef, undef, undef, undef, undef, .bool true, .bool false, .bool false, .slice s i cap, .int .i64 (i : Int), .bool false, .bool false, undef, .pointer (some ⟨b, 0, none⟩), .slice s i cap, .int .i64 (i : Int), .int .i64 (i : Int), .bool false, u28, u29, u30, u31, u32, u33, u34, u35, .pointer (some ⟨b, 0, none⟩), .slice a5 L.length c5, .int .i64 (L.length : Int), .pointer (some ⟨b, 0, none⟩), .func (.func 30) #[] #[.pointer (some ⟨bn + 1, 0, none⟩)], undef, undef, undef, undef, undef, undef, undef, undef, undef, undef, undef, undef, undef, undef, undef, undef, undef, undef, undef, undef, undef, undef, undef, undef, undef, undef, undef, undef, undef, undef, undef, undef, undef, undef, undef, undef, undef, undef, undef, undef, undef, undef, undef, undef, undef, undef, undef, undef, undef, undef, undef, undef, undef, undef, undef, undef, undef, undef, undef, undef, undef, undef, undef, undef, undef, undef, undef, undef, undef], defers := [{ target := .collected D, args := #[] }] } W := by
        intro D W T nn I8 hnn hT8 B8 hD8 hd8
        have hDlt : D < W.heap.size := (Array.getElem?_eq_some_iff.1 hd8).1
        have k8 := I8.hbx.cell 0 _ rfl
        have n8 := I8.hbn.cell 0 _ rfl
        have s8 := I8.hbs.cell 0 _ rfl
        have hmin : (if st + 1 < (L.length : Int) then st + 1 else (L.length : Int)) = nn := by rw [hnn]; split <;> omega
        have hmin2 : min (L.length : Int) (st + 1) = nn := hnn.symm
        have hw7 : IntKind.i64.wrap st = st := by rw [IntKind.wrap_i64]; omega
        have hw8 : IntKind.i64.wrap (st + 1) = st + 1 := by rw [IntKind.wrap_i64]; omega
        have hw9 : IntKind.i64.wrap ((L.length : Int) - nn) = (L.length : Int) - nn := by rw [IntKind.wrap_i64]; omega
        have hne : (nn == nn) = true := by simp
        have hT8' : Hid ((T.length : Int) = (L.length : Int) - nn) := hT8
        have hne2 : ((L.length : Int) - nn == (L.length : Int) - nn) = true := by simp
        have hTl : T.length ≤ 1000 := by omega
        have I8d : NI b mb bx w.heap.size bn st W.drew T 1152921504606846976 i nn := I8.below (Below.refl W.heap.size W).drew (Nat.le_refl _)
        clear hnn hT8 I7 B7 P7 hsrt HKO
        go_wp2_with fail
        refine (free_nil 1 _).mono ?_
        rintro e v1 ⟨rfl, e1⟩
        rw [e1]
        clear e1
        go_wp2_with fail
        refine (get_nil 1 _).mono ?_
        rintro e v2 ⟨rfl, e2⟩
        rw [e2]
        clear e2
        go_wp2_with fail
        refine wp_region_held_drew (S := (fun w' => w'.cell? ⟨bn, 0, none⟩ = some (.int .i64 nn) ∧ w'.cell? ⟨w.heap.size, 0, none⟩ = some (.int .u8 st) ∧ w'.cell? ⟨bx, 0, none⟩ = some (.pointer (some ⟨b, 0, none⟩)))) (by kernel_rfl) ⟨n8, s8, k8⟩ (fun hHeld => ?_)
        refine wpAnyH_take (i := 0) (oi := ({ dst := some 62, op := Op.load 3 (Operand.tmp 8), type := 3, pos := _, after := #[], guard := none } : Oper)) (v := ?_) rfl (by kernel_rfl) (by kernel_rfl) (by kernel_rfl) (fun _ _ _ h => h) (Or.inl ⟨by rfl, ?_⟩) hHeld ?_
        rotate_left
        · (intro w hS; go_simp; try with_reducible rfl)
        try simp only [Act.put, List.setIfInBounds_toArray, List.set_cons_zero, List.set_cons_succ]
        refine wpAnyH_take (i := 1) (oi := ({ dst := some 63, op := Op.move (Operand.tmp 7), type := 3, pos := _, after := #[], guard := none } : Oper)) (v := ?_) rfl (by kernel_rfl) (by kernel_rfl) (by kernel_rfl) (fun _ _ _ h => h) (Or.inl ⟨by rfl, ?_⟩) hHeld ?_
        rotate_left
        · (intro w hS; go_simp; try with_reducible rfl)
        try simp only [Act.put, List.setIfInBounds_toArray, List.set_cons_zero, List.set_cons_succ]
        refine wpAnyH_take (i := 2) (oi := ({ dst := some 64, op := Op.load 5 (Operand.tmp 3), type := 5, pos := _, after := #[], guard := none } : Oper)) (v := ?_) rfl (by kernel_rfl) (by kernel_rfl) (by kernel_rfl) (fun _ _ _ h => h) (Or.inl ⟨by rfl, ?_⟩) hHeld ?_
        rotate_left
        · (intro w hS; go_simp; try with_reducible rfl)
        try simp only [Act.put, List.setIfInBounds_toArray, List.set_cons_zero, List.set_cons_succ]
        refine wpAnyH_take (i := 3) (oi := ({ dst := some 65, op := Op.convert 5 3 (Operand.tmp 64), type := 3, pos := _, after := #[{ on := 2, ground := Ground.data }], guard := none } : Oper)) (v := ?_) rfl (by kernel_rfl) (by kernel_rfl) (by kernel_rfl) (fun _ _ _ h => h) (Or.inl ⟨by rfl, ?_⟩) hHeld ?_
        rotate_left
        · (intro w hS; go_simp; try with_reducible rfl)
        try simp only [Act.put, List.setIfInBounds_toArray, List.set_cons_zero, List.set_cons_succ]
        try rw [hw7]
        refine wpAnyH_take (i := 4) (oi := ({ dst := some 66, op := Op.binOp BinOp.add 3 (Operand.tmp 65) (Operand.const (Value.int IntKind.i64 1)) 3, type := 3, pos := _, after := #[{ on := 3, ground := Ground.data }], guard := none } : Oper)) (v := ?_) rfl (by kernel_rfl) (by kernel_rfl) (by kernel_rfl) (fun _ _ _ h => h) (Or.inl ⟨by rfl, ?_⟩) hHeld ?_
        rotate_left
        · (intro w hS; go_simp; try with_reducible rfl)
        try simp only [Act.put, List.setIfInBounds_toArray, List.set_cons_zero, List.set_cons_succ]
        try rw [hw8]
        refine wpAnyH_take (i := 5) (oi := ({ dst := some 67, op := Op.call { callee := Callee.builtin Builtin.min, args := #[Operand.tmp 63, Operand.tmp 66], argTypes := #[3, 3] }, type := 3, pos := _, after := #[{ on := 1, ground := Ground.data }, { on := 4, ground := Ground.data }], guard := none } : Oper)) (v := ?_) rfl (by kernel_rfl) (by kernel_rfl) (by kernel_rfl) (fun _ _ _ h => h) (Or.inl ⟨by rfl, ?_⟩) hHeld ?_
        rotate_left
        · (intro w hS; go_simp; try with_reducible rfl)
        try simp only [Act.put, List.setIfInBounds_toArray, List.set_cons_zero, List.set_cons_succ]
        first | rw [hmin] | rw [hmin2] | skip
        refine wpAnyH_take (i := 6) (oi := ({ dst := some 68, op := Op.binOp BinOp.eql 3 (Operand.tmp 62) (Operand.tmp 67) 3, type := 4, pos := _, after := #[{ on := 0, ground := Ground.data }, { on := 5, ground := Ground.data }], guard := none } : Oper)) (v := ?_) rfl (by kernel_rfl) (by kernel_rfl) (by kernel_rfl) (fun _ _ _ h => h) (Or.inl ⟨by rfl, ?_⟩) hHeld ?_
        rotate_left
        · (intro w hS; go_simp; try with_reducible rfl)
        try simp only [Act.put, List.setIfInBounds_toArray, List.set_cons_zero, List.set_cons_succ]
        try rw [hne]
        refine wpAnyH_take (i := 7) (oi := ({ dst := some 69, op := Op.move (Operand.tmp 68), type := 4, pos := _, after := #[{ on := 6, ground := Ground.data }], guard := none } : Oper)) (v := ?_) rfl (by kernel_rfl) (by kernel_rfl) (by kernel_rfl) (fun _ _ _ h => h) (Or.inl ⟨by rfl, ?_⟩) hHeld ?_
        rotate_left
        · (intro w hS; go_simp; try with_reducible rfl)
        try simp only [Act.put, List.setIfInBounds_toArray, List.set_cons_zero, List.set_cons_succ]
        refine wpAnyH_take (i := 8) (oi := ({ dst := some 70, op := Op.load 24 (Operand.tmp 5), type := 24, pos := _, after := #[{ on := 7, ground := Ground.guard }], guard := some (7, true) } : Oper)) (v := ?_) rfl (by kernel_rfl) (by kernel_rfl) (by kernel_rfl) (fun _ _ _ h => h) (Or.inl ⟨by rfl, ?_⟩) hHeld ?_
        rotate_left
        · (intro w hS; go_simp; try with_reducible rfl)
        try simp only [Act.put, List.setIfInBounds_toArray, List.set_cons_zero, List.set_cons_succ]
        refine wpAnyH_take (i := 11) (oi := ({ dst := some 73, op := Op.move (Operand.tmp 7), type := 3, pos := _, after := #[{ on := 7, ground := Ground.guard }], guard := some (7, true) } : Oper)) (v := ?_) rfl (by kernel_rfl) (by kernel_rfl) (by kernel_rfl) (fun _ _ _ h => h) (Or.inl ⟨by rfl, ?_⟩) hHeld ?_
        rotate_left
        · (intro w hS; go_simp; try with_reducible rfl)
        try simp only [Act.put, List.setIfInBounds_toArray, List.set_cons_zero, List.set_cons_succ]
        refine wpAnyH_take (i := 12) (oi := ({ dst := some 74, op := Op.load 3 (Operand.tmp 8), type := 3, pos := _, after := #[{ on := 7, ground := Ground.guard }], guard := some (7, true) } : Oper)) (v := ?_) rfl (by kernel_rfl) (by kernel_rfl) (by kernel_rfl) (fun _ _ _ h => h) (Or.inl ⟨by rfl, ?_⟩) hHeld ?_
        rotate_left
        · (intro w hS; go_simp; try with_reducible rfl)
        try simp only [Act.put, List.setIfInBounds_toArray, List.set_cons_zero, List.set_cons_succ]
        refine wpAnyH_take (i := 13) (oi := ({ dst := some 75, op := Op.binOp BinOp.sub 3 (Operand.tmp 73) (Operand.tmp 74) 3, type := 3, pos := _, after := #[{ on := 11, ground := Ground.data }, { on := 12, ground := Ground.data }, { on := 7, ground := Ground.guard }], guard := some (7, true) } : Oper)) (v := ?_) rfl (by kernel_rfl) (by kernel_rfl) (by kernel_rfl) (fun _ _ _ h => h) (Or.inl ⟨by rfl, ?_⟩) hHeld ?_
        rotate_left
        · (intro w hS; go_simp; try with_reducible rfl)
        try simp only [Act.put, List.setIfInBounds_toArray, List.set_cons_zero, List.set_cons_succ]
        try rw [hw9]
        refine wpAnyH_ready (rs := [9]) (by kernel_rfl) (by simp) ?_
        refine AllReadyH.cons (o := ({ dst := some 71, op := Op.call { callee := Callee.value (Operand.func 22), args := #[Operand.tmp 70], argTypes := #[24] }, type := 37, pos := _, after := #[{ on := 8, ground := Ground.data }, { on := 7, ground := Ground.chain }, { on := 7, ground := Ground.guard }], guard := some (7, true) } : Oper)) rfl (fun K hK => ?_) AllReadyH.nil
        refine step_call (lall_calls I8d.x (by omega) hTl) (enters_of Try.func22 (by kernel_rfl) rfl) _ _ rfl rfl rfl ?_
        rintro e w9 ⟨a9, c9, rfl, E9, b9⟩
        have I9 := I8d.below b9 (Nat.le_refl _)
        have n9 := I9.hbn.cell 0 _ rfl
        have s9 := I9.hbs.cell 0 _ rfl
        have k9 := I9.hbx.cell 0 _ rfl
        clear E9
        refine ⟨_, rfl, hK.out _ _ ⟨n9, s9, k9⟩ (fun hHeld => ?_)⟩
        clear hK K
        try simp only [Act.put, List.setIfInBounds_toArray, List.set_cons_zero, List.set_cons_succ]
        refine wpAnyH_take (i := 10) (oi := ({ dst := some 72, op := Op.call { callee := Callee.builtin Builtin.len, args := #[Operand.tmp 71], argTypes := #[37] }, type := 3, pos := _, after := #[{ on := 9, ground := Ground.data }, { on := 7, ground := Ground.guard }], guard := some (7, true) } : Oper)) (v := ?_) rfl (by kernel_rfl) (by kernel_rfl) (by kernel_rfl) (fun _ _ _ h => h) (Or.inl ⟨by rfl, ?_⟩) hHeld ?_
        rotate_left
        · (intro w hS; go_simp; try with_reducible rfl)
        try simp only [Act.put, List.setIfInBounds_toArray, List.set_cons_zero, List.set_cons_succ]
        try rw [hT8'.out]
        refine wpAnyH_take (i := 14) (oi := ({ dst := some 76, op := Op.binOp BinOp.eql 3 (Operand.tmp 72) (Operand.tmp 75) 3, type := 4, pos := _, after := #[{ on := 10, ground := Ground.data }, { on := 13, ground := Ground.data }, { on := 7, ground := Ground.guard }], guard := some (7, true) } : Oper)) (v := ?_) rfl (by kernel_rfl) (by kernel_rfl) (by kernel_rfl) (fun _ _ _ h => h) (Or.inl ⟨by rfl, ?_⟩) hHeld ?_
        rotate_left
        · (intro w hS; go_simp; try with_reducible rfl)
        try simp only [Act.put, List.setIfInBounds_toArray, List.set_cons_zero, List.set_cons_succ]
        try rw [hne2]
        refine wpAnyH_take (i := 15) (oi := ({ dst := some 77, op := Op.pick (Operand.tmp 69) (Operand.tmp 76) (Operand.const (Value.bool false)), type := 4, pos := _, after := #[{ on := 7, ground := Ground.data }, { on := 14, ground := Ground.data }], guard := none } : Oper)) (v := ?_) rfl (by kernel_rfl) (by kernel_rfl) (by kernel_rfl) (fun _ _ _ h => h) (Or.inl ⟨by rfl, ?_⟩) hHeld ?_
        rotate_left
        · (intro w hS; go_simp; try with_reducible rfl)
        try simp only [Act.put, List.setIfInBounds_toArray, List.set_cons_zero, List.set_cons_succ]
        refine wpAnyH_take (i := 16) (oi := ({ dst := some 78, op := Op.move (Operand.tmp 77), type := 4, pos := _, after := #[{ on := 15, ground := Ground.data }, { on := 9, ground := Ground.chain }], guard := none } : Oper)) (v := ?_) rfl (by kernel_rfl) (by kernel_rfl) (by kernel_rfl) (fun _ _ _ h => h) (Or.inl ⟨by rfl, ?_⟩) hHeld ?_
        rotate_left
        · (intro w hS; go_simp; try with_reducible rfl)
        try simp only [Act.put, List.setIfInBounds_toArray, List.set_cons_zero, List.set_cons_succ]
        refine wpAnyH_take (i := 17) (oi := ({ dst := some 79, op := Op.move (Operand.tmp 10), type := 24, pos := _, after := #[{ on := 16, ground := Ground.guard }], guard := some (16, true) } : Oper)) (v := ?_) rfl (by kernel_rfl) (by kernel_rfl) (by kernel_rfl) (fun _ _ _ h => h) (Or.inl ⟨by rfl, ?_⟩) hHeld ?_
        rotate_left
        · (intro w hS; go_simp; try with_reducible rfl)
        try simp only [Act.put, List.setIfInBounds_toArray, List.set_cons_zero, List.set_cons_succ]
        refine wpAnyH_ready (rs := [18]) (by kernel_rfl) (by simp) ?_
        refine AllReadyH.cons (o := ({ dst := some 80, op := Op.call { callee := Callee.value (Operand.func 24), args := #[Operand.tmp 79, Operand.const (Value.int IntKind.i64 1), Operand.const (Value.int IntKind.i64 0)], argTypes := #[24, 3, 3] }, type := 30, pos := _, after := #[{ on := 17, ground := Ground.data }, { on := 16, ground := Ground.chain }, { on := 16, ground := Ground.guard }], guard := some (16, true) } : Oper)) rfl (fun K hK => ?_) AllReadyH.nil
        refine step_call (book_nil 1 0 _) (enters_of Try.func24 (by kernel_rfl) rfl) _ _ rfl rfl rfl ?_
        rintro e w10 ⟨rfl, e10⟩
        rw [e10]
        clear e10
        refine ⟨_, rfl, hK.out _ _ ⟨n9, s9, k9⟩ (fun hHeld => ?_)⟩
        clear hK K
        try simp only [Act.put, List.setIfInBounds_toArray, List.set_cons_zero, List.set_cons_succ]
        refine wpAnyH_take (i := 19) (oi := ({ dst := some 81, op := Op.binOp BinOp.eql 30 (Operand.tmp 80) (Operand.const (Value.int IntKind.i64 9)) 30, type := 4, pos := _, after := #[{ on := 18, ground := Ground.data }, { on := 16, ground := Ground.guard }], guard := some (16, true) } : Oper)) (v := ?_) rfl (by kernel_rfl) (by kernel_rfl) (by kernel_rfl) (fun _ _ _ h => h) (Or.inl ⟨by rfl, ?_⟩) hHeld ?_
        rotate_left
        · (intro w hS; go_simp; try with_reducible rfl)
        try simp only [Act.put, List.setIfInBounds_toArray, List.set_cons_zero, List.set_cons_succ]
        refine wpAnyH_take (i := 20) (oi := ({ dst := some 82, op := Op.pick (Operand.tmp 78) (Operand.tmp 81) (Operand.const (Value.bool false)), type := 4, pos := _, after := #[{ on := 16, ground := Ground.data }, { on := 19, ground := Ground.data }], guard := none } : Oper)) (v := ?_) rfl (by kernel_rfl) (by kernel_rfl) (by kernel_rfl) (fun _ _ _ h => h) (Or.inl ⟨by rfl, ?_⟩) hHeld ?_
        rotate_left
        · (intro w hS; go_simp; try with_reducible rfl)
        try simp only [Act.put, List.setIfInBounds_toArray, List.set_cons_zero, List.set_cons_succ]
        refine wpAnyH_take (i := 21) (oi := ({ dst := some 83, op := Op.move (Operand.tmp 82), type := 4, pos := _, after := #[{ on := 20, ground := Ground.data }, { on := 18, ground := Ground.chain }], guard := none } : Oper)) (v := ?_) rfl (by kernel_rfl) (by kernel_rfl) (by kernel_rfl) (fun _ _ _ h => h) (Or.inl ⟨by rfl, ?_⟩) hHeld ?_
        rotate_left
        · (intro w hS; go_simp; try with_reducible rfl)
        try simp only [Act.put, List.setIfInBounds_toArray, List.set_cons_zero, List.set_cons_succ]
        refine wpAnyH_take (i := 22) (oi := ({ dst := some 84, op := Op.move (Operand.tmp 10), type := 24, pos := _, after := #[{ on := 21, ground := Ground.guard }], guard := some (21, true) } : Oper)) (v := ?_) rfl (by kernel_rfl) (by kernel_rfl) (by kernel_rfl) (fun _ _ _ h => h) (Or.inl ⟨by rfl, ?_⟩) hHeld ?_
        rotate_left
        · (intro w hS; go_simp; try with_reducible rfl)
        try simp only [Act.put, List.setIfInBounds_toArray, List.set_cons_zero, List.set_cons_succ]
        refine wpAnyH_ready (rs := [23]) (by kernel_rfl) (by simp) ?_
        refine AllReadyH.cons (o := ({ dst := some 85, op := Op.call { callee := Callee.value (Operand.func 25), args := #[Operand.tmp 84, Operand.const (Value.int IntKind.i64 1), Operand.const (Value.int IntKind.i64 0)], argTypes := #[24, 3, 3] }, type := 30, pos := _, after := #[{ on := 22, ground := Ground.data }, { on := 21, ground := Ground.chain }, { on := 21, ground := Ground.guard }], guard := some (21, true) } : Oper)) rfl (fun K hK => ?_) AllReadyH.nil
        refine step_call (chg_nil 1 0 _) (enters_of Try.func25 (by kernel_rfl) rfl) _ _ rfl rfl rfl ?_
        rintro e w11 ⟨rfl, e11⟩
        rw [e11]
        clear e11
        refine ⟨_, rfl, hK.out _ _ ⟨n9, s9, k9⟩ (fun hHeld => ?_)⟩
        clear hK K
        try simp only [Act.put, List.setIfInBounds_toArray, List.set_cons_zero, List.set_cons_succ]
        refine wpAnyH_take (i := 24) (oi := ({ dst := some 86, op := Op.binOp BinOp.eql 30 (Operand.tmp 85) (Operand.const (Value.int IntKind.i64 9)) 30, type := 4, pos := _, after := #[{ on := 23, ground := Ground.data }, { on := 21, ground := Ground.guard }], guard := some (21, true) } : Oper)) (v := ?_) rfl (by kernel_rfl) (by kernel_rfl) (by kernel_rfl) (fun _ _ _ h => h) (Or.inl ⟨by rfl, ?_⟩) hHeld ?_
        rotate_left
        · (intro w hS; go_simp; try with_reducible rfl)
        try simp only [Act.put, List.setIfInBounds_toArray, List.set_cons_zero, List.set_cons_succ]
        refine wpAnyH_take (i := 25) (oi := ({ dst := some 87, op := Op.pick (Operand.tmp 83) (Operand.tmp 86) (Operand.const (Value.bool false)), type := 4, pos := _, after := #[{ on := 21, ground := Ground.data }, { on := 24, ground := Ground.data }], guard := none } : Oper)) (v := ?_) rfl (by kernel_rfl) (by kernel_rfl) (by kernel_rfl) (fun _ _ _ h => h) (Or.inl ⟨by rfl, ?_⟩) hHeld ?_
        rotate_left
        · (intro w hS; go_simp; try with_reducible rfl)
        try simp only [Act.put, List.setIfInBounds_toArray, List.set_cons_zero, List.set_cons_succ]
        refine wpAnyH_take (i := 26) (oi := ({ dst := some 88, op := Op.move (Operand.tmp 87), type := 4, pos := _, after := #[{ on := 25, ground := Ground.data }, { on := 23, ground := Ground.chain }], guard := none } : Oper)) (v := ?_) rfl (by kernel_rfl) (by kernel_rfl) (by kernel_rfl) (fun _ _ _ h => h) (Or.inl ⟨by rfl, ?_⟩) hHeld ?_
        rotate_left
        · (intro w hS; go_simp; try with_reducible rfl)
        try simp only [Act.put, List.setIfInBounds_toArray, List.set_cons_zero, List.set_cons_succ]
        refine wpAnyH_take (i := 27) (oi := ({ dst := some 89, op := Op.move (Operand.tmp 12), type := 4, pos := _, after := #[{ on := 26, ground := Ground.guard }], guard := some (26, true) } : Oper)) (v := ?_) rfl (by kernel_rfl) (by kernel_rfl) (by kernel_rfl) (fun _ _ _ h => h) (Or.inl ⟨by rfl, ?_⟩) hHeld ?_
        rotate_left
        · (intro w hS; go_simp; try with_reducible rfl)
        try simp only [Act.put, List.setIfInBounds_toArray, List.set_cons_zero, List.set_cons_succ]
        refine wpAnyH_take (i := 28) (oi := ({ dst := some 90, op := Op.unOp UnOp.not 4 (Operand.tmp 89), type := 4, pos := _, after := #[{ on := 27, ground := Ground.data }, { on := 26, ground := Ground.guard }], guard := some (26, true) } : Oper)) (v := ?_) rfl (by kernel_rfl) (by kernel_rfl) (by kernel_rfl) (fun _ _ _ h => h) (Or.inl ⟨by rfl, ?_⟩) hHeld ?_
        rotate_left
        · (intro w hS; go_simp; try with_reducible rfl)
        try simp only [Act.put, List.setIfInBounds_toArray, List.set_cons_zero, List.set_cons_succ]
        refine wpAnyH_take (i := 29) (oi := ({ dst := some 91, op := Op.pick (Operand.tmp 88) (Operand.tmp 90) (Operand.const (Value.bool false)), type := 4, pos := _, after := #[{ on := 26, ground := Ground.data }, { on := 28, ground := Ground.data }], guard := none } : Oper)) (v := ?_) rfl (by kernel_rfl) (by kernel_rfl) (by kernel_rfl) (fun _ _ _ h => h) (Or.inl ⟨by rfl, ?_⟩) hHeld ?_
        rotate_left
        · (intro w hS; go_simp; try with_reducible rfl)
        try simp only [Act.put, List.setIfInBounds_toArray, List.set_cons_zero, List.set_cons_succ]
        refine wpAnyH_take (i := 30) (oi := ({ dst := some 92, op := Op.move (Operand.tmp 91), type := 4, pos := _, after := #[{ on := 29, ground := Ground.data }, { on := 26, ground := Ground.chain }], guard := none } : Oper)) (v := ?_) rfl (by kernel_rfl) (by kernel_rfl) (by kernel_rfl) (fun _ _ _ h => h) (Or.inl ⟨by rfl, ?_⟩) hHeld ?_
        rotate_left
        · (intro w hS; go_simp; try with_reducible rfl)
        try simp only [Act.put, List.setIfInBounds_toArray, List.set_cons_zero, List.set_cons_succ]
        refine wpAnyH_take (i := 31) (oi := ({ dst := some 93, op := Op.move (Operand.tmp 14), type := 4, pos := _, after := #[{ on := 30, ground := Ground.guard }], guard := some (30, true) } : Oper)) (v := ?_) rfl (by kernel_rfl) (by kernel_rfl) (by kernel_rfl) (fun _ _ _ h => h) (Or.inl ⟨by rfl, ?_⟩) hHeld ?_
        rotate_left
        · (intro w hS; go_simp; try with_reducible rfl)
        try simp only [Act.put, List.setIfInBounds_toArray, List.set_cons_zero, List.set_cons_succ]
        refine wpAnyH_take (i := 32) (oi := ({ dst := some 94, op := Op.unOp UnOp.not 4 (Operand.tmp 93), type := 4, pos := _, after := #[{ on := 31, ground := Ground.data }, { on := 30, ground := Ground.guard }], guard := some (30, true) } : Oper)) (v := ?_) rfl (by kernel_rfl) (by kernel_rfl) (by kernel_rfl) (fun _ _ _ h => h) (Or.inl ⟨by rfl, ?_⟩) hHeld ?_
        rotate_left
        · (intro w hS; go_simp; try with_reducible rfl)
        try simp only [Act.put, List.setIfInBounds_toArray, List.set_cons_zero, List.set_cons_succ]
        refine wpAnyH_take (i := 33) (oi := ({ dst := some 95, op := Op.pick (Operand.tmp 92) (Operand.tmp 94) (Operand.const (Value.bool false)), type := 4, pos := _, after := #[{ on := 30, ground := Ground.data }, { on := 32, ground := Ground.data }], guard := none } : Oper)) (v := ?_) rfl (by kernel_rfl) (by kernel_rfl) (by kernel_rfl) (fun _ _ _ h => h) (Or.inl ⟨by rfl, ?_⟩) hHeld ?_
        rotate_left
        · (intro w hS; go_simp; try with_reducible rfl)
        try simp only [Act.put, List.setIfInBounds_toArray, List.set_cons_zero, List.set_cons_succ]
        refine wpAnyH_take (i := 34) (oi := ({ dst := some 96, op := Op.move (Operand.tmp 95), type := 4, pos := _, after := #[{ on := 33, ground := Ground.data }, { on := 30, ground := Ground.chain }], guard := none } : Oper)) (v := ?_) rfl (by kernel_rfl) (by kernel_rfl) (by kernel_rfl) (fun _ _ _ h => h) (Or.inl ⟨by rfl, ?_⟩) hHeld ?_
        rotate_left
        · (intro w hS; go_simp; try with_reducible rfl)
        try simp only [Act.put, List.setIfInBounds_toArray, List.set_cons_zero, List.set_cons_succ]
        refine wpAnyH_take (i := 35) (oi := ({ dst := some 97, op := Op.move (Operand.tmp 10), type := 24, pos := _, after := #[{ on := 34, ground := Ground.guard }], guard := some (34, true) } : Oper)) (v := ?_) rfl (by kernel_rfl) (by kernel_rfl) (by kernel_rfl) (fun _ _ _ h => h) (Or.inl ⟨by rfl, ?_⟩) hHeld ?_
        rotate_left
        · (intro w hS; go_simp; try with_reducible rfl)
        try simp only [Act.put, List.setIfInBounds_toArray, List.set_cons_zero, List.set_cons_succ]
        refine wpAnyH_take (i := 37) (oi := ({ dst := some 99, op := Op.move (Operand.tmp 10), type := 24, pos := _, after := #[{ on := 34, ground := Ground.guard }], guard := some (34, true) } : Oper)) (v := ?_) rfl (by kernel_rfl) (by kernel_rfl) (by kernel_rfl) (fun _ _ _ h => h) (Or.inl ⟨by rfl, ?_⟩) hHeld ?_
        rotate_left
        · (intro w hS; go_simp; try with_reducible rfl)
        try simp only [Act.put, List.setIfInBounds_toArray, List.set_cons_zero, List.set_cons_succ]
        refine wpAnyH_ready (rs := [36]) (by kernel_rfl) (by simp) ?_
        refine AllReadyH.cons (o := ({ dst := some 98, op := Op.call { callee := Callee.value (Operand.func 18), args := #[Operand.tmp 97], argTypes := #[24] }, type := 3, pos := _, after := #[{ on := 35, ground := Ground.data }, { on := 34, ground := Ground.chain }, { on := 34, ground := Ground.guard }], guard := some (34, true) } : Oper)) rfl (fun K hK => ?_) AllReadyH.nil
        refine step_call (used_nil _) (enters_of Try.func18 (by kernel_rfl) rfl) _ _ rfl rfl rfl ?_
        rintro e w12 ⟨rfl, e12⟩
        rw [e12]
        clear e12
        refine ⟨_, rfl, hK.out _ _ ⟨n9, s9, k9⟩ (fun hHeld => ?_)⟩
        clear hK K
        try simp only [Act.put, List.setIfInBounds_toArray, List.set_cons_zero, List.set_cons_succ]
        refine wpAnyH_ready (rs := [38]) (by kernel_rfl) (by simp) ?_
        refine AllReadyH.cons (o := ({ dst := some 100, op := Op.call { callee := Callee.value (Operand.func 20), args := #[Operand.tmp 99], argTypes := #[24] }, type := 3, pos := _, after := #[{ on := 37, ground := Ground.data }, { on := 36, ground := Ground.chain }, { on := 34, ground := Ground.guard }], guard := some (34, true) } : Oper)) rfl (fun K hK => ?_) AllReadyH.nil
        refine step_call (left_nil _) (enters_of Try.func20 (by kernel_rfl) rfl) _ _ rfl rfl rfl ?_
        rintro e w13 ⟨rfl, e13⟩
        rw [e13]
        clear e13
        refine ⟨_, rfl, hK.out _ _ ⟨n9, s9, k9⟩ (fun hHeld => ?_)⟩
        clear hK K
        try simp only [Act.put, List.setIfInBounds_toArray, List.set_cons_zero, List.set_cons_succ]
        refine wpAnyH_take (i := 39) (oi := ({ dst := some 101, op := Op.binOp BinOp.add 3 (Operand.tmp 98) (Operand.tmp 100) 3, type := 3, pos := _, after := #[{ on := 36, ground := Ground.data }, { on := 38, ground := Ground.data }, { on := 34, ground := Ground.guard }], guard := some (34, true) } : Oper)) (v := ?_) rfl (by kernel_rfl) (by kernel_rfl) (by kernel_rfl) (fun _ _ _ h => h) (Or.inl ⟨by rfl, ?_⟩) hHeld ?_
        rotate_left
        · (intro w hS; go_simp; try with_reducible rfl)
        try simp only [Act.put, List.setIfInBounds_toArray, List.set_cons_zero, List.set_cons_succ]
        refine wpAnyH_take (i := 40) (oi := ({ dst := some 102, op := Op.binOp BinOp.eql 3 (Operand.tmp 101) (Operand.const (Value.int IntKind.i64 0)) 3, type := 4, pos := _, after := #[{ on := 39, ground := Ground.data }, { on := 34, ground := Ground.guard }], guard := some (34, true) } : Oper)) (v := ?_) rfl (by kernel_rfl) (by kernel_rfl) (by kernel_rfl) (fun _ _ _ h => h) (Or.inl ⟨by rfl, ?_⟩) hHeld ?_
        rotate_left
        · (intro w hS; go_simp; try with_reducible rfl)
        try simp only [Act.put, List.setIfInBounds_toArray, List.set_cons_zero, List.set_cons_succ]
        refine wpAnyH_take (i := 41) (oi := ({ dst := some 103, op := Op.pick (Operand.tmp 96) (Operand.tmp 102) (Operand.const (Value.bool false)), type := 4, pos := _, after := #[{ on := 34, ground := Ground.data }, { on := 40, ground := Ground.data }], guard := none } : Oper)) (v := ?_) rfl (by kernel_rfl) (by kernel_rfl) (by kernel_rfl) (fun _ _ _ h => h) (Or.inl ⟨by rfl, ?_⟩) hHeld ?_
        rotate_left
        · (intro w hS; go_simp; try with_reducible rfl)
        try simp only [Act.put, List.setIfInBounds_toArray, List.set_cons_zero, List.set_cons_succ]
        refine wpAnyH_take (i := 42) (oi := ({ dst := some 104, op := Op.move (Operand.tmp 103), type := 4, pos := _, after := #[{ on := 41, ground := Ground.data }, { on := 38, ground := Ground.chain }], guard := none } : Oper)) (v := ?_) rfl (by kernel_rfl) (by kernel_rfl) (by kernel_rfl) (fun _ _ _ h => h) (Or.inl ⟨by rfl, ?_⟩) hHeld ?_
        rotate_left
        · (intro w hS; go_simp; try with_reducible rfl)
        try simp only [Act.put, List.setIfInBounds_toArray, List.set_cons_zero, List.set_cons_succ]
        refine wpAnyH_take (i := 43) (oi := ({ dst := some 105, op := Op.move (Operand.tmp 10), type := 24, pos := _, after := #[{ on := 42, ground := Ground.guard }], guard := some (42, true) } : Oper)) (v := ?_) rfl (by kernel_rfl) (by kernel_rfl) (by kernel_rfl) (fun _ _ _ h => h) (Or.inl ⟨by rfl, ?_⟩) hHeld ?_
        rotate_left
        · (intro w hS; go_simp; try with_reducible rfl)
        try simp only [Act.put, List.setIfInBounds_toArray, List.set_cons_zero, List.set_cons_succ]
        refine wpAnyH_ready (rs := [44]) (by kernel_rfl) (by simp) ?_
        refine AllReadyH.cons (o := ({ dst := some 106, op := Op.call { callee := Callee.value (Operand.func 22), args := #[Operand.tmp 105], argTypes := #[24] }, type := 37, pos := _, after := #[{ on := 43, ground := Ground.data }, { on := 42, ground := Ground.chain }, { on := 42, ground := Ground.guard }], guard := some (42, true) } : Oper)) rfl (fun K hK => ?_) AllReadyH.nil
        refine step_call (lall_nil _) (enters_of Try.func22 (by kernel_rfl) rfl) _ _ rfl rfl rfl ?_
        rintro e w14 ⟨a14, c14, rfl, b14⟩
        have I14 := I9.below b14 (Nat.le_refl _)
        refine ⟨_, rfl, hK.out _ _ ⟨I14.hbn.cell 0 _ rfl, I14.hbs.cell 0 _ rfl, I14.hbx.cell 0 _ rfl⟩ (fun hHeld => ?_)⟩
        clear hK K
        try simp only [Act.put, List.setIfInBounds_toArray, List.set_cons_zero, List.set_cons_succ]
        refine wpAnyH_take (i := 45) (oi := ({ dst := some 107, op := Op.call { callee := Callee.builtin Builtin.len, args := #[Operand.tmp 106], argTypes := #[37] }, type := 3, pos := _, after := #[{ on := 44, ground := Ground.data }, { on := 42, ground := Ground.guard }], guard := some (42, true) } : Oper)) (v := ?_) rfl (by kernel_rfl) (by kernel_rfl) (by kernel_rfl) (fun _ _ _ h => h) (Or.inl ⟨by rfl, ?_⟩) hHeld ?_
        rotate_left
        · (intro w hS; go_simp; try with_reducible rfl)
        try simp only [Act.put, List.setIfInBounds_toArray, List.set_cons_zero, List.set_cons_succ]
        refine wpAnyH_take (i := 46) (oi := ({ dst := some 108, op := Op.binOp BinOp.eql 3 (Operand.tmp 107) (Operand.const (Value.int IntKind.i64 0)) 3, type := 4, pos := _, after := #[{ on := 45, ground := Ground.data }, { on := 42, ground := Ground.guard }], guard := some (42, true) } : Oper)) (v := ?_) rfl (by kernel_rfl) (by kernel_rfl) (by kernel_rfl) (fun _ _ _ h => h) (Or.inl ⟨by rfl, ?_⟩) hHeld ?_
        rotate_left
        · (intro w hS; go_simp; try with_reducible rfl)
        try simp only [Act.put, List.setIfInBounds_toArray, List.set_cons_zero, List.set_cons_succ]
        refine wpAnyH_take (i := 47) (oi := ({ dst := some 109, op := Op.pick (Operand.tmp 104) (Operand.tmp 108) (Operand.const (Value.bool false)), type := 4, pos := _, after := #[{ on := 42, ground := Ground.data }, { on := 46, ground := Ground.data }], guard := none } : Oper)) (v := ?_) rfl (by kernel_rfl) (by kernel_rfl) (by kernel_rfl) (fun _ _ _ h => h) (Or.inl ⟨by rfl, ?_⟩) hHeld ?_
        rotate_left
        · (intro w hS; go_simp; try with_reducible rfl)
        try simp only [Act.put, List.setIfInBounds_toArray, List.set_cons_zero, List.set_cons_succ]
        refine wpAnyH_take (i := 48) (oi := ({ dst := some 4, op := Op.assign (Operand.tmp 109), type := 4, pos := _, after := #[{ on := 47, ground := Ground.data }, { on := 44, ground := Ground.chain }, { on := 0, ground := Ground.phase }, { on := 1, ground := Ground.phase }, { on := 2, ground := Ground.phase }, { on := 3, ground := Ground.phase }, { on := 4, ground := Ground.phase }, { on := 5, ground := Ground.phase }, { on := 6, ground := Ground.phase }, { on := 7, ground := Ground.phase }, { on := 8, ground := Ground.phase }, { on := 9, ground := Ground.phase }, { on := 10, ground := Ground.phase }, { on := 11, ground := Ground.phase }, { on := 12, ground := Ground.phase }, { on := 13, ground := Ground.phase }, { on := 14, ground := Ground.phase }, { on := 15, ground := Ground.phase }, { on := 16, ground := Ground.phase }, { on := 17, ground := Ground.phase }, { on := 18, ground := Ground.phase }, { on := 19, ground := Ground.phase }, { on := 20, ground := Ground.phase }, { on := 21, ground := Ground.phase }, { on := 22, ground := Ground.phase }, { on := 23, ground := Ground.phase }, { on := 24, ground := Ground.phase }, { on := 25, ground := Ground.phase }, { on := 26, ground := Ground.phase }, { on := 27, ground := Ground.phase }, { on := 28, ground := Ground.phase }, { on := 29, ground := Ground.phase }, { on := 30, ground := Ground.phase }, { on := 31, ground := Ground.phase }, { on := 32, ground := Ground.phase }, { on := 33, ground := Ground.phase }, { on := 34, ground := Ground.phase }, { on := 35, ground := Ground.phase }, { on := 36, ground := Ground.phase }, { on := 37, ground := Ground.phase }, { on := 38, ground := Ground.phase }, { on := 39, ground := Ground.phase }, { on := 40, ground := Ground.phase }, { on := 41, ground := Ground.phase }, { on := 42, ground := Ground.phase }, { on := 43, ground := Ground.phase }, { on := 44, ground := Ground.phase }, { on := 45, ground := Ground.phase }, { on := 46, ground := Ground.phase }, { on := 47, ground := Ground.phase }], guard := none } : Oper)) (v := ?_) rfl (by kernel_rfl) (by kernel_rfl) (by kernel_rfl) (fun _ _ _ h => h) (Or.inl ⟨by rfl, ?_⟩) hHeld ?_
        rotate_left
        · (intro w hS; go_simp; try with_reducible rfl)
        try simp only [Act.put, List.setIfInBounds_toArray, List.set_cons_zero, List.set_cons_succ]
        refine wpAnyH_done (by kernel_rfl) ?_ _
        skip
        have hd9 : W.drew.heap[D]? = some (.deferred (some [])) := hd8
        have b15 : Below W.drew.heap.size W.drew w14 := b9.trans (b14.mono b9.size)
        have hdF : w14.heap[D]? = some (.deferred (some [])) := (b15.block D hDlt).trans hd9
        have BF : Below w.heap.size w w14 := (show Below w.heap.size w W.drew from B8.drew).trans (b15.mono B8.size)
        go_wp2
        refine ⟨by simp, .inl ⟨D, _, rfl, run_takeDeferred hdF, ?_⟩⟩
        exact ⟨_, results_tmp rfl _ _ _, rfl, BF.trans ⟨rfl, rfl, rfl, by simp, fun k hk => World.putObj_heap_other (by omega)⟩⟩
      refine (wpIn_wide (n := 9)).1 ?_
      refine wpIn_rangeFunc_ownH (α := { x : En // x ∈ L }) rfl (by omega) (gf := 30) (lb := #[.pointer (some ⟨bn + 1, 0, none⟩)]) rfl trivial (enters_of Try.func30 (by kernel_rfl) rfl)
        (all_stops (9 - 1) (by omega) (bn + 1) b mb i L 1152921504606846976 W0 (by omega) (P7.cell 0 _ rfl) I7.x (by omega)) Kt.trans Kt.put (Below.refl _ _) (fun _ => rfl)
        (fun (pre : List { x : En // x ∈ L }) W => NI b mb bx w.heap.size bn st W (dels L (pre.map fun (y : { x : En // x ∈ L }) => y.1)) 1152921504606846976 i (pre.length : Int) ∧ (pre.length : Int) ≤ st ∧ Below w.heap.size w W ∧ bn + 2 ≤ W.heap.size)
        (fun cd (pre : List { x : En // x ∈ L }) W => cd = .exit 2 ∧ NI b mb bx w.heap.size bn st W (dels L (pre.map fun (y : { x : En // x ∈ L }) => y.1)) 1152921504606846976 i (pre.length : Int) ∧ (pre.length : Int) = st + 1 ∧ Below w.heap.size w W ∧ bn + 2 ≤ W.heap.size)
        (fun (pre : List { x : En // x ∈ L }) X Y row hh hg hr => ⟨hh.1.grown (B := W0.heap.size) hg (fun r e => (hr r e).1) (by omega), hh.2.1, (ownFrom_below (β := Unit) (by omega) (Nat.le_refl _)) () X Y row hh.2.2.1 hg hr, Nat.le_trans hh.2.2.2 hg.size⟩)
        (fun cd (pre : List { x : En // x ∈ L }) X Y row hh hg hr => by
          obtain ⟨h1, h2, h3, h4, h5⟩ := hh
          exact ⟨h1, h2.grown (B := W0.heap.size) hg (fun r e => (hr r e).1) (by omega), h3, (ownFrom_below (β := Unit) (by omega) (Nat.le_refl _)) () X Y row h4 hg hr, Nat.le_trans h5 hg.size⟩)
        ⟨I7, by simpa using hs0, B7, by omega⟩
        (fun x a' W => a' = { tmps := #[.slice s i cap, .int .u8 st, undef, .pointer (some ⟨w.heap.size, 0, none⟩), .bool false, .pointer (some ⟨bx, 0, none⟩), u6, .int .i64 (L.length : Int), .pointer (some ⟨bn, 0, none⟩), .int .i64 x.1.1, undef, undef, undef, undef, undef, .bool true, .bool false, .bool false, .slice s i cap, .int .i64 (i : Int), .bool false, .bool false, undef, .pointer (some ⟨b, 0, none⟩), .slice s i cap, .int .i64 (i : Int), .int .i64 (i : Int), .bool false, u28, u29, u30, u31, u32, u33, u34, u35, .pointer (some ⟨b, 0, none⟩), .slice a5 L.length c5, .int .i64 (L.length : Int), .pointer (some ⟨b, 0, none⟩), .func (.func 30) #[] #[.pointer (some ⟨bn + 1, 0, none⟩)], .int .i64 x.1.1, .int .i64 x.1.2, undef, undef, undef, undef, undef, undef, undef, undef, undef, undef, undef, undef, undef, undef, undef, undef, undef, undef, undef, undef, undef, undef, undef, undef, undef, undef, undef, undef, undef, undef, undef, undef, undef, undef, undef, undef, undef, undef, undef, undef, undef, undef, undef, undef, undef, undef, undef, undef, undef, undef, undef, undef, undef, undef, undef, undef, undef, undef, undef, undef, undef, undef, undef, undef, undef, undef, undef], defers := [] })
        (fun x a' u X Y row hs hgr hr => hs) ?assign ?body ?done ?stop
      case assign =>
        rintro l pre x W K ⟨i1, i2, i3, i4⟩ hK
        gi_wp2
        exact hK _ _ (KeepsFrom.refl _ _) (Kt.refl _ _) ⟨i1, i2, i3, i4⟩ rfl
      case body =>
        rintro l pre x a' W hl _ ⟨i1, i2, i3, i4⟩ rfl hlt
        have HM : Hid (dels L ((pre ++ [x]).map fun (y : { x : En // x ∈ L }) => y.1) = del (dels L (pre.map fun (y : { x : En // x ∈ L }) => y.1)) x.1.1) := by show _ = _; rw [List.map_append]; exact dels_snoc _ _ _
        have HN : Hid (((pre ++ [x]).length : Int) = (pre.length : Int) + 1) := by show _ = _; simp
        have hN0 : (0 : Int) ≤ (pre.length : Int) := by omega
        have hko := HKO.out x.1 x.2
        generalize (pre.length : Int) = N at *
        generalize dels L (pre.map fun (y : { x : En // x ∈ L }) => y.1) = T at *
        have k0 := i1.hbx.cell 0 _ rfl
        have hfree := free_calls i1.x hko
        have hw3 : IntKind.i64.wrap (N + 1) = N + 1 := by rw [IntKind.wrap_i64]; omega
        have hw7 : IntKind.i64.wrap st = st := by rw [IntKind.wrap_i64]; omega
        by_cases hcm : st < N + 1
        · have dc : decide (st < N + 1) = true := decide_eq_true hcm
          gi_wp2_with (refine ⟨trivial, ?_⟩; gi_at_call 26; refine (CallsIn.inRound l (callsIn_wide.2 hfree)).mono ?_; clear hfree; rintro e V2 ⟨rfl, T2, q2⟩; have j2 := i1.free T2 q2 (by omega); have n2 := j2.hbn.cell 0 _ rfl; have g2 := j2.hbn.frozen 0; have s2 := j2.hbs.cell 0 _ rfl; have lt2 := j2.hbn.lt)
          have j3 := j2.setN (N + 1) (by omega)
          have hB3 : But bn V2.heap.size V2 (V2.setCell ⟨bn, 0, none⟩ (.int .i64 (N + 1))) := (But.refl bn V2.heap.size V2).set (p := ⟨bn, 0, none⟩) rfl _
          have KF3 := (keepsFrom_but2 (m := bn + 2) q2 (Nat.le_refl _) (by omega) (by omega)).trans (keepsFrom_but (m := bn + 2) hB3 (Nat.le_refl _) j2.hbn)
          have BB2 := i3.trans (q2.below i3.size (by omega) (by omega))
          have BB3 := BB2.trans (hB3.below BB2.size (by omega))
          have sz3 : bn + 2 ≤ (V2.setCell ⟨bn, 0, none⟩ (.int .i64 (N + 1))).heap.size := Nat.le_trans i4 (Nat.le_trans q2.size hB3.size)
          refine ⟨by first | exact KF3 | (rw [hs7]; exact KF3), rfl, ?_, by rw [HN.out]; omega, BB3, sz3⟩
          rw [HM.out, HN.out]
          exact j3
        · have dc : decide (st < N + 1) = false := decide_eq_false hcm
          gi_wp2_with (refine ⟨trivial, ?_⟩; gi_at_call 26; refine (CallsIn.inRound l (callsIn_wide.2 hfree)).mono ?_; clear hfree; rintro e V2 ⟨rfl, T2, q2⟩; have j2 := i1.free T2 q2 (by omega); have n2 := j2.hbn.cell 0 _ rfl; have g2 := j2.hbn.frozen 0; have s2 := j2.hbs.cell 0 _ rfl; have lt2 := j2.hbn.lt)
          have j3 := j2.setN (N + 1) (by omega)
          have hB3 : But bn V2.heap.size V2 (V2.setCell ⟨bn, 0, none⟩ (.int .i64 (N + 1))) := (But.refl bn V2.heap.size V2).set (p := ⟨bn, 0, none⟩) rfl _
          have KF3 := (keepsFrom_but2 (m := bn + 2) q2 (Nat.le_refl _) (by omega) (by omega)).trans (keepsFrom_but (m := bn + 2) hB3 (Nat.le_refl _) j2.hbn)
          have KT3 := (Kt.but2 (m := bn + 2) q2 (Nat.le_refl _) (by omega) (by omega)).trans (Kt.but (m := bn + 2) hB3 (Nat.le_refl _) (by omega))
          have BB2 := i3.trans (q2.below i3.size (by omega) (by omega))
          have BB3 := BB2.trans (hB3.below BB2.size (by omega))
          have sz3 : bn + 2 ≤ (V2.setCell ⟨bn, 0, none⟩ (.int .i64 (N + 1))).heap.size := Nat.le_trans i4 (Nat.le_trans q2.size hB3.size)
          refine ⟨by first | exact KF3 | (rw [hs7]; exact KF3), by first | exact KT3 | (rw [hs7]; exact KT3), ?_, by rw [HN.out]; omega, BB3, sz3⟩
          rw [HM.out, HN.out]
          exact j3
      case done =>
        rintro D ys W hD hys ⟨i1, i2, i3, i4⟩ hK
        rw [hys] at i1
        have hyl : ys.length = L.length := by have := congrArg List.length hys; simpa using this
        rw [hyl] at i1 i2
        refine TAIL D W _ _ i1 (by omega) ?_ i3 (by omega) hK
        rw [dels_pre (List.prefix_refl L) hsrt, List.drop_length]
        simp
      case stop =>
        rintro D cd pre W hD hpre ⟨rfl, i1, i2, i3, i4⟩ hK
        refine wpIn_exit ?_
        have hle : (pre.length : Int) ≤ L.length := by have := hpre.length_le; simp at this; omega
        refine TAIL D W _ _ i1 (by omega) ?_ i3 (by omega) hK
        rw [dels_pre hpre hsrt, List.length_drop, List.length_map]
        omega

set_option maxHeartbeats 2000000 in
set_option maxRecDepth 20000 in
theorem nil_walk (s : Option Addr) (len cap : Nat) (M : List Op3) (st : Int) (hs0 : 0 ≤ st) (hs1 : st ≤ 255) (w : World) (hL : IsO w.heap.size w s len M) (hwf : ∀ x ∈ M, okI x.1 ∧ okI x.2.1 ∧ okI x.2.2) :
    Calls Try.prog 7 #[.slice s len cap, .int .u8 st] w fun e w' => e = .returned (.bool true) ∧ Below w.heap.size w w' := by
  by_cases hl1 : 100 < len
  · have q1 : decide (100 < (len : Int)) = true := by simp; omega
    have B0 := below_box w (.cells #[.int .u8 st] 5)
    clear hL
    go_enter Try.func7, Try.ntmps7
    go_wp2_with fail
    refine (awake_calls _).mono ?_
    rintro e w1 ⟨rfl, b1⟩
    have B1 := B0.trans (b1.mono B0.size)
    clear B0 b1
    go_wp2_with fail
    refine (awake_calls _).mono ?_
    rintro e w2 ⟨rfl, b2⟩
    have B2 := B1.trans (b2.mono B1.size)
    go_wp2
    go_ret
    exact ⟨rfl, B2⟩
  · exact callsIn_wide.1 (nil_in s len cap M st hs0 hs1 (by omega) w hL hwf)
end Go.Proofs.Ytpljpndegadckaa
