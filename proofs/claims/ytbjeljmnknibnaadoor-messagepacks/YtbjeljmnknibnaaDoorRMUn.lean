/- Proved here: what the document's Unpack of a message answers. Conditions: as each theorem states them. -/
import Derived.Deep.DeepCutAuto
import Derived.Test.YtbjeljmnknibnaaDoorMUn
namespace Go.Proofs.YtbjeljmnknibnaaDoor
set_option linter.unusedSimpArgs false
set_option linter.unusedVariables false
set_option maxRecDepth 20000
open Go.RowKit Go.Shelf

theorem ref3 (c d e : UInt8) : numN [c, d, e] = (c.toNat * 256 + d.toNat) * 256 + e.toNat := by simp [numN]
theorem ref2 (h i : UInt8) : numN [h, i] = h.toNat * 256 + i.toNat := by simp [numN]

set_option maxHeartbeats 4000000 in
theorem refmunpack_calls (ad : Option Addr) (len cap : Nat) (zs : List UInt8) (w : World) {n : Nat} (H : IsB n w ad len zs) (hn : n ≤ w.heap.size) (hlc : len ≤ cap) (hm : len ≤ 10000) :
    Calls Tryd.prog 14 #[.slice ad len cap] w (MuAll zs w) := by
  have hl : Hid (len = zs.length) := H.1
  have A2 : Below w.heap.size w ((w.alloc (.cells (meC 0 false 0 none 0 0) 24)).alloc (.cells (meC 0 false 0 none 0 0) 24)) := ((Below.refl _ w).alloc (Nat.le_refl _) _).alloc (by simp) _
  have R2 : BK ((w.alloc (.cells (meC 0 false 0 none 0 0) 24)).alloc (.cells (meC 0 false 0 none 0 0) 24)) w.heap.size (meC 0 false 0 none 0 0) 24 := (me_new w).alloc _
  have N2 : BK ((w.alloc (.cells (meC 0 false 0 none 0 0) 24)).alloc (.cells (meC 0 false 0 none 0 0) 24)) (w.heap.size + 1) (meC 0 false 0 none 0 0) 24 := by
    have := me_new (w.alloc (.cells (meC 0 false 0 none 0 0) 24))
    rwa [World.size_alloc] at this
  by_cases h1 : 1000 < len
  · have q1 : decide ((1000 : Int) < (len : Int)) = true := by simp; omega
    have HE : Hid (unM zs = .error 6) := unM_long (by rw [← hl.out]; exact h1)
    clear h1 H hl
    go_enter Tryd.func14, Tryd.ntmps14
    go_wp2_with (with_reducible show wpList _ _ _ (Oper.mk _ (Op.store 24 _ _) _ _ _ _ :: _) _ _; refine stop_here ?_)
    refine ⟨?_⟩
    refine wpList_st rfl rfl rfl rfl N2 size_M rfl (by simp [Value.oneCell']) ?_
    intro w3 N3 b3 but3 z3
    have R3 := R2.but but3 R2.lt (by omega)
    have B3 := A2.trans (b3 _ (by omega))
    clear R2 N2 A2 b3 but3 z3
    go_wp2_with (first | (with_reducible show wpList _ _ _ (Oper.mk _ (Op.load 24 _) _ _ _ _ :: _) _ _; refine wpList_ld rfl rfl rfl (run_ldM (by with_reducible assumption)) ?_; (try simp only [Act.put, List.setIfInBounds_toArray, List.set_cons_zero, List.set_cons_succ, World.size_alloc])) | (with_reducible show wpList _ _ _ (Oper.mk _ (Op.store 24 _ _) _ _ _ _ :: _) _ _; refine stop_here ?_))
    refine ⟨?_⟩
    refine wpList_st rfl rfl rfl rfl R3 size_M rfl (by simp [Value.oneCell']) ?_
    intro w8 K8 b8 but8 z8
    have B9 := B3.trans (b8 _ (Nat.le_refl _))
    clear b8 but8 z8
    go_wp2_with (with_reducible show bodyPost _ _ _ _ _ _; refine stop_here ?_)
    refine ⟨?_⟩
    refine bodyPost_ret (v := .tuple #[meV 0 false 0 none 0 0, .int .i64 (6)]) (results_cell_tmp_row Tryd.results14 _ _ _ _ _ _ _ _ rfl rfl K8 Tryd.underlying24 rfl size_M) rfl (mu_err HE.out B9)
  have q1 : decide ((1000 : Int) < (len : Int)) = false := by simp; omega
  by_cases h2 : len < 9
  · have q2 : decide ((len : Int) < 9) = true := by simp; omega
    have HE : Hid (unM zs = .error 2) := unM_short (by rw [← hl.out]; exact h2)
    clear h1 h2 H hl
    go_enter Tryd.func14, Tryd.ntmps14
    go_wp2_with (with_reducible show wpList _ _ _ (Oper.mk _ (Op.store 24 _ _) _ _ _ _ :: _) _ _; refine stop_here ?_)
    refine ⟨?_⟩
    refine wpList_st rfl rfl rfl rfl N2 size_M rfl (by simp [Value.oneCell']) ?_
    intro w3 N3 b3 but3 z3
    have R3 := R2.but but3 R2.lt (by omega)
    have B3 := A2.trans (b3 _ (by omega))
    clear R2 N2 A2 b3 but3 z3
    go_wp2_with (first | (with_reducible show wpList _ _ _ (Oper.mk _ (Op.load 24 _) _ _ _ _ :: _) _ _; refine wpList_ld rfl rfl rfl (run_ldM (by with_reducible assumption)) ?_; (try simp only [Act.put, List.setIfInBounds_toArray, List.set_cons_zero, List.set_cons_succ, World.size_alloc])) | (with_reducible show wpList _ _ _ (Oper.mk _ (Op.store 24 _ _) _ _ _ _ :: _) _ _; refine stop_here ?_))
    refine ⟨?_⟩
    refine wpList_st rfl rfl rfl rfl R3 size_M rfl (by simp [Value.oneCell']) ?_
    intro w8 K8 b8 but8 z8
    have B9 := B3.trans (b8 _ (Nat.le_refl _))
    clear b8 but8 z8
    go_wp2_with (with_reducible show bodyPost _ _ _ _ _ _; refine stop_here ?_)
    refine ⟨?_⟩
    refine bodyPost_ret (v := .tuple #[meV 0 false 0 none 0 0, .int .i64 (2)]) (results_cell_tmp_row Tryd.results14 _ _ _ _ _ _ _ _ rfl rfl K8 Tryd.underlying24 rfl size_M) rfl (mu_err HE.out B9)
  have q2 : decide ((len : Int) < 9) = false := by simp; omega
  go_enter Tryd.func14, Tryd.ntmps14
  go_wp2_with (with_reducible show wpList _ _ _ (Oper.mk _ (Op.store 24 _ _) _ _ _ _ :: _) _ _; refine stop_here ?_)
  refine ⟨?_⟩
  refine wpList_st rfl rfl rfl rfl N2 size_M rfl (by simp [Value.oneCell']) ?_
  intro w3 N3 b3 but3 z3
  have R3 := R2.but but3 R2.lt (by omega)
  have B3 := A2.trans (b3 _ (by omega))
  clear R2 N2 A2 b3 but3 z3
  go_upto_region 6 with fail
  obtain ⟨a, b, c, d, e, f, g, hh, i, t, rfl⟩ := nine_of (zs := zs) (by rw [← hl.out]; omega)
  have hlt : Hid (len = t.length + 9) := hl.out
  have ht1 : t.length ≤ 991 := by have := hlt.out; omega
  have HW0 := unM_nine (a := a) (b := b) (c := c) (d := d) (e := e) (f := f) (g := g) (h := hh) (i := i) ht1
  obtain ⟨bl, off, rfl, hbl, -, -, I9⟩ := H.mid3
  obtain ⟨a9, ha9⟩ : ∃ a9, (if cap = 9 then some (⟨bl, off, none⟩ : Addr) else some ⟨bl, off + 9, none⟩) = a9 := ⟨_, rfl⟩
  have I9 : IsB n w a9 (len - 9) t := by
    rw [← ha9]
    split
    · rename_i hc
      have h0 : t.length = 0 := by have := hlt.out; omega
      have h1 : t = [] := List.eq_nil_of_length_eq_zero h0
      exact ⟨by rw [h1]; have := hlt.out; simp; omega, .inl h1⟩
    · have e9 : len - 9 = t.length := by have := hlt.out; omega
      rw [e9]; exact I9
  have HUn : Hid (∀ w1, Below w.heap.size w w1 → Calls Tryd.prog 35 #[.slice a9 (len - 9) (cap - 9)] w1 (UnAns t w1)) := fun w1 (hb : Below w.heap.size w w1) => refunpack_calls a9 (len - 9) (cap - 9) t w1 (I9.below hb hn) (Nat.le_trans hn hb.size) (by omega) (by omega)
  obtain ⟨_, _, e1, -, C0⟩ := H.cell (k := 0) (x := a) rfl
  cases e1
  have CC : Hid (∀ w1, Below w.heap.size w w1 → ∀ (j : Nat) (x : UInt8), (a :: b :: c :: d :: e :: f :: g :: hh :: i :: t)[j]? = some x → w1.cell? ⟨bl, off + j, none⟩ = some (.int .u8 (x.toNat : Int))) := fun w1 hb j x hx => (hb.cell (p := ⟨bl, off + j, none⟩) (by show bl < _; omega)).trans (C0 j x hx)
  have eN3 := ref3 c d e
  have eN2 := ref2 hh i
  obtain ⟨x0, hx0⟩ : ∃ x, a.toNat = x := ⟨_, rfl⟩
  obtain ⟨x1, hx1⟩ : ∃ x, b.toNat = x := ⟨_, rfl⟩
  obtain ⟨x2, hx2⟩ : ∃ x, c.toNat = x := ⟨_, rfl⟩
  obtain ⟨x3, hx3⟩ : ∃ x, d.toNat = x := ⟨_, rfl⟩
  obtain ⟨x4, hx4⟩ : ∃ x, e.toNat = x := ⟨_, rfl⟩
  obtain ⟨x5, hx5⟩ : ∃ x, f.toNat = x := ⟨_, rfl⟩
  obtain ⟨x6, hx6⟩ : ∃ x, g.toNat = x := ⟨_, rfl⟩
  obtain ⟨x7, hx7⟩ : ∃ x, hh.toNat = x := ⟨_, rfl⟩
  obtain ⟨x8, hx8⟩ : ∃ x, i.toNat = x := ⟨_, rfl⟩
  have l2 : x2 < 256 := by rw [← hx2]; exact c.toNat_lt
  have l3 : x3 < 256 := by rw [← hx3]; exact d.toNat_lt
  have l4 : x4 < 256 := by rw [← hx4]; exact e.toNat_lt
  have l5 : x5 < 256 := by rw [← hx5]; exact f.toNat_lt
  have l7 : x7 < 256 := by rw [← hx7]; exact hh.toNat_lt
  have l8 : x8 < 256 := by rw [← hx8]; exact i.toNat_lt
  have HC : Hid (∀ w1, Below w.heap.size w w1 → (w1.cell? ⟨bl, off, none⟩ = some (.int .u8 (x0 : Int))) ∧ (w1.cell? ⟨bl, off + 1, none⟩ = some (.int .u8 (x1 : Int))) ∧ (w1.cell? ⟨bl, off + 2, none⟩ = some (.int .u8 (x2 : Int))) ∧ (w1.cell? ⟨bl, off + 3, none⟩ = some (.int .u8 (x3 : Int))) ∧ (w1.cell? ⟨bl, off + 4, none⟩ = some (.int .u8 (x4 : Int))) ∧ (w1.cell? ⟨bl, off + 5, none⟩ = some (.int .u8 (x5 : Int))) ∧ (w1.cell? ⟨bl, off + 6, none⟩ = some (.int .u8 (x6 : Int))) ∧ (w1.cell? ⟨bl, off + 7, none⟩ = some (.int .u8 (x7 : Int))) ∧ (w1.cell? ⟨bl, off + 8, none⟩ = some (.int .u8 (x8 : Int)))) := fun w1 hb => by
    have C := CC.out w1 hb
    refine ⟨?_, ?_, ?_, ?_, ?_, ?_, ?_, ?_, ?_⟩
    · rw [← hx0]; exact C 0 _ rfl
    · rw [← hx1]; exact C 1 _ rfl
    · rw [← hx2]; exact C 2 _ rfl
    · rw [← hx3]; exact C 3 _ rfl
    · rw [← hx4]; exact C 4 _ rfl
    · rw [← hx5]; exact C 5 _ rfl
    · rw [← hx6]; exact C 6 _ rfl
    · rw [← hx7]; exact C 7 _ rfl
    · rw [← hx8]; exact C 8 _ rfl
  rw [hx2, hx3, hx4] at eN3
  rw [hx7, hx8] at eN2
  obtain ⟨M3, hM3⟩ : ∃ M3, numN [c, d, e] = M3 := ⟨_, rfl⟩
  obtain ⟨M2, hM2⟩ : ∃ M2, numN [hh, i] = M2 := ⟨_, rfl⟩
  rw [hM3] at eN3
  rw [hM2] at eN2
  rw [hM3, hM2, hx5] at HW0
  have j0 : a ≠ 9 ↔ x0 ≠ 9 := by rw [← hx0, ne_eq, ← UInt8.toNat_inj]; rfl
  have j1 : b ≠ 3 ↔ x1 ≠ 3 := by rw [← hx1, ne_eq, ← UInt8.toNat_inj]; rfl
  have j6 : g ≠ 128 ↔ x6 ≠ 128 := by rw [← hx6, ne_eq, ← UInt8.toNat_inj]; rfl
  simp only [j0, j1, j6] at HW0
  obtain ⟨UU, hUU⟩ : ∃ U, unM (a :: b :: c :: d :: e :: f :: g :: hh :: i :: t) = U := ⟨_, rfl⟩
  have HG : Hid (∀ (e' : Ending) (w' : World), MuAll (a :: b :: c :: d :: e :: f :: g :: hh :: i :: t) w e' w' → MuAll (a :: b :: c :: d :: e :: f :: g :: hh :: i :: t) w e' w') := fun _ _ h => h
  obtain ⟨ZS, hZS⟩ : ∃ Z, (a :: b :: c :: d :: e :: f :: g :: hh :: i :: t) = Z := ⟨_, rfl⟩
  rw [hZS] at HW0
  have hZ : Hid ((a :: b :: c :: d :: e :: f :: g :: hh :: i :: t) = ZS) := hZS
  have HW : Hid (unM ZS = _) := HW0
  obtain ⟨N6, hN6⟩ : ∃ N6, M3 % 8388608 = N6 := ⟨_, rfl⟩
  rw [hN6] at HW
  have hN6x : ((x2 : Int) % 128 * 65536 + (x3 : Int) * 256 + (x4 : Int)) = (N6 : Int) := by omega
  have hBx : decide ((127 : Int) < (x2 : Int)) = decide (8388608 ≤ M3) := by rw [Bool.eq_iff_iff]; simp; omega
  obtain ⟨bk, hbk⟩ : ∃ bk, decide (8388608 ≤ M3) = bk := ⟨_, rfl⟩
  rw [hbk] at hBx HW
  have hM2x : ((x7 : Int) * 256 + (x8 : Int)) = (M2 : Int) := by omega
  have lM2 : M2 < 65536 := by omega
  have hb0 : 0 < len := by omega
  have hb1 : 1 < len := by omega
  have hb2 : 2 < len := by omega
  have hb3 : 3 < len := by omega
  have hb4 : 4 < len := by omega
  have hb5 : 5 < len := by omega
  have hb6 : 6 < len := by omega
  have hb7 : 7 < len := by omega
  have hb8 : 8 < len := by omega
  have hb9 : 9 ≤ len := by omega
  have hi2 : (2 : Int) < (len : Int) := by omega
  have hi3 : (3 : Int) < (len : Int) := by omega
  have hi4 : (4 : Int) < (len : Int) := by omega
  have hi5 : (5 : Int) < (len : Int) := by omega
  have hi7 : (7 : Int) < (len : Int) := by omega
  have hi8 : (8 : Int) < (len : Int) := by omega
  have wx2 : IntKind.i64.wrap (x2 : Int) = (x2 : Int) := by rw [IntKind.wrap_i64]; omega
  have wx3 : IntKind.i64.wrap (x3 : Int) = (x3 : Int) := by rw [IntKind.wrap_i64]; omega
  have wx4 : IntKind.i64.wrap (x4 : Int) = (x4 : Int) := by rw [IntKind.wrap_i64]; omega
  have wx5 : IntKind.i64.wrap (x5 : Int) = (x5 : Int) := by rw [IntKind.wrap_i64]; omega
  obtain ⟨y2, hy2⟩ : ∃ y, x2 % 128 = y := ⟨_, rfl⟩
  have tm2 : (x2 : Int).tmod 128 = (y2 : Int) := by rw [Int.tmod_eq_emod_of_nonneg (by omega)]; omega
  obtain ⟨z2, hz2⟩ : ∃ y, y2 * 65536 = y := ⟨_, rfl⟩
  have wz2 : IntKind.i64.wrap ((y2 : Int) * 65536) = (z2 : Int) := by rw [IntKind.wrap_i64]; omega
  obtain ⟨z3, hz3⟩ : ∃ y, x3 * 256 = y := ⟨_, rfl⟩
  have wz3 : IntKind.i64.wrap ((x3 : Int) * 256) = (z3 : Int) := by rw [IntKind.wrap_i64]; omega
  obtain ⟨s3, hs3⟩ : ∃ y, z2 + z3 = y := ⟨_, rfl⟩
  have ws3 : IntKind.i64.wrap ((z2 : Int) + (z3 : Int)) = (s3 : Int) := by rw [IntKind.wrap_i64]; omega
  have ws4 : IntKind.i64.wrap ((s3 : Int) + (x4 : Int)) = (N6 : Int) := by rw [IntKind.wrap_i64]; omega
  clear hN6x hs3 hz3 hz2 hy2
  have HW0x : Hid (0 = 0) := rfl
  clear hUU HG hZS HW0 j0 j1 j6 eN2 eN3 hM3 hM2 hx0 hx1 hx2 hx3 hx4 hx5 hx6 hx7 hx8 CC C0 H hl h1 h2 I9 hN6 hbk
  go_cut [5] (fun s wx => ∃ q, s = .pointer (some ⟨q, 0, none⟩) ∧ w.heap.size + 1 < q ∧ BK wx q (meC N6 bk x5 none 0 0) 24 ∧ BK wx w.heap.size (meC 0 false 0 none 0 0) 24 ∧ BK wx (w.heap.size + 1) (meC 0 false 0 none 0 0) 24 ∧ Below w.heap.size w wx)
  case first =>
    have lq := N3.lt
    refine wp_region_held_drew (S := (fun w' => BK w' w.heap.size (meC 0 false 0 none 0 0) 24 ∧ BK w' (w.heap.size + 1) (meC 0 false 0 none 0 0) 24 ∧ Below w.heap.size w w')) (by kernel_rfl) ⟨R3.drew, N3.drew, B3.drew⟩ (fun hHeld => ?_)
    refine wpAnyH_take (i := 0) (oi := ({ dst := some 18, op := Op.move (Operand.tmp 0), type := 25, pos := _, after := #[], guard := none } : Oper)) (v := ?_) rfl (by kernel_rfl) (by kernel_rfl) (by kernel_rfl) (fun _ _ _ h => h) (Or.inl ⟨by rfl, ?_⟩) hHeld ?_
    rotate_left
    · (intro w hS; go_simp; try with_reducible rfl)
    try simp only [Act.put, List.setIfInBounds_toArray, List.set_cons_zero, List.set_cons_succ]
    refine wpAnyH_take (i := 1) (oi := ({ dst := some 19, op := Op.indexAddr 25 (Operand.tmp 18) (Operand.const (Value.int IntKind.i64 2)), type := 0, pos := _, after := #[{ on := 0, ground := Ground.data }], guard := none } : Oper)) (v := ?_) rfl (by kernel_rfl) (by kernel_rfl) (by kernel_rfl) (fun _ _ _ h => h) (Or.inl ⟨by rfl, ?_⟩) hHeld ?_
    rotate_left
    · (intro w hS; go_simp; try with_reducible rfl)
    try simp only [Act.put, List.setIfInBounds_toArray, List.set_cons_zero, List.set_cons_succ]
    refine wpAnyH_take (i := 2) (oi := ({ dst := some 20, op := Op.load 5 (Operand.tmp 19), type := 5, pos := _, after := #[{ on := 1, ground := Ground.data }], guard := none } : Oper)) (v := ?_) rfl (by kernel_rfl) (by kernel_rfl) (by kernel_rfl) (fun _ _ _ h => h) (Or.inl ⟨by rfl, ?_⟩) hHeld ?_
    rotate_left
    · (intro w hS; have ⟨d0, d1, d2, d3, d4, d5, d6, d7, d8⟩ := HC.out w hS.2.2; go_simp; try with_reducible rfl)
    try simp only [Act.put, List.setIfInBounds_toArray, List.set_cons_zero, List.set_cons_succ]
    refine wpAnyH_take (i := 3) (oi := ({ dst := some 21, op := Op.convert 5 3 (Operand.tmp 20), type := 3, pos := _, after := #[{ on := 2, ground := Ground.data }], guard := none } : Oper)) (v := ?_) rfl (by kernel_rfl) (by kernel_rfl) (by kernel_rfl) (fun _ _ _ h => h) (Or.inl ⟨by rfl, ?_⟩) hHeld ?_
    rotate_left
    · (intro w hS; go_simp; try with_reducible rfl)
    try simp only [Act.put, List.setIfInBounds_toArray, List.set_cons_zero, List.set_cons_succ]
    refine wpAnyH_take (i := 4) (oi := ({ dst := some 22, op := Op.binOp BinOp.rem 3 (Operand.tmp 21) (Operand.const (Value.int IntKind.i64 128)) 3, type := 3, pos := _, after := #[{ on := 3, ground := Ground.data }], guard := none } : Oper)) (v := ?_) rfl (by kernel_rfl) (by kernel_rfl) (by kernel_rfl) (fun _ _ _ h => h) (Or.inl ⟨by rfl, ?_⟩) hHeld ?_
    rotate_left
    · (intro w hS; go_simp; try with_reducible rfl)
    try simp only [Act.put, List.setIfInBounds_toArray, List.set_cons_zero, List.set_cons_succ]
    refine wpAnyH_take (i := 5) (oi := ({ dst := some 23, op := Op.binOp BinOp.mul 3 (Operand.tmp 22) (Operand.const (Value.int IntKind.i64 65536)) 3, type := 3, pos := _, after := #[{ on := 4, ground := Ground.data }], guard := none } : Oper)) (v := ?_) rfl (by kernel_rfl) (by kernel_rfl) (by kernel_rfl) (fun _ _ _ h => h) (Or.inl ⟨by rfl, ?_⟩) hHeld ?_
    rotate_left
    · (intro w hS; go_simp; try with_reducible rfl)
    try simp only [Act.put, List.setIfInBounds_toArray, List.set_cons_zero, List.set_cons_succ]
    refine wpAnyH_take (i := 6) (oi := ({ dst := some 24, op := Op.move (Operand.tmp 0), type := 25, pos := _, after := #[], guard := none } : Oper)) (v := ?_) rfl (by kernel_rfl) (by kernel_rfl) (by kernel_rfl) (fun _ _ _ h => h) (Or.inl ⟨by rfl, ?_⟩) hHeld ?_
    rotate_left
    · (intro w hS; go_simp; try with_reducible rfl)
    try simp only [Act.put, List.setIfInBounds_toArray, List.set_cons_zero, List.set_cons_succ]
    refine wpAnyH_take (i := 7) (oi := ({ dst := some 25, op := Op.indexAddr 25 (Operand.tmp 24) (Operand.const (Value.int IntKind.i64 3)), type := 0, pos := _, after := #[{ on := 6, ground := Ground.data }], guard := none } : Oper)) (v := ?_) rfl (by kernel_rfl) (by kernel_rfl) (by kernel_rfl) (fun _ _ _ h => h) (Or.inl ⟨by rfl, ?_⟩) hHeld ?_
    rotate_left
    · (intro w hS; go_simp; try with_reducible rfl)
    try simp only [Act.put, List.setIfInBounds_toArray, List.set_cons_zero, List.set_cons_succ]
    refine wpAnyH_take (i := 8) (oi := ({ dst := some 26, op := Op.load 5 (Operand.tmp 25), type := 5, pos := _, after := #[{ on := 7, ground := Ground.data }], guard := none } : Oper)) (v := ?_) rfl (by kernel_rfl) (by kernel_rfl) (by kernel_rfl) (fun _ _ _ h => h) (Or.inl ⟨by rfl, ?_⟩) hHeld ?_
    rotate_left
    · (intro w hS; have ⟨d0, d1, d2, d3, d4, d5, d6, d7, d8⟩ := HC.out w hS.2.2; go_simp; try with_reducible rfl)
    try simp only [Act.put, List.setIfInBounds_toArray, List.set_cons_zero, List.set_cons_succ]
    refine wpAnyH_take (i := 9) (oi := ({ dst := some 27, op := Op.convert 5 3 (Operand.tmp 26), type := 3, pos := _, after := #[{ on := 8, ground := Ground.data }], guard := none } : Oper)) (v := ?_) rfl (by kernel_rfl) (by kernel_rfl) (by kernel_rfl) (fun _ _ _ h => h) (Or.inl ⟨by rfl, ?_⟩) hHeld ?_
    rotate_left
    · (intro w hS; go_simp; try with_reducible rfl)
    try simp only [Act.put, List.setIfInBounds_toArray, List.set_cons_zero, List.set_cons_succ]
    refine wpAnyH_take (i := 10) (oi := ({ dst := some 28, op := Op.binOp BinOp.mul 3 (Operand.tmp 27) (Operand.const (Value.int IntKind.i64 256)) 3, type := 3, pos := _, after := #[{ on := 9, ground := Ground.data }], guard := none } : Oper)) (v := ?_) rfl (by kernel_rfl) (by kernel_rfl) (by kernel_rfl) (fun _ _ _ h => h) (Or.inl ⟨by rfl, ?_⟩) hHeld ?_
    rotate_left
    · (intro w hS; go_simp; try with_reducible rfl)
    try simp only [Act.put, List.setIfInBounds_toArray, List.set_cons_zero, List.set_cons_succ]
    refine wpAnyH_take (i := 11) (oi := ({ dst := some 29, op := Op.binOp BinOp.add 3 (Operand.tmp 23) (Operand.tmp 28) 3, type := 3, pos := _, after := #[{ on := 5, ground := Ground.data }, { on := 10, ground := Ground.data }], guard := none } : Oper)) (v := ?_) rfl (by kernel_rfl) (by kernel_rfl) (by kernel_rfl) (fun _ _ _ h => h) (Or.inl ⟨by rfl, ?_⟩) hHeld ?_
    rotate_left
    · (intro w hS; go_simp; try with_reducible rfl)
    try simp only [Act.put, List.setIfInBounds_toArray, List.set_cons_zero, List.set_cons_succ]
    refine wpAnyH_take (i := 12) (oi := ({ dst := some 30, op := Op.move (Operand.tmp 0), type := 25, pos := _, after := #[], guard := none } : Oper)) (v := ?_) rfl (by kernel_rfl) (by kernel_rfl) (by kernel_rfl) (fun _ _ _ h => h) (Or.inl ⟨by rfl, ?_⟩) hHeld ?_
    rotate_left
    · (intro w hS; go_simp; try with_reducible rfl)
    try simp only [Act.put, List.setIfInBounds_toArray, List.set_cons_zero, List.set_cons_succ]
    refine wpAnyH_take (i := 13) (oi := ({ dst := some 31, op := Op.indexAddr 25 (Operand.tmp 30) (Operand.const (Value.int IntKind.i64 4)), type := 0, pos := _, after := #[{ on := 12, ground := Ground.data }], guard := none } : Oper)) (v := ?_) rfl (by kernel_rfl) (by kernel_rfl) (by kernel_rfl) (fun _ _ _ h => h) (Or.inl ⟨by rfl, ?_⟩) hHeld ?_
    rotate_left
    · (intro w hS; go_simp; try with_reducible rfl)
    try simp only [Act.put, List.setIfInBounds_toArray, List.set_cons_zero, List.set_cons_succ]
    refine wpAnyH_take (i := 14) (oi := ({ dst := some 32, op := Op.load 5 (Operand.tmp 31), type := 5, pos := _, after := #[{ on := 13, ground := Ground.data }], guard := none } : Oper)) (v := ?_) rfl (by kernel_rfl) (by kernel_rfl) (by kernel_rfl) (fun _ _ _ h => h) (Or.inl ⟨by rfl, ?_⟩) hHeld ?_
    rotate_left
    · (intro w hS; have ⟨d0, d1, d2, d3, d4, d5, d6, d7, d8⟩ := HC.out w hS.2.2; go_simp; try with_reducible rfl)
    try simp only [Act.put, List.setIfInBounds_toArray, List.set_cons_zero, List.set_cons_succ]
    refine wpAnyH_take (i := 15) (oi := ({ dst := some 33, op := Op.convert 5 3 (Operand.tmp 32), type := 3, pos := _, after := #[{ on := 14, ground := Ground.data }], guard := none } : Oper)) (v := ?_) rfl (by kernel_rfl) (by kernel_rfl) (by kernel_rfl) (fun _ _ _ h => h) (Or.inl ⟨by rfl, ?_⟩) hHeld ?_
    rotate_left
    · (intro w hS; go_simp; try with_reducible rfl)
    try simp only [Act.put, List.setIfInBounds_toArray, List.set_cons_zero, List.set_cons_succ]
    refine wpAnyH_take (i := 16) (oi := ({ dst := some 34, op := Op.binOp BinOp.add 3 (Operand.tmp 29) (Operand.tmp 33) 3, type := 3, pos := _, after := #[{ on := 11, ground := Ground.data }, { on := 15, ground := Ground.data }], guard := none } : Oper)) (v := ?_) rfl (by kernel_rfl) (by kernel_rfl) (by kernel_rfl) (fun _ _ _ h => h) (Or.inl ⟨by rfl, ?_⟩) hHeld ?_
    rotate_left
    · (intro w hS; go_simp; try with_reducible rfl)
    try simp only [Act.put, List.setIfInBounds_toArray, List.set_cons_zero, List.set_cons_succ]
    refine wpAnyH_take (i := 17) (oi := ({ dst := some 35, op := Op.move (Operand.tmp 0), type := 25, pos := _, after := #[], guard := none } : Oper)) (v := ?_) rfl (by kernel_rfl) (by kernel_rfl) (by kernel_rfl) (fun _ _ _ h => h) (Or.inl ⟨by rfl, ?_⟩) hHeld ?_
    rotate_left
    · (intro w hS; go_simp; try with_reducible rfl)
    try simp only [Act.put, List.setIfInBounds_toArray, List.set_cons_zero, List.set_cons_succ]
    refine wpAnyH_take (i := 18) (oi := ({ dst := some 36, op := Op.indexAddr 25 (Operand.tmp 35) (Operand.const (Value.int IntKind.i64 2)), type := 0, pos := _, after := #[{ on := 17, ground := Ground.data }], guard := none } : Oper)) (v := ?_) rfl (by kernel_rfl) (by kernel_rfl) (by kernel_rfl) (fun _ _ _ h => h) (Or.inl ⟨by rfl, ?_⟩) hHeld ?_
    rotate_left
    · (intro w hS; go_simp; try with_reducible rfl)
    try simp only [Act.put, List.setIfInBounds_toArray, List.set_cons_zero, List.set_cons_succ]
    refine wpAnyH_take (i := 19) (oi := ({ dst := some 37, op := Op.load 5 (Operand.tmp 36), type := 5, pos := _, after := #[{ on := 18, ground := Ground.data }], guard := none } : Oper)) (v := ?_) rfl (by kernel_rfl) (by kernel_rfl) (by kernel_rfl) (fun _ _ _ h => h) (Or.inl ⟨by rfl, ?_⟩) hHeld ?_
    rotate_left
    · (intro w hS; have ⟨d0, d1, d2, d3, d4, d5, d6, d7, d8⟩ := HC.out w hS.2.2; go_simp; try with_reducible rfl)
    try simp only [Act.put, List.setIfInBounds_toArray, List.set_cons_zero, List.set_cons_succ]
    refine wpAnyH_take (i := 20) (oi := ({ dst := some 38, op := Op.binOp BinOp.gtr 5 (Operand.tmp 37) (Operand.const (Value.int IntKind.u8 127)) 5, type := 4, pos := _, after := #[{ on := 19, ground := Ground.data }], guard := none } : Oper)) (v := ?_) rfl (by kernel_rfl) (by kernel_rfl) (by kernel_rfl) (fun _ _ _ h => h) (Or.inl ⟨by rfl, ?_⟩) hHeld ?_
    rotate_left
    · (intro w hS; go_simp; try with_reducible rfl)
    try simp only [Act.put, List.setIfInBounds_toArray, List.set_cons_zero, List.set_cons_succ]
    refine wpAnyH_take (i := 21) (oi := ({ dst := some 39, op := Op.move (Operand.tmp 0), type := 25, pos := _, after := #[], guard := none } : Oper)) (v := ?_) rfl (by kernel_rfl) (by kernel_rfl) (by kernel_rfl) (fun _ _ _ h => h) (Or.inl ⟨by rfl, ?_⟩) hHeld ?_
    rotate_left
    · (intro w hS; go_simp; try with_reducible rfl)
    try simp only [Act.put, List.setIfInBounds_toArray, List.set_cons_zero, List.set_cons_succ]
    refine wpAnyH_take (i := 22) (oi := ({ dst := some 40, op := Op.indexAddr 25 (Operand.tmp 39) (Operand.const (Value.int IntKind.i64 5)), type := 0, pos := _, after := #[{ on := 21, ground := Ground.data }], guard := none } : Oper)) (v := ?_) rfl (by kernel_rfl) (by kernel_rfl) (by kernel_rfl) (fun _ _ _ h => h) (Or.inl ⟨by rfl, ?_⟩) hHeld ?_
    rotate_left
    · (intro w hS; go_simp; try with_reducible rfl)
    try simp only [Act.put, List.setIfInBounds_toArray, List.set_cons_zero, List.set_cons_succ]
    refine wpAnyH_take (i := 23) (oi := ({ dst := some 41, op := Op.load 5 (Operand.tmp 40), type := 5, pos := _, after := #[{ on := 22, ground := Ground.data }], guard := none } : Oper)) (v := ?_) rfl (by kernel_rfl) (by kernel_rfl) (by kernel_rfl) (fun _ _ _ h => h) (Or.inl ⟨by rfl, ?_⟩) hHeld ?_
    rotate_left
    · (intro w hS; have ⟨d0, d1, d2, d3, d4, d5, d6, d7, d8⟩ := HC.out w hS.2.2; go_simp; try with_reducible rfl)
    try simp only [Act.put, List.setIfInBounds_toArray, List.set_cons_zero, List.set_cons_succ]
    refine wpAnyH_take (i := 24) (oi := ({ dst := some 42, op := Op.convert 5 3 (Operand.tmp 41), type := 3, pos := _, after := #[{ on := 23, ground := Ground.data }], guard := none } : Oper)) (v := ?_) rfl (by kernel_rfl) (by kernel_rfl) (by kernel_rfl) (fun _ _ _ h => h) (Or.inl ⟨by rfl, ?_⟩) hHeld ?_
    rotate_left
    · (intro w hS; go_simp; try with_reducible rfl)
    try simp only [Act.put, List.setIfInBounds_toArray, List.set_cons_zero, List.set_cons_succ]
    refine wpAnyH_take (i := 25) (oi := ({ dst := some 43, op := Op.build 24 #[(0, Operand.tmp 34), (1, Operand.tmp 38), (2, Operand.tmp 42)], type := 24, pos := _, after := #[{ on := 16, ground := Ground.data }, { on := 20, ground := Ground.data }, { on := 24, ground := Ground.data }], guard := none } : Oper)) (v := ?_) rfl (by kernel_rfl) (by kernel_rfl) (by kernel_rfl) (fun _ _ _ h => h) (Or.inl ⟨by rfl, ?_⟩) hHeld ?_
    rotate_left
    · (intro w hS; go_simp; try with_reducible rfl)
    try simp only [Act.put, List.setIfInBounds_toArray, List.set_cons_zero, List.set_cons_succ]
    refine wpAnyH_ready (rs := [26]) (by kernel_rfl) (by simp) ?_
    refine AllReadyH.cons (o := ({ dst := some 5, op := Op.alloc 24, type := 0, pos := _, after := #[], guard := none } : Oper)) rfl (fun K hK => ?_) AllReadyH.nil
    refine step_al (Z := meC 0 false 0 none 0 0) rfl rfl zero_M ?_
    have Y3 := me_new w3.drew; (replace Y3 : BK _ w3.heap.size (meC 0 false 0 none 0 0) 24 := Y3); have hq4 : w.heap.size + 1 < w3.heap.size := lq; have hq3 : w.heap.size + 1 < w3.drew.heap.size := hq4
    refine hK.out _ _ ⟨hHeld.1.alloc _, hHeld.2.1.alloc _, hHeld.2.2.alloc hHeld.2.2.size _⟩ (fun hHeld => ?_)
    clear hK K
    try simp only [Act.put, List.setIfInBounds_toArray, List.set_cons_zero, List.set_cons_succ]
    refine wpAnyH_ready (rs := [27]) (by kernel_rfl) (by simp) ?_
    refine AllReadyH.cons (o := ({ dst := none, op := Op.store 24 (Operand.tmp 5) (Operand.tmp 43), type := 0, pos := _, after := #[{ on := 26, ground := Ground.data }, { on := 25, ground := Ground.data }, { on := 0, ground := Ground.phase }, { on := 1, ground := Ground.phase }, { on := 2, ground := Ground.phase }, { on := 3, ground := Ground.phase }, { on := 4, ground := Ground.phase }, { on := 5, ground := Ground.phase }, { on := 6, ground := Ground.phase }, { on := 7, ground := Ground.phase }, { on := 8, ground := Ground.phase }, { on := 9, ground := Ground.phase }, { on := 10, ground := Ground.phase }, { on := 11, ground := Ground.phase }, { on := 12, ground := Ground.phase }, { on := 13, ground := Ground.phase }, { on := 14, ground := Ground.phase }, { on := 15, ground := Ground.phase }, { on := 16, ground := Ground.phase }, { on := 17, ground := Ground.phase }, { on := 18, ground := Ground.phase }, { on := 19, ground := Ground.phase }, { on := 20, ground := Ground.phase }, { on := 21, ground := Ground.phase }, { on := 22, ground := Ground.phase }, { on := 23, ground := Ground.phase }, { on := 24, ground := Ground.phase }, { on := 25, ground := Ground.phase }, { on := 26, ground := Ground.phase }], guard := none } : Oper)) rfl (fun K hK => ?_) AllReadyH.nil
    refine step_st (ty := 24) (V := meC 0 false 0 none 0 0) (C := meC N6 bk x5 none 0 0) (by rfl) (by rfl) (by rfl) (by rfl) (by exact Y3) size_M (by rfl) (one_M _ _ _ _ _ _) ?_
    intro v4 Y4 d4 but4 z4
    refine hK.out _ _ ⟨hHeld.1.but but4 hHeld.1.lt (by omega), hHeld.2.1.but but4 hHeld.2.1.lt (by omega), hHeld.2.2.trans (d4 _ (by omega))⟩ (fun hHeld => ?_)
    clear hK K
    try simp only [Act.put, List.setIfInBounds_toArray, List.set_cons_zero, List.set_cons_succ]
    refine wpAnyH_done (by kernel_rfl) ?_ _
    go_wp2
    go_meet
    exact ⟨_, rfl, hq4, Y4, hHeld.1, hHeld.2.1, hHeld.2.2⟩
  case rest =>
    obtain ⟨q, rfl, hq, Y5, R5, N5, B5⟩ := hcut
    obtain ⟨wd, hwd⟩ : ∃ z, z = wc := ⟨_, rfl⟩
    subst hwd
    obtain ⟨d0, d1, -, -, -, -, d6, -, -⟩ := HC.out _ B5
    clear hi2 hi3 hi4 hi5 hi7 hi8 hb2 hb3 hb4 hb5 q1 q2 l2 l3 l4 l5
    have y0 := Y5.cell 0 _ rfl
    have y2 := Y5.cell 2 _ rfl
    clear R3 N3 B3 wx2 wx3 wx4 wx5 tm2 wz2 wz3 ws3 ws4 hBx
    by_cases e0 : x0 = 9
    · have p0 : ((x0 : Int) != 9) = false := by simp; omega
      by_cases e1 : x1 = 3
      · have p1 : ((x1 : Int) != 3) = false := by simp; omega
        by_cases e6 : x6 = 128
        · have p6 : ((x6 : Int) != 128) = false := by simp; omega
          by_cases ez : N6 = 0
          · have HE : Hid (unM ZS = .error 5) := by show _ = _; rw [HW.out, if_pos (.inr (.inr (.inr ez)))]
            have pz : ((N6 : Int) == 0) = true := by simp; omega
            clear HW e0 e1 e6 ez HC hb7 hb8 hb9 l7 l8 hM2x lM2 HUn ha9 ht1
            go_wp2_with (first | (with_reducible show wpList _ _ _ (Oper.mk _ (Op.load 24 _) _ _ _ _ :: _) _ _; refine wpList_ld rfl rfl rfl (run_ldM (by with_reducible assumption)) ?_; (try simp only [Act.put, List.setIfInBounds_toArray, List.set_cons_zero, List.set_cons_succ, World.size_alloc])) | (with_reducible show wpList _ _ _ (Oper.mk _ (Op.store 24 _ _) _ _ _ _ :: _) _ _; refine stop_here ?_))
            refine ⟨?_⟩
            refine wpList_st rfl rfl rfl rfl R5 size_M rfl (by simp [Value.oneCell']) ?_
            intro w8 K8 b8 but8 z8
            have B9 := B5.trans (b8 _ (Nat.le_refl _))
            clear b8 but8 z8
            go_wp2_with (with_reducible show bodyPost _ _ _ _ _ _; refine stop_here ?_)
            refine ⟨?_⟩
            refine bodyPost_ret (v := .tuple #[meV 0 false 0 none 0 0, .int .i64 (5)]) (results_cell_tmp_row Tryd.results14 _ _ _ _ _ _ _ _ rfl rfl K8 Tryd.underlying24 rfl size_M) rfl (by rw [hZ.out]; exact mu_err HE.out B9)
          · have pz : ((N6 : Int) == 0) = false := by simp; omega
            have HW1 : Hid (unM ZS = if knownB (x5 : Int) = false then .error 12 else if t.length < M2 then .error 2 else if M2 < t.length then .error 3 else match unE 16 t with
              | .error E => .error E
              | .ok L => .ok ⟨(N6 : Nat), bk, x5, L⟩) := by show _ = _; rw [HW.out, if_neg (by simp [e0, e1, e6, ez])]; try rfl
            clear HW e0 e1 e6 ez
            go_wp2_with fail
            refine (refknown_calls _ _).mono ?_
            rintro e' w6 ⟨rfl, rfl⟩
            cases hk : knownB (x5 : Int)
            · have HE : Hid (unM ZS = .error 12) := by show _ = _; rw [HW1.out, if_pos hk]
              clear hk HW1
              go_wp2_with (first | (with_reducible show wpList _ _ _ (Oper.mk _ (Op.load 24 _) _ _ _ _ :: _) _ _; refine wpList_ld rfl rfl rfl (run_ldM (by with_reducible assumption)) ?_; (try simp only [Act.put, List.setIfInBounds_toArray, List.set_cons_zero, List.set_cons_succ, World.size_alloc])) | (with_reducible show wpList _ _ _ (Oper.mk _ (Op.store 24 _ _) _ _ _ _ :: _) _ _; refine stop_here ?_))
              refine ⟨?_⟩
              refine wpList_st rfl rfl rfl rfl R5 size_M rfl (by simp [Value.oneCell']) ?_
              intro w8 K8 b8 but8 z8
              have B9 := B5.trans (b8 _ (Nat.le_refl _))
              clear b8 but8 z8
              go_wp2_with (with_reducible show bodyPost _ _ _ _ _ _; refine stop_here ?_)
              refine ⟨?_⟩
              refine bodyPost_ret (v := .tuple #[meV 0 false 0 none 0 0, .int .i64 (12)]) (results_cell_tmp_row Tryd.results14 _ _ _ _ _ _ _ _ rfl rfl K8 Tryd.underlying24 rfl size_M) rfl (by rw [hZ.out]; exact mu_err HE.out B9)
            · have HW2 : Hid (unM ZS = if t.length < M2 then .error 2 else if M2 < t.length then .error 3 else match unE 16 t with
                | .error E => .error E
                | .ok L => .ok ⟨(N6 : Nat), bk, x5, L⟩) := by show _ = _; rw [HW1.out, if_neg (by rw [hk]; decide)]; try rfl
              clear hk HW1 y0 y2
              obtain ⟨-, -, -, -, -, -, -, d7, d8⟩ := HC.out _ B5
              clear hb0 hb1 hb6 d0 d1 d6 p0 p1 p6 pz
              go_upto_region 11 with fail
              go_cut [6] (fun s wx => s = .int .i64 M2 ∧ Below w6.heap.size w6 wx)
              case first =>
                go_quiet (fail)
                go_wp2
                go_meet
                exact ⟨rfl, below_drewN (Below.refl _ _)⟩
              case rest =>
                obtain ⟨rfl, b7⟩ := hcut
                obtain ⟨we, hwe⟩ : ∃ z, z = wc := ⟨_, rfl⟩
                subst hwe
                have Y7 := Y5.below b7 Y5.lt
                have R7 := R5.below b7 R5.lt
                have N7 := N5.below b7 N5.lt
                have B7 := B5.trans (b7.mono B5.size)
                clear Y5 R5 N5 B5 b7 d7 d8 hb7 hb8 l7 l8 hM2x HC
                by_cases hs : t.length < M2
                · have HE : Hid (unM ZS = .error 2) := by show _ = _; rw [HW2.out, if_pos hs]
                  have q7 : decide ((len : Int) - 9 < (M2 : Int)) = true := by have := hlt.out; simp; omega
                  clear HW2 hs
                  go_wp2_with (first | (with_reducible show wpList _ _ _ (Oper.mk _ (Op.load 24 _) _ _ _ _ :: _) _ _; refine wpList_ld rfl rfl rfl (run_ldM (by with_reducible assumption)) ?_; (try simp only [Act.put, List.setIfInBounds_toArray, List.set_cons_zero, List.set_cons_succ, World.size_alloc])) | (with_reducible show wpList _ _ _ (Oper.mk _ (Op.store 24 _ _) _ _ _ _ :: _) _ _; refine stop_here ?_))
                  refine ⟨?_⟩
                  refine wpList_st rfl rfl rfl rfl R7 size_M rfl (by simp [Value.oneCell']) ?_
                  intro w8 K8 b8 but8 z8
                  have B9 := B7.trans (b8 _ (Nat.le_refl _))
                  clear b8 but8 z8
                  go_wp2_with (with_reducible show bodyPost _ _ _ _ _ _; refine stop_here ?_)
                  refine ⟨?_⟩
                  refine bodyPost_ret (v := .tuple #[meV 0 false 0 none 0 0, .int .i64 (2)]) (results_cell_tmp_row Tryd.results14 _ _ _ _ _ _ _ _ rfl rfl K8 Tryd.underlying24 rfl size_M) rfl (by rw [hZ.out]; exact mu_err HE.out B9)
                · have q7 : decide ((len : Int) - 9 < (M2 : Int)) = false := by have := hlt.out; simp; omega
                  by_cases hs2 : M2 < t.length
                  · have HE : Hid (unM ZS = .error 3) := by show _ = _; rw [HW2.out, if_neg hs, if_pos hs2]
                    have q8 : decide ((M2 : Int) < (len : Int) - 9) = true := by have := hlt.out; simp; omega
                    clear HW2 hs hs2
                    go_wp2_with (first | (with_reducible show wpList _ _ _ (Oper.mk _ (Op.load 24 _) _ _ _ _ :: _) _ _; refine wpList_ld rfl rfl rfl (run_ldM (by with_reducible assumption)) ?_; (try simp only [Act.put, List.setIfInBounds_toArray, List.set_cons_zero, List.set_cons_succ, World.size_alloc])) | (with_reducible show wpList _ _ _ (Oper.mk _ (Op.store 24 _ _) _ _ _ _ :: _) _ _; refine stop_here ?_))
                    refine ⟨?_⟩
                    refine wpList_st rfl rfl rfl rfl R7 size_M rfl (by simp [Value.oneCell']) ?_
                    intro w8 K8 b8 but8 z8
                    have B9 := B7.trans (b8 _ (Nat.le_refl _))
                    clear b8 but8 z8
                    go_wp2_with (with_reducible show bodyPost _ _ _ _ _ _; refine stop_here ?_)
                    refine ⟨?_⟩
                    refine bodyPost_ret (v := .tuple #[meV 0 false 0 none 0 0, .int .i64 (3)]) (results_cell_tmp_row Tryd.results14 _ _ _ _ _ _ _ _ rfl rfl K8 Tryd.underlying24 rfl size_M) rfl (by rw [hZ.out]; exact mu_err HE.out B9)
                  · have q8 : decide ((M2 : Int) < (len : Int) - 9) = false := by have := hlt.out; simp; omega
                    have HU : Hid (unM ZS = match unE 16 t with
                      | .error E => .error E
                      | .ok L => .ok ⟨(N6 : Nat), bk, x5, L⟩) := by show _ = _; rw [HW2.out, if_neg hs, if_neg hs2]; try rfl
                    clear HW2 hs hs2
                    go_wp2_with fail
                    refine (HUn.out _ B7).mono ?_
                    rintro e' w8 ⟨b8, ⟨L, a2, c2, hL, rfl, o2⟩ | ⟨E, hE, rfl⟩⟩
                    · have HE : Hid (unM ZS = .ok ⟨(N6 : Nat), bk, x5, L⟩) := by show _ = _; rw [HU.out, hL]
                      obtain ⟨L9, hL9⟩ : ∃ L9, L.length = L9 := ⟨_, rfl⟩
                      rw [hL9] at o2
                      rw [hL9]
                      have Y8 := Y7.below b8 Y7.lt
                      have R8 := R7.below b8 R7.lt
                      have B8 := B7.trans (b8.mono B7.size)
                      have hq2 := Y7.lt
                      have hs8 := b8.size
                      have bt := (But.refl q w8.heap.size w8).set (p := ⟨q, 3, none⟩) rfl (.slice a2 L9 c2)
                      have K9 : BK (w8.setCell ⟨q, 3, none⟩ (.slice a2 L9 c2)) q (meC N6 bk x5 a2 L9 c2) 24 := Y8.set 3 (.slice a2 L9 c2)
                      have R9 := R8.but bt R8.lt (by omega)
                      have B9 := B8.setCell (p := ⟨q, 3, none⟩) (by show w.heap.size ≤ q; omega) (.slice a2 L9 c2)
                      have o9 := o2.keep (Nat.le_refl _) bt.size (fun k hk hk2 => bt.block k hk2 (by omega))
                      have sz9 : (w8.setCell ⟨q, 3, none⟩ (.slice a2 L9 c2)).heap.size = w8.heap.size := by simp
                      have y3 := Y8.cell 3 _ rfl
                      have f3 := Y8.frozen 3
                      have lq := Y8.lt
                      clear hL HU hL9 R8 B8 R7 N7 B7 o2 HUn
                      go_wp2_with (first | (with_reducible show wpList _ _ _ (Oper.mk _ (Op.load 24 _) _ _ _ _ :: _) _ _; refine wpList_ld rfl rfl rfl (run_ldM (by with_reducible assumption)) ?_; (try simp only [Act.put, List.setIfInBounds_toArray, List.set_cons_zero, List.set_cons_succ, World.size_alloc])) | (with_reducible show wpList _ _ _ (Oper.mk _ (Op.store 24 _ _) _ _ _ _ :: _) _ _; refine stop_here ?_))
                      refine ⟨?_⟩
                      refine wpList_st rfl rfl rfl rfl R9 size_M rfl (by simp [Value.oneCell']) ?_
                      intro w10 K10 b10 but10 z10
                      have o10 := o9.keep (Nat.le_refl _) (by omega) (fun k hk hk2 => but10.block k hk2 (by have := b8.size; have := Y7.lt; omega))
                      have B11 := B9.trans (b10 _ (Nat.le_refl _))
                      clear b10 but10 z10 o9 B9
                      go_wp2_with (with_reducible show bodyPost _ _ _ _ _ _; refine stop_here ?_)
                      refine ⟨?_⟩
                      refine bodyPost_ret (v := .tuple #[meV N6 bk x5 a2 L9 c2, .int .i64 0]) (results_cell_tmp_row Tryd.results14 _ _ _ _ _ _ _ _ rfl rfl K10 Tryd.underlying24 rfl size_M) rfl (by rw [hZ.out]; exact mu_ok HE.out o10.isI.1 B11)
                    · have HE : Hid (unM ZS = .error E) := by show _ = _; rw [HU.out, hE]
                      have hne : (E != 0) = true := by
                        rcases unE_err_of hE with rfl | rfl | rfl <;> rfl
                      have R8 := R7.below b8 R7.lt
                      have N8 := N7.below b8 N7.lt
                      have B8 := B7.trans (b8.mono B7.size)
                      clear hE HU HUn
                      go_wp2_with (first | (with_reducible show wpList _ _ _ (Oper.mk _ (Op.load 24 _) _ _ _ _ :: _) _ _; refine wpList_ld rfl rfl rfl (run_ldM (by with_reducible assumption)) ?_; (try simp only [Act.put, List.setIfInBounds_toArray, List.set_cons_zero, List.set_cons_succ, World.size_alloc])) | (with_reducible show wpList _ _ _ (Oper.mk _ (Op.store 24 _ _) _ _ _ _ :: _) _ _; refine stop_here ?_))
                      refine ⟨?_⟩
                      refine wpList_st rfl rfl rfl rfl R8 size_M rfl (by simp [Value.oneCell']) ?_
                      intro w8 K8 b8 but8 z8
                      have B9 := B8.trans (b8 _ (Nat.le_refl _))
                      clear b8 but8 z8
                      go_wp2_with (with_reducible show bodyPost _ _ _ _ _ _; refine stop_here ?_)
                      refine ⟨?_⟩
                      refine bodyPost_ret (v := .tuple #[meV 0 false 0 none 0 0, .int .i64 (E)]) (results_cell_tmp_row Tryd.results14 _ _ _ _ _ _ _ _ rfl rfl K8 Tryd.underlying24 rfl size_M) rfl (by rw [hZ.out]; exact mu_err HE.out B9)
        · have HE : Hid (unM ZS = .error 5) := by show _ = _; rw [HW.out, if_pos (.inr (.inr (.inl e6)))]
          have p6 : ((x6 : Int) != 128) = true := by simp; omega
          clear HW e0 e1 e6
          go_wp2_with (first | (with_reducible show wpList _ _ _ (Oper.mk _ (Op.load 24 _) _ _ _ _ :: _) _ _; refine wpList_ld rfl rfl rfl (run_ldM (by with_reducible assumption)) ?_; (try simp only [Act.put, List.setIfInBounds_toArray, List.set_cons_zero, List.set_cons_succ, World.size_alloc])) | (with_reducible show wpList _ _ _ (Oper.mk _ (Op.store 24 _ _) _ _ _ _ :: _) _ _; refine stop_here ?_))
          refine ⟨?_⟩
          refine wpList_st rfl rfl rfl rfl R5 size_M rfl (by simp [Value.oneCell']) ?_
          intro w8 K8 b8 but8 z8
          have B9 := B5.trans (b8 _ (Nat.le_refl _))
          clear b8 but8 z8
          go_wp2_with (with_reducible show bodyPost _ _ _ _ _ _; refine stop_here ?_)
          refine ⟨?_⟩
          refine bodyPost_ret (v := .tuple #[meV 0 false 0 none 0 0, .int .i64 (5)]) (results_cell_tmp_row Tryd.results14 _ _ _ _ _ _ _ _ rfl rfl K8 Tryd.underlying24 rfl size_M) rfl (by rw [hZ.out]; exact mu_err HE.out B9)
      · have HE : Hid (unM ZS = .error 5) := by show _ = _; rw [HW.out, if_pos (.inr (.inl e1))]
        have p1 : ((x1 : Int) != 3) = true := by simp; omega
        clear HW e0 e1
        go_wp2_with (first | (with_reducible show wpList _ _ _ (Oper.mk _ (Op.load 24 _) _ _ _ _ :: _) _ _; refine wpList_ld rfl rfl rfl (run_ldM (by with_reducible assumption)) ?_; (try simp only [Act.put, List.setIfInBounds_toArray, List.set_cons_zero, List.set_cons_succ, World.size_alloc])) | (with_reducible show wpList _ _ _ (Oper.mk _ (Op.store 24 _ _) _ _ _ _ :: _) _ _; refine stop_here ?_))
        refine ⟨?_⟩
        refine wpList_st rfl rfl rfl rfl R5 size_M rfl (by simp [Value.oneCell']) ?_
        intro w8 K8 b8 but8 z8
        have B9 := B5.trans (b8 _ (Nat.le_refl _))
        clear b8 but8 z8
        go_wp2_with (with_reducible show bodyPost _ _ _ _ _ _; refine stop_here ?_)
        refine ⟨?_⟩
        refine bodyPost_ret (v := .tuple #[meV 0 false 0 none 0 0, .int .i64 (5)]) (results_cell_tmp_row Tryd.results14 _ _ _ _ _ _ _ _ rfl rfl K8 Tryd.underlying24 rfl size_M) rfl (by rw [hZ.out]; exact mu_err HE.out B9)
    · have HE : Hid (unM ZS = .error 5) := by show _ = _; rw [HW.out, if_pos (.inl e0)]
      have p0 : ((x0 : Int) != 9) = true := by simp; omega
      clear HW e0
      go_wp2_with (first | (with_reducible show wpList _ _ _ (Oper.mk _ (Op.load 24 _) _ _ _ _ :: _) _ _; refine wpList_ld rfl rfl rfl (run_ldM (by with_reducible assumption)) ?_; (try simp only [Act.put, List.setIfInBounds_toArray, List.set_cons_zero, List.set_cons_succ, World.size_alloc])) | (with_reducible show wpList _ _ _ (Oper.mk _ (Op.store 24 _ _) _ _ _ _ :: _) _ _; refine stop_here ?_))
      refine ⟨?_⟩
      refine wpList_st rfl rfl rfl rfl R5 size_M rfl (by simp [Value.oneCell']) ?_
      intro w8 K8 b8 but8 z8
      have B9 := B5.trans (b8 _ (Nat.le_refl _))
      clear b8 but8 z8
      go_wp2_with (with_reducible show bodyPost _ _ _ _ _ _; refine stop_here ?_)
      refine ⟨?_⟩
      refine bodyPost_ret (v := .tuple #[meV 0 false 0 none 0 0, .int .i64 (5)]) (results_cell_tmp_row Tryd.results14 _ _ _ _ _ _ _ _ rfl rfl K8 Tryd.underlying24 rfl size_M) rfl (by rw [hZ.out]; exact mu_err HE.out B9)
end Go.Proofs.YtbjeljmnknibnaaDoor
