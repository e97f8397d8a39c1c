/- Proved here: the law MessageKinds' walk. Conditions: as each theorem states them. -/
import Derived.Test.YtbjeljmnknibnaaDoorAw
import Derived.Deep.DeepCutAuto
namespace Go.Proofs.YtbjeljmnknibnaaDoor
set_option linter.unusedSimpArgs false
set_option linter.unusedVariables false
set_option maxRecDepth 20000
open Go.RowKit Go.Shelf

theorem right_nil (r : Int) (b : Bool) (k : Int) : rightM (mk r b k []) = (decide (1 ≤ r) && (decide (r ≤ 8388607) && knownB k)) := by
  rw [right_of, show okL [] = true by decide]; rfl
theorem bytes_nil (r : Int) (b : Bool) (k : Int) : bytesM (mk r b k []) = headM (r.toNat + backN b) k.toNat 0 := by
  unfold bytesM
  simp [bytesE]
theorem third (r k : Nat) : (headM r k 0)[2]? = some (UInt8.ofNat (r / 65536)) := rfl
theorem third_back {r : Int} (h1 : 1 ≤ r) (h2 : r ≤ 8388607) (b : Bool) : decide ((127 : Int) < ((UInt8.ofNat ((r.toNat + backN b) / 65536)).toNat : Int)) = b := by
  rw [byteN]
  cases b
  · simp [backN]; omega
  · simp [backN]; omega
theorem known_no {k : Int} (h2 : k ≠ 2) (h5 : k ≠ 5) (h7 : k ≠ 7) (h77 : k ≠ 77) (h90 : k ≠ 90) : knownB k = false := by
  unfold knownB; simp; omega

set_option maxHeartbeats 4000000 in
theorem kinds_walk (r k : Int) (b : Bool) (w : World) (ht : Tab w) :
    Calls Tryd.prog 7 #[.int .i64 r, .int .i64 k, .bool b] w fun e w' => e = .returned (.bool true) ∧ Below w.heap.size w w' := by
  go_enter Tryd.func7, Tryd.ntmps7
  go_wp2_with fail
  refine (awake_calls w ht).mono ?_
  rintro e w1 ⟨rfl, b1⟩
  go_upto_region 3 with fail
  go_cut [7] (fun s wx => s = .bool (knownB k) ∧ Below w.heap.size w wx)
  case first =>
    by_cases h2 : k = 2
    · subst h2
      go_wp2
      go_meet
      exact ⟨rfl, b1⟩
    by_cases h5 : k = 5
    · subst h5
      go_wp2
      go_meet
      exact ⟨rfl, b1⟩
    by_cases h7 : k = 7
    · subst h7
      go_wp2
      go_meet
      exact ⟨rfl, b1⟩
    by_cases h77 : k = 77
    · subst h77
      go_wp2
      go_meet
      exact ⟨rfl, b1⟩
    by_cases h90 : k = 90
    · subst h90
      go_wp2
      go_meet
      exact ⟨rfl, b1⟩
    have hk : Hid (knownB k = false) := known_no h2 h5 h7 h77 h90
    have q2 : (k == 2) = false := by simpa using h2
    have q5 : (k == 5) = false := by simpa using h5
    have q7 : (k == 7) = false := by simpa using h7
    have q77 : (k == 77) = false := by simpa using h77
    have q90 : (k == 90) = false := by simpa using h90
    clear h2 h5 h7 h77 h90
    go_wp2
    go_meet
    exact ⟨congrArg Value.bool hk.out.symm, b1⟩
  case rest =>
  obtain ⟨rfl, B2⟩ := hcut
  clear b1
  have HR : Hid (rightM (mk r b k []) = (decide (1 ≤ r) && (decide (r ≤ 8388607) && knownB k))) := right_nil r b k
  have A3 := me_below (w := wc) (r := r) (b := b) (k := k) (a := none) (n := 0) (c := 0)
  have K3 := me_box (w := wc) (r := r) (b := b) (k := k) (a := none) (n := 0) (c := 0)
  have B3 := B2.trans (A3.mono B2.size)
  have HP := mpack_calls r b k none 0 0 [] _ (isI_nil 0 (wc.alloc (.cells (meC r b k none 0 0) 24)) none) (Nat.zero_le _) (by decide) (ht.on B3)
  have HG := fun w4 (hb : Below w.heap.size w w4) => mright_calls r b k none 0 0 [] w4 (isI_nil 0 w4 none) (Nat.zero_le _) (by decide) (ht.on hb)
  have HL : Hid ((bytesM (mk r b k [])).length = 9) := by show _ = _; rw [bytes_nil, headM_length]
  have HB : Hid ((bytesM (mk r b k []))[2]? = some (UInt8.ofNat ((r.toNat + backN b) / 65536))) := by show _ = _; rw [bytes_nil, third]
  have HT3 : Hid (1 ≤ r → r ≤ 8388607 → decide ((127 : Int) < ((UInt8.ofNat ((r.toNat + backN b) / 65536)).toNat : Int)) = b) := fun h1 h2 => third_back h1 h2 b
  clear ht A3 B2
  obtain ⟨fine, hf⟩ : ∃ fine, rightM (mk r b k []) = fine := ⟨_, rfl⟩
  unfold MpAns at HP
  rw [hf] at HP
  have HF : Hid (rightM (mk r b k []) = fine) := hf
  have HG : Hid (∀ w4, Below w.heap.size w w4 → Calls Tryd.prog 17 #[meV r b k none 0 0] w4 fun e w' => e = .returned (.bool fine) ∧ Below w4.heap.size w4 w') := by
    rw [← hf]; exact HG
  clear hf
  have NO : Hid (fine = false → ((∃ q : knownB k = false, True) ∨ (∃ q : knownB k = true, decide (1 ≤ r) = false) ∨ (∃ q : knownB k = true, decide (1 ≤ r) = true ∧ decide (r ≤ 8388607) = false))) := by
    intro h
    have := HF.out.symm.trans HR.out
    rw [h] at this
    cases hk : knownB k
    · exact .inl ⟨rfl, trivial⟩
    cases h1 : decide (1 ≤ r)
    · exact .inr (.inl ⟨rfl, rfl⟩)
    cases h2 : decide (r ≤ 8388607)
    · exact .inr (.inr ⟨rfl, rfl, rfl⟩)
    · rw [hk, h1, h2] at this; cases this
  cases fine
  · rcases NO.out rfl with ⟨q1, -⟩ | ⟨q1, q2⟩ | ⟨q1, q2, q3⟩ <;>
    · rw [q1]
      clear NO q1
      go_wp2_with (with_reducible show wpList _ _ _ (Oper.mk _ (Op.load 24 _) _ _ _ _ :: _) _ _; refine wpList_ld rfl rfl rfl (run_ldM (by with_reducible assumption)) ?_; (try simp only [Act.put, List.setIfInBounds_toArray, List.set_cons_zero, List.set_cons_succ, World.size_alloc]))
      refine HP.mono ?_
      rintro e w4 ⟨b4, ⟨-, rfl⟩ | ⟨hx, -⟩ | ⟨hx, -⟩⟩
      · have B4 := B3.trans (b4.mono B3.size)
        have K4 := K3.below b4 K3.lt
        clear HP K3
        go_wp2_with (with_reducible show wpList _ _ _ (Oper.mk _ (Op.load 24 _) _ _ _ _ :: _) _ _; refine wpList_ld rfl rfl rfl (run_ldM (by with_reducible assumption)) ?_; (try simp only [Act.put, List.setIfInBounds_toArray, List.set_cons_zero, List.set_cons_succ, World.size_alloc]))
        refine (HG.out w4 B4).mono ?_
        rintro e w5 ⟨rfl, b5⟩
        go_wp2
        go_ret
        exact ⟨rfl, B4.trans (b5.mono B4.size)⟩
      · cases hx
      · cases hx
  · have q : knownB k = true ∧ 1 ≤ r ∧ r ≤ 8388607 := by
      have := HF.out.symm.trans HR.out
      simpa [and_comm, and_assoc, and_left_comm] using this.symm
    obtain ⟨q1, h1, h2⟩ := q
    have q2 : decide (1 ≤ r) = true := by simpa using h1
    have q3 : decide (r ≤ 8388607) = true := by simpa using h2
    have q4 := HT3.out h1 h2
    obtain ⟨y, hy⟩ : ∃ y, UInt8.ofNat ((r.toNat + backN b) / 65536) = y := ⟨_, rfl⟩
    rw [hy] at q4 HB
    rw [q1]
    clear NO q1 h1 h2 HT3 hy
    go_wp2_with (with_reducible show wpList _ _ _ (Oper.mk _ (Op.load 24 _) _ _ _ _ :: _) _ _; refine wpList_ld rfl rfl rfl (run_ldM (by with_reducible assumption)) ?_; (try simp only [Act.put, List.setIfInBounds_toArray, List.set_cons_zero, List.set_cons_succ, World.size_alloc]))
    refine HP.mono ?_
    rintro e w4 ⟨b4, ⟨hx, -⟩ | ⟨-, hx, -⟩ | ⟨-, -, a4, c4, rfl, o4⟩⟩
    · cases hx
    · rw [HL.out] at hx; exact absurd hx (by decide)
    have B4 := B3.trans (b4.mono B3.size)
    have K4 := K3.below b4 K3.lt
    rw [HL.out] at o4
    rw [HL.out]
    clear HP K3
    go_wp2_with (with_reducible show wpList _ _ _ (Oper.mk _ (Op.load 24 _) _ _ _ _ :: _) _ _; refine wpList_ld rfl rfl rfl (run_ldM (by with_reducible assumption)) ?_; (try simp only [Act.put, List.setIfInBounds_toArray, List.set_cons_zero, List.set_cons_succ, World.size_alloc]))
    refine (HG.out w4 B4).mono ?_
    rintro e w5 ⟨rfl, b5⟩
    have o5 := (o4.below b5 (Nat.le_refl _)).isB
    obtain ⟨b9, o9, rfl, _, C9⟩ := o5.1.cell HB.out
    have c9 := C9 2 y HB.out
    clear C9 o5 o4 HG
    go_wp2
    go_ret
    exact ⟨rfl, B4.trans (b5.mono B4.size)⟩
end Go.Proofs.YtbjeljmnknibnaaDoor
