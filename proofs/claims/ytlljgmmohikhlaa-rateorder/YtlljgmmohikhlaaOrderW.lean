/- Proved here: the walk of the law RateOrder. Conditions: as each theorem states them. -/
import Derived.Test.YtlljgmmohikhlaaAw
namespace Go.Proofs.Ytlljgmmohikhlaa
set_option linter.unusedSimpArgs false
set_option linter.unusedVariables false
open Go.RowKit Go.Shelf

set_option maxHeartbeats 2000000 in
theorem order_lt (a b : Nat) (n m : Int) (ha : a < 65536) (hb : b < 65536) (hn : (Lit.int .i64 n).wf = true) (hm : (Lit.int .i64 m).wf = true) (hnm : n < m) (w : World) :
    Calls Try.prog 4 #[.int .u16 a, .int .u16 b, .int .i64 n, .int .i64 m] w fun e w' => e = .returned (.bool true) ∧ Below w.heap.size w w' := by
  have hlt : riB a = true → riB b = true → (scN a < scN b ↔ a < b) := fun h1 h2 => scN_lt_iff h1 h2
  have hst : scN a ≤ scN b → stN b ≤ stN a := stN_anti
  have hca := right_calls a ha w
  have hcb := right_calls b hb w
  have hsa := scaled_calls a ha w
  have hsb := scaled_calls b hb w
  have hta := step_calls a ha w
  have htb := step_calls b hb w
  obtain ⟨ra, ea⟩ : ∃ r, riB a = r := ⟨_, rfl⟩
  obtain ⟨rb, eb⟩ : ∃ r, riB b = r := ⟨_, rfl⟩
  obtain ⟨sa, esa⟩ : ∃ r, scN a = r := ⟨_, rfl⟩
  obtain ⟨sb, esb⟩ : ∃ r, scN b = r := ⟨_, rfl⟩
  obtain ⟨ta, eta⟩ : ∃ r, stN a = r := ⟨_, rfl⟩
  obtain ⟨tb, etb⟩ : ∃ r, stN b = r := ⟨_, rfl⟩
  rw [ea] at hca hlt
  rw [eb] at hcb hlt
  rw [esa] at hsa hlt hst
  rw [esb] at hsb hlt hst
  rw [eta] at hta hst
  rw [etb] at htb hst
  clear ea eb esa esb eta etb
  have HL : Hid (ra = true → rb = true → (sa < sb ↔ a < b)) := hlt
  have HT : Hid (sa ≤ sb → tb ≤ ta) := hst
  clear hlt hst
  by_cases hra : ra = false
  · subst hra
    go_enter Try.func4, Try.ntmps4
    go_wp2_with fail
    refine (awake_calls _).mono ?_
    rintro e w1 ⟨rfl, rfl⟩
    go_wp2_with fail
    refine hca.mono ?_
    rintro e w1 ⟨rfl, rfl⟩
    clear hca hcb hsa hsb hta htb
    go_wp2_with fail
    refine (code_calls n (by assumption) _).mono ?_
    rintro e w2 ⟨⟨c1, rfl, h1⟩, rfl⟩
    have H1 : Hid (IsC n c1) := h1
    clear h1
    go_wp2_with fail
    refine (code_calls m (by assumption) _).mono ?_
    rintro e w2 ⟨⟨c2, rfl, h2⟩, rfl⟩
    have hle : (c1 : Int) ≤ (c2 : Int) := by have := isC_mono H1.out h2 (by omega); omega
    clear h2
    go_wp2_with fail
    refine (code_calls n (by assumption) _).mono ?_
    rintro e w2 ⟨⟨c3, rfl, h3⟩, rfl⟩
    obtain ⟨r3, l3⟩ := isC_right h3
    have R3 : Hid (riB c3 = true) := r3
    have l3' : c3 < 65536 := by omega
    clear r3 h3 l3
    go_wp2_with fail
    refine (right_calls c3 l3' _).mono ?_
    rintro e w2 ⟨rfl, rfl⟩
    rw [R3.out]
    go_wp2_with fail
    refine (code_calls n (by assumption) _).mono ?_
    rintro e w2 ⟨⟨c4, rfl, h4⟩, rfl⟩
    have l4 : (c4 : Int) ≤ 32767 := by have := (isC_right h4).2; omega
    clear h4
    go_wp2
    go_ret
    exact ⟨rfl, Below.refl _ _⟩
  obtain rfl : ra = true := by simpa using hra
  by_cases hrb : rb = false
  · subst hrb
    go_enter Try.func4, Try.ntmps4
    go_wp2_with fail
    refine (awake_calls _).mono ?_
    rintro e w1 ⟨rfl, rfl⟩
    go_wp2_with fail
    refine hca.mono ?_
    rintro e w1 ⟨rfl, rfl⟩
    go_wp2_with fail
    refine hcb.mono ?_
    rintro e w1 ⟨rfl, rfl⟩
    clear hca hcb hsa hsb hta htb
    go_wp2_with fail
    refine (code_calls n (by assumption) _).mono ?_
    rintro e w2 ⟨⟨c1, rfl, h1⟩, rfl⟩
    have H1 : Hid (IsC n c1) := h1
    clear h1
    go_wp2_with fail
    refine (code_calls m (by assumption) _).mono ?_
    rintro e w2 ⟨⟨c2, rfl, h2⟩, rfl⟩
    have hle : (c1 : Int) ≤ (c2 : Int) := by have := isC_mono H1.out h2 (by omega); omega
    clear h2
    go_wp2_with fail
    refine (code_calls n (by assumption) _).mono ?_
    rintro e w2 ⟨⟨c3, rfl, h3⟩, rfl⟩
    obtain ⟨r3, l3⟩ := isC_right h3
    have R3 : Hid (riB c3 = true) := r3
    have l3' : c3 < 65536 := by omega
    clear r3 h3 l3
    go_wp2_with fail
    refine (right_calls c3 l3' _).mono ?_
    rintro e w2 ⟨rfl, rfl⟩
    rw [R3.out]
    go_wp2_with fail
    refine (code_calls n (by assumption) _).mono ?_
    rintro e w2 ⟨⟨c4, rfl, h4⟩, rfl⟩
    have l4 : (c4 : Int) ≤ 32767 := by have := (isC_right h4).2; omega
    clear h4
    go_wp2
    go_ret
    exact ⟨rfl, Below.refl _ _⟩
  obtain rfl : rb = true := by simpa using hrb
  have hiff := HL.out rfl rfl
  clear hra hrb HL
  by_cases hab : (a : Int) < (b : Int)
  · have hs : (sa : Int) < (sb : Int) := by omega
    have ht : (tb : Int) ≤ (ta : Int) := by have := HT.out (by omega); omega
    clear hiff HT
    go_enter Try.func4, Try.ntmps4
    go_wp2_with fail
    refine (awake_calls _).mono ?_
    rintro e w1 ⟨rfl, rfl⟩
    go_wp2_with fail
    refine hca.mono ?_
    rintro e w1 ⟨rfl, rfl⟩
    go_wp2_with fail
    refine hcb.mono ?_
    rintro e w1 ⟨rfl, rfl⟩
    go_wp2_with fail
    refine hsa.mono ?_
    rintro e w1 ⟨rfl, rfl⟩
    go_wp2_with fail
    refine hsb.mono ?_
    rintro e w1 ⟨rfl, rfl⟩
    go_wp2_with fail
    refine hta.mono ?_
    rintro e w1 ⟨rfl, rfl⟩
    go_wp2_with fail
    refine htb.mono ?_
    rintro e w1 ⟨rfl, rfl⟩
    clear hca hcb hsa hsb hta htb
    go_wp2_with fail
    refine (code_calls n (by assumption) _).mono ?_
    rintro e w2 ⟨⟨c1, rfl, h1⟩, rfl⟩
    have H1 : Hid (IsC n c1) := h1
    clear h1
    go_wp2_with fail
    refine (code_calls m (by assumption) _).mono ?_
    rintro e w2 ⟨⟨c2, rfl, h2⟩, rfl⟩
    have hle : (c1 : Int) ≤ (c2 : Int) := by have := isC_mono H1.out h2 (by omega); omega
    clear h2
    go_wp2_with fail
    refine (code_calls n (by assumption) _).mono ?_
    rintro e w2 ⟨⟨c3, rfl, h3⟩, rfl⟩
    obtain ⟨r3, l3⟩ := isC_right h3
    have R3 : Hid (riB c3 = true) := r3
    have l3' : c3 < 65536 := by omega
    clear r3 h3 l3
    go_wp2_with fail
    refine (right_calls c3 l3' _).mono ?_
    rintro e w2 ⟨rfl, rfl⟩
    rw [R3.out]
    go_wp2_with fail
    refine (code_calls n (by assumption) _).mono ?_
    rintro e w2 ⟨⟨c4, rfl, h4⟩, rfl⟩
    have l4 : (c4 : Int) ≤ 32767 := by have := (isC_right h4).2; omega
    clear h4
    go_wp2
    go_ret
    exact ⟨rfl, Below.refl _ _⟩
  · have hs : (sb : Int) ≤ (sa : Int) := by omega
    have hab2 : (b : Int) ≤ (a : Int) := by omega
    clear hiff HT hab
    go_enter Try.func4, Try.ntmps4
    go_wp2_with fail
    refine (awake_calls _).mono ?_
    rintro e w1 ⟨rfl, rfl⟩
    go_wp2_with fail
    refine hca.mono ?_
    rintro e w1 ⟨rfl, rfl⟩
    go_wp2_with fail
    refine hcb.mono ?_
    rintro e w1 ⟨rfl, rfl⟩
    go_wp2_with fail
    refine hsa.mono ?_
    rintro e w1 ⟨rfl, rfl⟩
    go_wp2_with fail
    refine hsb.mono ?_
    rintro e w1 ⟨rfl, rfl⟩
    clear hca hcb hsa hsb hta htb
    go_wp2_with fail
    refine (code_calls n (by assumption) _).mono ?_
    rintro e w2 ⟨⟨c1, rfl, h1⟩, rfl⟩
    have H1 : Hid (IsC n c1) := h1
    clear h1
    go_wp2_with fail
    refine (code_calls m (by assumption) _).mono ?_
    rintro e w2 ⟨⟨c2, rfl, h2⟩, rfl⟩
    have hle : (c1 : Int) ≤ (c2 : Int) := by have := isC_mono H1.out h2 (by omega); omega
    clear h2
    go_wp2_with fail
    refine (code_calls n (by assumption) _).mono ?_
    rintro e w2 ⟨⟨c3, rfl, h3⟩, rfl⟩
    obtain ⟨r3, l3⟩ := isC_right h3
    have R3 : Hid (riB c3 = true) := r3
    have l3' : c3 < 65536 := by omega
    clear r3 h3 l3
    go_wp2_with fail
    refine (right_calls c3 l3' _).mono ?_
    rintro e w2 ⟨rfl, rfl⟩
    rw [R3.out]
    go_wp2_with fail
    refine (code_calls n (by assumption) _).mono ?_
    rintro e w2 ⟨⟨c4, rfl, h4⟩, rfl⟩
    have l4 : (c4 : Int) ≤ 32767 := by have := (isC_right h4).2; omega
    clear h4
    go_wp2
    go_ret
    exact ⟨rfl, Below.refl _ _⟩

set_option maxHeartbeats 2000000 in
theorem order_eq (a b : Nat) (n : Int) (ha : a < 65536) (hb : b < 65536) (hn : (Lit.int .i64 n).wf = true) (w : World) :
    Calls Try.prog 4 #[.int .u16 a, .int .u16 b, .int .i64 n, .int .i64 n] w fun e w' => e = .returned (.bool true) ∧ Below w.heap.size w w' := by
  have hlt : riB a = true → riB b = true → (scN a < scN b ↔ a < b) := fun h1 h2 => scN_lt_iff h1 h2
  have hst : scN a ≤ scN b → stN b ≤ stN a := stN_anti
  have hca := right_calls a ha w
  have hcb := right_calls b hb w
  have hsa := scaled_calls a ha w
  have hsb := scaled_calls b hb w
  have hta := step_calls a ha w
  have htb := step_calls b hb w
  obtain ⟨ra, ea⟩ : ∃ r, riB a = r := ⟨_, rfl⟩
  obtain ⟨rb, eb⟩ : ∃ r, riB b = r := ⟨_, rfl⟩
  obtain ⟨sa, esa⟩ : ∃ r, scN a = r := ⟨_, rfl⟩
  obtain ⟨sb, esb⟩ : ∃ r, scN b = r := ⟨_, rfl⟩
  obtain ⟨ta, eta⟩ : ∃ r, stN a = r := ⟨_, rfl⟩
  obtain ⟨tb, etb⟩ : ∃ r, stN b = r := ⟨_, rfl⟩
  rw [ea] at hca hlt
  rw [eb] at hcb hlt
  rw [esa] at hsa hlt hst
  rw [esb] at hsb hlt hst
  rw [eta] at hta hst
  rw [etb] at htb hst
  clear ea eb esa esb eta etb
  have HL : Hid (ra = true → rb = true → (sa < sb ↔ a < b)) := hlt
  have HT : Hid (sa ≤ sb → tb ≤ ta) := hst
  clear hlt hst
  by_cases hra : ra = false
  · subst hra
    go_enter Try.func4, Try.ntmps4
    go_wp2_with fail
    refine (awake_calls _).mono ?_
    rintro e w1 ⟨rfl, rfl⟩
    go_wp2_with fail
    refine hca.mono ?_
    rintro e w1 ⟨rfl, rfl⟩
    clear hca hcb hsa hsb hta htb
    go_wp2_with fail
    refine (code_calls n (by assumption) _).mono ?_
    rintro e w2 ⟨⟨c1, rfl, h1⟩, rfl⟩
    have H1 : Hid (IsC n c1) := h1
    clear h1
    go_wp2_with fail
    refine (code_calls n (by assumption) _).mono ?_
    rintro e w2 ⟨⟨c2, rfl, h2⟩, rfl⟩
    have hle : (c1 : Int) ≤ (c2 : Int) := by have := isC_mono H1.out h2 (by omega); omega
    clear h2
    go_wp2_with fail
    refine (code_calls n (by assumption) _).mono ?_
    rintro e w2 ⟨⟨c3, rfl, h3⟩, rfl⟩
    obtain ⟨r3, l3⟩ := isC_right h3
    have R3 : Hid (riB c3 = true) := r3
    have l3' : c3 < 65536 := by omega
    clear r3 h3 l3
    go_wp2_with fail
    refine (right_calls c3 l3' _).mono ?_
    rintro e w2 ⟨rfl, rfl⟩
    rw [R3.out]
    go_wp2_with fail
    refine (code_calls n (by assumption) _).mono ?_
    rintro e w2 ⟨⟨c4, rfl, h4⟩, rfl⟩
    have l4 : (c4 : Int) ≤ 32767 := by have := (isC_right h4).2; omega
    clear h4
    go_wp2
    go_ret
    exact ⟨rfl, Below.refl _ _⟩
  obtain rfl : ra = true := by simpa using hra
  by_cases hrb : rb = false
  · subst hrb
    go_enter Try.func4, Try.ntmps4
    go_wp2_with fail
    refine (awake_calls _).mono ?_
    rintro e w1 ⟨rfl, rfl⟩
    go_wp2_with fail
    refine hca.mono ?_
    rintro e w1 ⟨rfl, rfl⟩
    go_wp2_with fail
    refine hcb.mono ?_
    rintro e w1 ⟨rfl, rfl⟩
    clear hca hcb hsa hsb hta htb
    go_wp2_with fail
    refine (code_calls n (by assumption) _).mono ?_
    rintro e w2 ⟨⟨c1, rfl, h1⟩, rfl⟩
    have H1 : Hid (IsC n c1) := h1
    clear h1
    go_wp2_with fail
    refine (code_calls n (by assumption) _).mono ?_
    rintro e w2 ⟨⟨c2, rfl, h2⟩, rfl⟩
    have hle : (c1 : Int) ≤ (c2 : Int) := by have := isC_mono H1.out h2 (by omega); omega
    clear h2
    go_wp2_with fail
    refine (code_calls n (by assumption) _).mono ?_
    rintro e w2 ⟨⟨c3, rfl, h3⟩, rfl⟩
    obtain ⟨r3, l3⟩ := isC_right h3
    have R3 : Hid (riB c3 = true) := r3
    have l3' : c3 < 65536 := by omega
    clear r3 h3 l3
    go_wp2_with fail
    refine (right_calls c3 l3' _).mono ?_
    rintro e w2 ⟨rfl, rfl⟩
    rw [R3.out]
    go_wp2_with fail
    refine (code_calls n (by assumption) _).mono ?_
    rintro e w2 ⟨⟨c4, rfl, h4⟩, rfl⟩
    have l4 : (c4 : Int) ≤ 32767 := by have := (isC_right h4).2; omega
    clear h4
    go_wp2
    go_ret
    exact ⟨rfl, Below.refl _ _⟩
  obtain rfl : rb = true := by simpa using hrb
  have hiff := HL.out rfl rfl
  clear hra hrb HL
  by_cases hab : (a : Int) < (b : Int)
  · have hs : (sa : Int) < (sb : Int) := by omega
    have ht : (tb : Int) ≤ (ta : Int) := by have := HT.out (by omega); omega
    clear hiff HT
    go_enter Try.func4, Try.ntmps4
    go_wp2_with fail
    refine (awake_calls _).mono ?_
    rintro e w1 ⟨rfl, rfl⟩
    go_wp2_with fail
    refine hca.mono ?_
    rintro e w1 ⟨rfl, rfl⟩
    go_wp2_with fail
    refine hcb.mono ?_
    rintro e w1 ⟨rfl, rfl⟩
    go_wp2_with fail
    refine hsa.mono ?_
    rintro e w1 ⟨rfl, rfl⟩
    go_wp2_with fail
    refine hsb.mono ?_
    rintro e w1 ⟨rfl, rfl⟩
    go_wp2_with fail
    refine hta.mono ?_
    rintro e w1 ⟨rfl, rfl⟩
    go_wp2_with fail
    refine htb.mono ?_
    rintro e w1 ⟨rfl, rfl⟩
    clear hca hcb hsa hsb hta htb
    go_wp2_with fail
    refine (code_calls n (by assumption) _).mono ?_
    rintro e w2 ⟨⟨c1, rfl, h1⟩, rfl⟩
    have H1 : Hid (IsC n c1) := h1
    clear h1
    go_wp2_with fail
    refine (code_calls n (by assumption) _).mono ?_
    rintro e w2 ⟨⟨c2, rfl, h2⟩, rfl⟩
    have hle : (c1 : Int) ≤ (c2 : Int) := by have := isC_mono H1.out h2 (by omega); omega
    clear h2
    go_wp2_with fail
    refine (code_calls n (by assumption) _).mono ?_
    rintro e w2 ⟨⟨c3, rfl, h3⟩, rfl⟩
    obtain ⟨r3, l3⟩ := isC_right h3
    have R3 : Hid (riB c3 = true) := r3
    have l3' : c3 < 65536 := by omega
    clear r3 h3 l3
    go_wp2_with fail
    refine (right_calls c3 l3' _).mono ?_
    rintro e w2 ⟨rfl, rfl⟩
    rw [R3.out]
    go_wp2_with fail
    refine (code_calls n (by assumption) _).mono ?_
    rintro e w2 ⟨⟨c4, rfl, h4⟩, rfl⟩
    have l4 : (c4 : Int) ≤ 32767 := by have := (isC_right h4).2; omega
    clear h4
    go_wp2
    go_ret
    exact ⟨rfl, Below.refl _ _⟩
  · have hs : (sb : Int) ≤ (sa : Int) := by omega
    have hab2 : (b : Int) ≤ (a : Int) := by omega
    clear hiff HT hab
    go_enter Try.func4, Try.ntmps4
    go_wp2_with fail
    refine (awake_calls _).mono ?_
    rintro e w1 ⟨rfl, rfl⟩
    go_wp2_with fail
    refine hca.mono ?_
    rintro e w1 ⟨rfl, rfl⟩
    go_wp2_with fail
    refine hcb.mono ?_
    rintro e w1 ⟨rfl, rfl⟩
    go_wp2_with fail
    refine hsa.mono ?_
    rintro e w1 ⟨rfl, rfl⟩
    go_wp2_with fail
    refine hsb.mono ?_
    rintro e w1 ⟨rfl, rfl⟩
    clear hca hcb hsa hsb hta htb
    go_wp2_with fail
    refine (code_calls n (by assumption) _).mono ?_
    rintro e w2 ⟨⟨c1, rfl, h1⟩, rfl⟩
    have H1 : Hid (IsC n c1) := h1
    clear h1
    go_wp2_with fail
    refine (code_calls n (by assumption) _).mono ?_
    rintro e w2 ⟨⟨c2, rfl, h2⟩, rfl⟩
    have hle : (c1 : Int) ≤ (c2 : Int) := by have := isC_mono H1.out h2 (by omega); omega
    clear h2
    go_wp2_with fail
    refine (code_calls n (by assumption) _).mono ?_
    rintro e w2 ⟨⟨c3, rfl, h3⟩, rfl⟩
    obtain ⟨r3, l3⟩ := isC_right h3
    have R3 : Hid (riB c3 = true) := r3
    have l3' : c3 < 65536 := by omega
    clear r3 h3 l3
    go_wp2_with fail
    refine (right_calls c3 l3' _).mono ?_
    rintro e w2 ⟨rfl, rfl⟩
    rw [R3.out]
    go_wp2_with fail
    refine (code_calls n (by assumption) _).mono ?_
    rintro e w2 ⟨⟨c4, rfl, h4⟩, rfl⟩
    have l4 : (c4 : Int) ≤ 32767 := by have := (isC_right h4).2; omega
    clear h4
    go_wp2
    go_ret
    exact ⟨rfl, Below.refl _ _⟩

set_option maxHeartbeats 2000000 in
theorem order_gt (a b : Nat) (n m : Int) (ha : a < 65536) (hb : b < 65536) (hn : (Lit.int .i64 n).wf = true) (hm : (Lit.int .i64 m).wf = true) (hnm : m < n) (w : World) :
    Calls Try.prog 4 #[.int .u16 a, .int .u16 b, .int .i64 n, .int .i64 m] w fun e w' => e = .returned (.bool true) ∧ Below w.heap.size w w' := by
  have hlt : riB a = true → riB b = true → (scN a < scN b ↔ a < b) := fun h1 h2 => scN_lt_iff h1 h2
  have hst : scN a ≤ scN b → stN b ≤ stN a := stN_anti
  have hca := right_calls a ha w
  have hcb := right_calls b hb w
  have hsa := scaled_calls a ha w
  have hsb := scaled_calls b hb w
  have hta := step_calls a ha w
  have htb := step_calls b hb w
  obtain ⟨ra, ea⟩ : ∃ r, riB a = r := ⟨_, rfl⟩
  obtain ⟨rb, eb⟩ : ∃ r, riB b = r := ⟨_, rfl⟩
  obtain ⟨sa, esa⟩ : ∃ r, scN a = r := ⟨_, rfl⟩
  obtain ⟨sb, esb⟩ : ∃ r, scN b = r := ⟨_, rfl⟩
  obtain ⟨ta, eta⟩ : ∃ r, stN a = r := ⟨_, rfl⟩
  obtain ⟨tb, etb⟩ : ∃ r, stN b = r := ⟨_, rfl⟩
  rw [ea] at hca hlt
  rw [eb] at hcb hlt
  rw [esa] at hsa hlt hst
  rw [esb] at hsb hlt hst
  rw [eta] at hta hst
  rw [etb] at htb hst
  clear ea eb esa esb eta etb
  have HL : Hid (ra = true → rb = true → (sa < sb ↔ a < b)) := hlt
  have HT : Hid (sa ≤ sb → tb ≤ ta) := hst
  clear hlt hst
  by_cases hra : ra = false
  · subst hra
    go_enter Try.func4, Try.ntmps4
    go_wp2_with fail
    refine (awake_calls _).mono ?_
    rintro e w1 ⟨rfl, rfl⟩
    go_wp2_with fail
    refine hca.mono ?_
    rintro e w1 ⟨rfl, rfl⟩
    clear hca hcb hsa hsb hta htb
    go_wp2_with fail
    refine (code_calls m (by assumption) _).mono ?_
    rintro e w2 ⟨⟨c1, rfl, h1⟩, rfl⟩
    have H1 : Hid (IsC m c1) := h1
    clear h1
    go_wp2_with fail
    refine (code_calls n (by assumption) _).mono ?_
    rintro e w2 ⟨⟨c2, rfl, h2⟩, rfl⟩
    have hle : (c1 : Int) ≤ (c2 : Int) := by have := isC_mono H1.out h2 (by omega); omega
    clear h2
    go_wp2_with fail
    refine (code_calls n (by assumption) _).mono ?_
    rintro e w2 ⟨⟨c3, rfl, h3⟩, rfl⟩
    obtain ⟨r3, l3⟩ := isC_right h3
    have R3 : Hid (riB c3 = true) := r3
    have l3' : c3 < 65536 := by omega
    clear r3 h3 l3
    go_wp2_with fail
    refine (right_calls c3 l3' _).mono ?_
    rintro e w2 ⟨rfl, rfl⟩
    rw [R3.out]
    go_wp2_with fail
    refine (code_calls n (by assumption) _).mono ?_
    rintro e w2 ⟨⟨c4, rfl, h4⟩, rfl⟩
    have l4 : (c4 : Int) ≤ 32767 := by have := (isC_right h4).2; omega
    clear h4
    go_wp2
    go_ret
    exact ⟨rfl, Below.refl _ _⟩
  obtain rfl : ra = true := by simpa using hra
  by_cases hrb : rb = false
  · subst hrb
    go_enter Try.func4, Try.ntmps4
    go_wp2_with fail
    refine (awake_calls _).mono ?_
    rintro e w1 ⟨rfl, rfl⟩
    go_wp2_with fail
    refine hca.mono ?_
    rintro e w1 ⟨rfl, rfl⟩
    go_wp2_with fail
    refine hcb.mono ?_
    rintro e w1 ⟨rfl, rfl⟩
    clear hca hcb hsa hsb hta htb
    go_wp2_with fail
    refine (code_calls m (by assumption) _).mono ?_
    rintro e w2 ⟨⟨c1, rfl, h1⟩, rfl⟩
    have H1 : Hid (IsC m c1) := h1
    clear h1
    go_wp2_with fail
    refine (code_calls n (by assumption) _).mono ?_
    rintro e w2 ⟨⟨c2, rfl, h2⟩, rfl⟩
    have hle : (c1 : Int) ≤ (c2 : Int) := by have := isC_mono H1.out h2 (by omega); omega
    clear h2
    go_wp2_with fail
    refine (code_calls n (by assumption) _).mono ?_
    rintro e w2 ⟨⟨c3, rfl, h3⟩, rfl⟩
    obtain ⟨r3, l3⟩ := isC_right h3
    have R3 : Hid (riB c3 = true) := r3
    have l3' : c3 < 65536 := by omega
    clear r3 h3 l3
    go_wp2_with fail
    refine (right_calls c3 l3' _).mono ?_
    rintro e w2 ⟨rfl, rfl⟩
    rw [R3.out]
    go_wp2_with fail
    refine (code_calls n (by assumption) _).mono ?_
    rintro e w2 ⟨⟨c4, rfl, h4⟩, rfl⟩
    have l4 : (c4 : Int) ≤ 32767 := by have := (isC_right h4).2; omega
    clear h4
    go_wp2
    go_ret
    exact ⟨rfl, Below.refl _ _⟩
  obtain rfl : rb = true := by simpa using hrb
  have hiff := HL.out rfl rfl
  clear hra hrb HL
  by_cases hab : (a : Int) < (b : Int)
  · have hs : (sa : Int) < (sb : Int) := by omega
    have ht : (tb : Int) ≤ (ta : Int) := by have := HT.out (by omega); omega
    clear hiff HT
    go_enter Try.func4, Try.ntmps4
    go_wp2_with fail
    refine (awake_calls _).mono ?_
    rintro e w1 ⟨rfl, rfl⟩
    go_wp2_with fail
    refine hca.mono ?_
    rintro e w1 ⟨rfl, rfl⟩
    go_wp2_with fail
    refine hcb.mono ?_
    rintro e w1 ⟨rfl, rfl⟩
    go_wp2_with fail
    refine hsa.mono ?_
    rintro e w1 ⟨rfl, rfl⟩
    go_wp2_with fail
    refine hsb.mono ?_
    rintro e w1 ⟨rfl, rfl⟩
    go_wp2_with fail
    refine hta.mono ?_
    rintro e w1 ⟨rfl, rfl⟩
    go_wp2_with fail
    refine htb.mono ?_
    rintro e w1 ⟨rfl, rfl⟩
    clear hca hcb hsa hsb hta htb
    go_wp2_with fail
    refine (code_calls m (by assumption) _).mono ?_
    rintro e w2 ⟨⟨c1, rfl, h1⟩, rfl⟩
    have H1 : Hid (IsC m c1) := h1
    clear h1
    go_wp2_with fail
    refine (code_calls n (by assumption) _).mono ?_
    rintro e w2 ⟨⟨c2, rfl, h2⟩, rfl⟩
    have hle : (c1 : Int) ≤ (c2 : Int) := by have := isC_mono H1.out h2 (by omega); omega
    clear h2
    go_wp2_with fail
    refine (code_calls n (by assumption) _).mono ?_
    rintro e w2 ⟨⟨c3, rfl, h3⟩, rfl⟩
    obtain ⟨r3, l3⟩ := isC_right h3
    have R3 : Hid (riB c3 = true) := r3
    have l3' : c3 < 65536 := by omega
    clear r3 h3 l3
    go_wp2_with fail
    refine (right_calls c3 l3' _).mono ?_
    rintro e w2 ⟨rfl, rfl⟩
    rw [R3.out]
    go_wp2_with fail
    refine (code_calls n (by assumption) _).mono ?_
    rintro e w2 ⟨⟨c4, rfl, h4⟩, rfl⟩
    have l4 : (c4 : Int) ≤ 32767 := by have := (isC_right h4).2; omega
    clear h4
    go_wp2
    go_ret
    exact ⟨rfl, Below.refl _ _⟩
  · have hs : (sb : Int) ≤ (sa : Int) := by omega
    have hab2 : (b : Int) ≤ (a : Int) := by omega
    clear hiff HT hab
    go_enter Try.func4, Try.ntmps4
    go_wp2_with fail
    refine (awake_calls _).mono ?_
    rintro e w1 ⟨rfl, rfl⟩
    go_wp2_with fail
    refine hca.mono ?_
    rintro e w1 ⟨rfl, rfl⟩
    go_wp2_with fail
    refine hcb.mono ?_
    rintro e w1 ⟨rfl, rfl⟩
    go_wp2_with fail
    refine hsa.mono ?_
    rintro e w1 ⟨rfl, rfl⟩
    go_wp2_with fail
    refine hsb.mono ?_
    rintro e w1 ⟨rfl, rfl⟩
    clear hca hcb hsa hsb hta htb
    go_wp2_with fail
    refine (code_calls m (by assumption) _).mono ?_
    rintro e w2 ⟨⟨c1, rfl, h1⟩, rfl⟩
    have H1 : Hid (IsC m c1) := h1
    clear h1
    go_wp2_with fail
    refine (code_calls n (by assumption) _).mono ?_
    rintro e w2 ⟨⟨c2, rfl, h2⟩, rfl⟩
    have hle : (c1 : Int) ≤ (c2 : Int) := by have := isC_mono H1.out h2 (by omega); omega
    clear h2
    go_wp2_with fail
    refine (code_calls n (by assumption) _).mono ?_
    rintro e w2 ⟨⟨c3, rfl, h3⟩, rfl⟩
    obtain ⟨r3, l3⟩ := isC_right h3
    have R3 : Hid (riB c3 = true) := r3
    have l3' : c3 < 65536 := by omega
    clear r3 h3 l3
    go_wp2_with fail
    refine (right_calls c3 l3' _).mono ?_
    rintro e w2 ⟨rfl, rfl⟩
    rw [R3.out]
    go_wp2_with fail
    refine (code_calls n (by assumption) _).mono ?_
    rintro e w2 ⟨⟨c4, rfl, h4⟩, rfl⟩
    have l4 : (c4 : Int) ≤ 32767 := by have := (isC_right h4).2; omega
    clear h4
    go_wp2
    go_ret
    exact ⟨rfl, Below.refl _ _⟩

theorem order_walk (x y n m : Int) (hx : (Lit.int .u16 x).wf = true) (hy : (Lit.int .u16 y).wf = true) (hn : (Lit.int .i64 n).wf = true) (hm : (Lit.int .i64 m).wf = true) (w : World) :
    Calls Try.prog 4 #[.int .u16 x, .int .u16 y, .int .i64 n, .int .i64 m] w fun e w' => e = .returned (.bool true) ∧ Below w.heap.size w w' := by
  obtain ⟨a, rfl, ha⟩ := code_nat hx
  obtain ⟨b, rfl, hb⟩ := code_nat hy
  rcases Int.lt_trichotomy n m with h | rfl | h
  · exact order_lt a b n m ha hb hn hm h w
  · exact order_eq a b n ha hb hn w
  · exact order_gt a b n m ha hb hn hm h w
end Go.Proofs.Ytlljgmmohikhlaa
