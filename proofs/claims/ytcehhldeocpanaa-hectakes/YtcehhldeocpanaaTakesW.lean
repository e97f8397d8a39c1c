/- Proved here: the walk of HecTakes. Conditions: as each theorem states them. -/
import Derived.Test.YtcehhldeocpanaaRefTake
import Derived.Test.YtcehhldeocpanaaSame
namespace Go.Proofs.Ytcehhldeocpanaa
open Go.RowKit

theorem new_qc (w : World) : QC (w.alloc (.cells #[.bool false, .int .i64 0, .int .i64 0] 31)) w.heap.size 0 0 false := bk_new w _ 31

set_option maxHeartbeats 4000000 in
theorem takes_walk (a : Option Addr) (len cap : Nat) (L : List (List UInt8)) (w : World) (hL : IsA 5 w.heap.size w a len L) (hcap : len ≤ cap) :
    Calls Try.prog 3 #[.slice a len cap] w fun e w' => e = .returned (.bool true) ∧ Below w.heap.size w w' := by
  by_cases hl1 : 100 < len
  · have q1 : decide (100 < (len : Int)) = true := by simp; omega
    clear hL
    go_enter Try.func3, Try.ntmps3
    go_wp2_with fail
    refine (awake_calls _).mono ?_
    rintro e w1 ⟨rfl, b1⟩
    go_wp2_with fail
    refine (awake_calls _).mono ?_
    rintro e w2 ⟨rfl, b2⟩
    go_wp2
    go_ret
    exact ⟨rfl, b1.trans (b2.mono b1.size)⟩
  have q1 : decide (100 < (len : Int)) = false := by simp; omega
  have hl : len ≤ 100 := by omega
  clear hl1
  go_enter Try.func3, Try.ntmps3
  go_wp2_with fail
  refine (awake_calls _).mono ?_
  rintro e w1 ⟨rfl, B1⟩
  have z1 := B1.size
  go_wp2
  obtain ⟨W, hW⟩ : ∃ W, (w1.alloc (.cells #[.int .i64 0, .int .i64 0, .bool false] 28)).alloc (.cells #[.bool false, .int .i64 0, .int .i64 0] 31) = W := ⟨_, rfl⟩
  have R0 : RC ((w1.alloc (.cells #[.int .i64 0, .int .i64 0, .bool false] 28)).alloc (.cells #[.bool false, .int .i64 0, .int .i64 0] 31)) w1.heap.size 0 0 false := BK.alloc (new_rc w1) _
  have Q0 := new_qc (w1.alloc (.cells #[.int .i64 0, .int .i64 0, .bool false] 28))
  rw [World.size_alloc] at Q0
  have BW : Below w.heap.size w ((w1.alloc (.cells #[.int .i64 0, .int .i64 0, .bool false] 28)).alloc (.cells #[.bool false, .int .i64 0, .int .i64 0] 31)) := (B1.alloc B1.size _).alloc (by simp; omega) _
  rw [hW] at R0 Q0 BW ⊢
  clear hW B1
  go_loopw [24] (fun i wr => ∃ (k p d : Nat) (c : Bool), k ≤ len ∧ i = .int .i64 k ∧ p + d ≤ k ∧ RC wr w1.heap.size p d c ∧ QC wr (w1.heap.size + 1) p d c ∧ Below w1.heap.size W wr) (fun i _ => len - (intOf i).toNat)
  case atStart => exact ⟨0, 0, 0, false, Nat.zero_le _, rfl, Nat.le_refl _, R0, Q0, Below.refl _ _⟩
  case round =>
    obtain ⟨k, p, d, c, hk, rfl, hpd, R1, Q1, b1⟩ := hrel
    have B1 : Below w.heap.size w _ := BW.trans (b1.mono (by omega))
    clear R0 Q0 BW
    by_cases hlt : k < len
    · have J1 := hL.below B1 (Nat.le_refl _)
      obtain ⟨b, off, t0, t1, t2, t3, t4, rfl, hb, hx, c0, c1, c2, c3, c4⟩ := J1.five hlt
      have I1 := J1.isB rfl hx
      clear hx J1
      go_wp2_with fail
      refine (take_calls w1.heap.size p d c t0 t1 t2 t3 t4 _ R1 (by omega) (by omega)).mono ?_
      rintro e w2 ⟨y0, y1, y2, y3, ho, rfl, R2, b2⟩
      have hr := R1.lt
      have hq := Q1.lt
      have hs := res_sum c [t0, t1, t2, t3, t4]
      have HO : Hid ((res c [t0, t1, t2, t3, t4]).out [t0, t1, t2, t3, t4] = [y0, y1, y2, y3]) := ho
      have b12 : Below w1.heap.size W w2 := b1.trans (b2.below (by omega) (Nat.le_refl _))
      have Q2 := Q1.but b2 hq (by omega)
      have I2 := I1.below (b2.below (m := w.heap.size) (by omega) (by omega)) (Nat.le_refl _)
      have hq2 := Q2.lt
      have R3 := BK.alloc R2 (.cells (vals [y0, y1, y2, y3]).toArray 32)
      have Q3 := BK.alloc Q2 (.cells (vals [y0, y1, y2, y3]).toArray 32)
      have Y3 := bk_new w2 (vals [y0, y1, y2, y3]).toArray 32
      have I3 := I2.below ((Below.refl _ w2).alloc (Nat.le_refl _) (.cells (vals [y0, y1, y2, y3]).toArray 32)) (by omega)
      have b13 : Below w1.heap.size W (w2.alloc (.cells (vals [y0, y1, y2, y3]).toArray 32)) := b12.alloc (by omega) _
      clear ho c0 c1 c2 c3 c4 R1 Q1 b2 I1 I2 b12 R2 Q2 hL B1 b1
      go_wp2_with fail
      refine (reftake_calls (w1.heap.size + 1) p d c b (off + k * 5) t0 t1 t2 t3 t4 _ I3 (by omega) Q3 (by omega) (by omega)).mono ?_
      rintro e w4 ⟨a4, c4, rfl, J4, Q4, b4⟩
      rw [HO.out] at J4
      have R4 := R3.but b4 (BK.lt R3) (by omega)
      have Y4 := Y3.but b4 Y3.lt (by omega)
      have b14 : Below w1.heap.size W w4 := b13.trans (b4.below (by simp; omega) (by omega))
      clear R3 Q3 Y3 I3 b4 b13 HO
      generalize res c [t0, t1, t2, t3, t4] = q at *
      obtain ⟨p2, hp2⟩ : ∃ p2, p + q.rep = p2 := ⟨_, rfl⟩
      obtain ⟨d2, hd2⟩ : ∃ d2, d + q.drop = d2 := ⟨_, rfl⟩
      obtain ⟨cf, hcf⟩ : ∃ cf, q.careful = cf := ⟨_, rfl⟩
      obtain ⟨okq, hok⟩ : ∃ okq, q.ok = okq := ⟨_, rfl⟩
      rw [hp2, hd2, hcf] at R4 Q4
      rw [hok]
      have RR : RC w4 w1.heap.size p2 d2 cf := R4
      have QQ : QC w4 (w1.heap.size + 1) p2 d2 cf := Q4
      have HP : Hid (p2 + d2 ≤ k + 1) := by show p2 + d2 ≤ k + 1; omega
      have YI := (BK.isB Y4).drew
      have JI := J4.drew
      clear R4 Q4 hp2 hd2 hcf hok hs Y4 J4
      obtain ⟨k0, k1, k2, f0, f1, f2⟩ := QQ.facts
      clear f0 f1 f2
      go_wp2_with fail
      first | (go_region_held (fun w' => w'.cell? ⟨w1.heap.size + 1, 0, none⟩ = some (.bool cf) ∧ w'.cell? ⟨w1.heap.size + 1, 1, none⟩ = some (.int .i64 (p2 : Nat)) ∧ w'.cell? ⟨w1.heap.size + 1, 2, none⟩ = some (.int .i64 (d2 : Nat))) (go_keep) (first | (go_at_call 12; refine (same_calls _ _ _ _ _ _ _ _ _ YI JI (Nat.le_refl _) (Nat.le_refl _) (by show 4 ≤ 100000; decide)).mono ?_; rintro e w5 ⟨rfl, b5⟩; rw [beq_self_eq_true]; have R5 := RC.below (w := w4.drew) RR b5 RR.lt; have Q5 := QC.below (w := w4.drew) QQ b5 QQ.lt; have b15 : Below w1.heap.size W w5 := b14.drew.trans (b5.mono (Nat.le_of_lt RR.lt)); obtain ⟨m0, m1, m2, _⟩ := Q5.facts) | (go_at_call 13; refine (careful_calls w1.heap.size p2 d2 cf _ R5).mono ?_; rintro e w6 ⟨rfl, rfl⟩) | (go_at_call 14; refine (repaired_calls w1.heap.size p2 d2 cf _ R5).mono ?_; rintro e w7 ⟨rfl, rfl⟩) | (go_at_call 15; refine (dropped_calls w1.heap.size p2 d2 cf _ R5).mono ?_; rintro e w8 ⟨rfl, rfl⟩))) | fail
      all_goals
        go_wp2
        go_roundw
        case rel => exact ⟨k + 1, p2, d2, cf, by omega, by go_num, HP.out, R5, Q5, b15⟩
        case measure => simp [intOf]; omega
    · obtain rfl : k = len := by omega
      go_wp2
      go_ret
      exact ⟨rfl, B1⟩
end Go.Proofs.Ytcehhldeocpanaa
