/- Proved here: a policer by its numbers alone: what New makes, what Take answers and leaves, as plain functions. Conditions: as each theorem states them. -/
import Derived.Test.YtlaomjhibaoglaaPNew
namespace Go.Proofs.Ytlaomjhibaoglaa
set_option linter.unusedSimpArgs false
set_option linter.unusedVariables false
open Go.RowKit Go.Shelf

/-- What a policer's contract says: is there a second rule, is that of loss priority 0 alone, does it tag; the rules' steps and EARLYs. -/
structure PK where
  two : Bool
  z : Bool
  tg : Bool
  p : Int
  e : Int
  w : Int
  B : Int
/-- Where a policer lies. -/
structure PA where
  r : Nat
  g : Nat
  cap : Nat
  b1 : Nat
  b2 : Nat
def LL (K : PK) (A : PA) (T1 T2 : Int) : List Lim := ⟨A.b1, false, false, K.p, K.e, T1⟩ :: (bif K.two then [⟨A.b2, K.z, K.tg, K.w, K.B, T2⟩] else [])
structure PV (W : World) (K : PK) (A : PA) (al : Bool) (T1 T2 c0 c1 c2 c3 : Int) : Prop where
  pc : PC W A.r A.g A.cap (LL K A T1 T2) al c0 c1 c2 c3
  b2 : A.b2 < W.heap.size

/-- Does a cell ask the second rule? What is the verdict by the rules, the verdict, and what is kept then? -/
def ask2 (K : PK) (c : Int) : Bool := K.two && (!K.z || c == 0)
def v0N (K : PK) (T1 T2 t c : Int) : Int := bif fitN K.e T1 t then (bif ask2 K c && !fitN K.B T2 t then (bif K.tg then 2 else 3) else 1) else 3
def vN (K : PK) (al : Bool) (T1 T2 t c : Int) : Int := bif (v0N K T1 T2 t c == 1) && (al && c == 0) then 2 else v0N K T1 T2 t c
def n1N (K : PK) (T1 T2 t c : Int) : Int := bif v0N K T1 T2 t c == 3 then T1 else nextN K.p T1 t
def n2N (K : PK) (T1 T2 t c : Int) : Int := bif (v0N K T1 T2 t c == 1) && ask2 K c then nextN K.w T2 t else T2
def cnt (v i c : Int) : Int := bif v == i then c + 1 else c

theorem asks_b1 (A : PA) (K : PK) (T1 c : Int) : asks c ⟨A.b1, false, false, K.p, K.e, T1⟩ = true := rfl
theorem judge_LL (K : PK) (A : PA) (T1 T2 t c : Int) : judgeN t (askedL c (LL K A T1 T2)) = v0N K T1 T2 t c := by
  obtain ⟨two, z, tg, p, e, w, B⟩ := K
  unfold judgeN softN askedL LL v0N ask2
  cases two <;> cases z <;> cases tg <;> cases hc : (c == 0) <;> cases h1 : fitN e T1 t <;> cases h2 : fitN B T2 t <;> simp [asks, fitL, hc, h1, h2]
theorem v0N_cases (K : PK) (T1 T2 t c : Int) : v0N K T1 T2 t c = 1 ∨ v0N K T1 T2 t c = 2 ∨ v0N K T1 T2 t c = 3 := by
  unfold v0N
  cases fitN K.e T1 t <;> cases (ask2 K c && !fitN K.B T2 t) <;> cases K.tg <;> simp
theorem fill_pass (K : PK) (A : PA) (T1 T2 t c : Int) (hv : v0N K T1 T2 t c = 1) : (LL K A T1 T2).map (fillL t c) = LL K A (n1N K T1 T2 t c) (n2N K T1 T2 t c) := by
  unfold n1N n2N
  rw [hv]
  unfold v0N at hv
  obtain ⟨two, z, tg, p, e, w, B⟩ := K
  unfold ask2 at *
  cases h1 : fitN e T1 t
  · simp [h1] at hv
  · cases two <;> cases z <;> cases tg <;> cases hc : (c == 0) <;> cases h2 : fitN B T2 t <;> simp [hc, h1, h2] at hv <;> simp [LL, fillL, asks, hc, stepT, h1, h2]
theorem fill_tag (K : PK) (hK : K.tg = true → K.z = true) (A : PA) (T1 T2 t c : Int) (hv : v0N K T1 T2 t c = 2) : (LL K A T1 T2).map (fillL t 1) = LL K A (n1N K T1 T2 t c) (n2N K T1 T2 t c) := by
  unfold n1N n2N
  rw [hv]
  unfold v0N at hv
  obtain ⟨two, z, tg, p, e, w, B⟩ := K
  unfold ask2 at *
  simp only at hK
  cases h1 : fitN e T1 t
  · simp [h1] at hv
  · cases two <;> cases z <;> cases tg <;> cases hc : (c == 0) <;> cases h2 : fitN B T2 t <;> simp [hc, h1, h2] at hv hK <;> simp [LL, fillL, asks, stepT, h1]
theorem pb_sub (K : PK) (A : PA) (T1 T2 : Int) : ∀ k ∈ PB A.r (LL K A T1 T2), k ∈ [A.r, A.b1, A.b2] := by
  intro k hk
  unfold PB LL at hk
  cases h : K.two <;> simp [h] at hk ⊢ <;> omega

theorem pv_take (K : PK) (hK : K.tg = true → K.z = true) (A : PA) (al : Bool) (T1 T2 c0 c1 c2 c3 t c : Int) (W : World) (h : PV W K A al T1 T2 c0 c1 c2 c3) (k0 : 0 ≤ c0 ∧ c0 < 1000) (k1 : 0 ≤ c1 ∧ c1 < 1000) (k2 : 0 ≤ c2 ∧ c2 < 1000) (k3 : 0 ≤ c3 ∧ c3 < 1000) :
    Calls Try.prog 11 #[.pointer (some ⟨A.r, 0, none⟩), .int .i64 t, .int .i64 c] W fun x W' => x = .returned (.int .i64 (vN K al T1 T2 t c)) ∧
      PV W' K A al (n1N K T1 T2 t c) (n2N K T1 T2 t c) (c0 + 1) (cnt (vN K al T1 T2 t c) 1 c1) (cnt (vN K al T1 T2 t c) 2 c2) (cnt (vN K al T1 T2 t c) 3 c3) ∧ Buts [A.r, A.b1, A.b2] W.heap.size W W' := by
  have hj := judge_LL K A T1 T2 t c
  rcases v0N_cases K T1 T2 t c with hv | hv | hv
  · cases ha : (al && c == 0)
    · have e : vN K al T1 T2 t c = 1 := by unfold vN; rw [hv, ha]; rfl
      rw [e]
      refine (ptake_pass _ _ _ _ al c0 c1 c2 c3 t c W h.pc k0 k1 (hj.trans hv) ha).mono ?_
      rintro x w' ⟨rfl, hp, hb⟩
      rw [fill_pass K A T1 T2 t c hv] at hp
      exact ⟨rfl, ⟨hp, Nat.lt_of_lt_of_le h.b2 hb.size⟩, hb.wider (pb_sub K A T1 T2)⟩
    · have e : vN K al T1 T2 t c = 2 := by unfold vN; rw [hv, ha]; rfl
      rw [e]
      simp only [Bool.and_eq_true, beq_iff_eq] at ha
      obtain ⟨rfl, rfl⟩ := ha
      refine (ptake_always _ _ _ _ c0 c1 c2 c3 t W h.pc k0 k2 (hj.trans hv)).mono ?_
      rintro x w' ⟨rfl, hp, hb⟩
      rw [fill_pass K A T1 T2 t 0 hv] at hp
      exact ⟨rfl, ⟨hp, Nat.lt_of_lt_of_le h.b2 hb.size⟩, hb.wider (pb_sub K A T1 T2)⟩
  · have e : vN K al T1 T2 t c = 2 := by unfold vN; rw [hv]; rfl
    rw [e]
    refine (ptake_tag _ _ _ _ al c0 c1 c2 c3 t c W h.pc k0 k2 (hj.trans hv)).mono ?_
    rintro x w' ⟨rfl, hp, hb⟩
    rw [fill_tag K hK A T1 T2 t c hv] at hp
    exact ⟨rfl, ⟨hp, Nat.lt_of_lt_of_le h.b2 hb.size⟩, hb.wider (pb_sub K A T1 T2)⟩
  · have e : vN K al T1 T2 t c = 3 := by unfold vN; rw [hv]; rfl
    rw [e]
    refine (ptake_drop _ _ _ _ al c0 c1 c2 c3 t c W h.pc k0 k3 (hj.trans hv)).mono ?_
    rintro x w' ⟨rfl, hp, hb⟩
    have e1 : n1N K T1 T2 t c = T1 := by unfold n1N; rw [hv]; rfl
    have e2 : n2N K T1 T2 t c = T2 := by unfold n2N; rw [hv]; rfl
    rw [e1, e2]
    exact ⟨rfl, ⟨hp, Nat.lt_of_lt_of_le h.b2 hb.size⟩, hb.wider (pb_sub K A T1 T2)⟩

/-- All of a policer lies from m on; below m. -/
structure PA.lo (A : PA) (m : Nat) : Prop where
  r : m ≤ A.r
  g : m ≤ A.g
  b1 : m ≤ A.b1
  b2 : m ≤ A.b2
theorem PA.lo.all {A : PA} {m : Nat} (h : A.lo m) : ∀ k ∈ [A.r, A.b1, A.b2], m ≤ k := by
  intro k hk; simp at hk; have := h.r; have := h.b1; have := h.b2; omega
theorem PV.hi {W : World} {K : PK} {A : PA} {al : Bool} {T1 T2 c0 c1 c2 c3 : Int} (h : PV W K A al T1 T2 c0 c1 c2 c3) : ∀ k ∈ [A.r, A.b1, A.b2], k < W.heap.size := by
  intro k hk
  simp at hk
  have h1 := h.pc.own.lt
  have h2 := (h.pc.pr.bk _ (List.mem_cons_self ..)).1.lt
  have h3 := h.b2
  simp only at h2
  rcases hk with rfl | rfl | rfl <;> omega
theorem PV.below {n : Nat} {W W' : World} {K : PK} {A : PA} {al : Bool} {T1 T2 c0 c1 c2 c3 : Int} (h : PV W K A al T1 T2 c0 c1 c2 c3) (hb : Below n W W') (hn : W.heap.size ≤ n) : PV W' K A al T1 T2 c0 c1 c2 c3 := ⟨h.pc.below hb hn, Nat.lt_of_lt_of_le h.b2 hb.size⟩
theorem PV.drew {W : World} {K : PK} {A : PA} {al : Bool} {T1 T2 c0 c1 c2 c3 : Int} (h : PV W K A al T1 T2 c0 c1 c2 c3) : PV W.drew K A al T1 T2 c0 c1 c2 c3 := ⟨h.pc.drew, h.b2⟩
theorem PR.buts {B : List Nat} {n r g cap : Nat} {L : List Lim} {w w' : World} (h : PR w r g cap L) (hb : Buts B n w w') (hn : w.heap.size ≤ n) (hr : r ∉ B) (hg : g ∉ B) (hL : ∀ x ∈ L, x.b ∉ B) : PR w' r g cap L := by
  have h1 := h.rlt
  have h2 := h.glt
  have hc : ∀ (b k : Nat), b < n → b ∉ B → w'.cell? ⟨b, k, none⟩ = w.cell? ⟨b, k, none⟩ := fun b k h1 h2 => by unfold World.cell?; rw [show w'.heap[(⟨b, k, none⟩ : Addr).block]? = w.heap[b]? from hb.block b h1 h2]
  refine ⟨(hc r 0 (by omega) hr).trans h.sl, Nat.lt_of_lt_of_le h1 hb.size, Nat.lt_of_lt_of_le h2 hb.size, fun j x hx => ?_, h.len, h.gr, h.ne, h.nd, fun x hx => ⟨(h.bk x hx).1.buts hb (by have := (h.bk x hx).1.lt; omega) (hL x hx), (h.bk x hx).2⟩⟩
  obtain ⟨a1, a2, a3⟩ := h.lim j x hx
  exact ⟨(hc g _ (by omega) hg).trans a1, (hc g _ (by omega) hg).trans a2, (hc g _ (by omega) hg).trans a3⟩
theorem LL_b (K : PK) (A : PA) (T1 T2 : Int) : ∀ x ∈ LL K A T1 T2, x.b = A.b1 ∨ x.b = A.b2 := by
  intro x hx
  unfold LL at hx
  cases h : K.two <;> simp [h] at hx
  · subst hx; exact .inl rfl
  · rcases hx with rfl | rfl
    · exact .inl rfl
    · exact .inr rfl
theorem PV.buts {B : List Nat} {n m : Nat} {W W' : World} {K : PK} {A : PA} {al : Bool} {T1 T2 c0 c1 c2 c3 : Int} (h : PV W K A al T1 T2 c0 c1 c2 c3) (hb : Buts B n W W') (hn : W.heap.size ≤ n) (hl : A.lo m) (hB : ∀ k ∈ B, k < m) : PV W' K A al T1 T2 c0 c1 c2 c3 := by
  have nin : ∀ k, m ≤ k → k ∉ B := fun k hk e => by have := hB k e; omega
  exact ⟨⟨h.pc.own.buts hb (by have := h.pc.own.lt; omega) (nin _ hl.r), h.pc.pr.buts hb hn (nin _ hl.r) (nin _ hl.g) (fun x hx => by rcases LL_b K A T1 T2 x hx with e | e <;> rw [e] <;> first | exact nin _ hl.b1 | exact nin _ hl.b2)⟩, Nat.lt_of_lt_of_le h.b2 hb.size⟩
/-- The other way about: what is written lies from m on, the policer below it. -/
theorem PV.buts' {B : List Nat} {n m : Nat} {W W' : World} {K : PK} {A : PA} {al : Bool} {T1 T2 c0 c1 c2 c3 : Int} (h : PV W K A al T1 T2 c0 c1 c2 c3) (hb : Buts B n W W') (hn : W.heap.size ≤ n) (hg : A.g < m) (hl : ∀ k ∈ [A.r, A.b1, A.b2], k < m) (hB : ∀ k ∈ B, m ≤ k) : PV W' K A al T1 T2 c0 c1 c2 c3 := by
  have nin : ∀ k, k < m → k ∉ B := fun k hk e => by have := hB k e; omega
  have hr := hl A.r (by simp)
  have h1 := hl A.b1 (by simp)
  have h2 := hl A.b2 (by simp)
  exact ⟨⟨h.pc.own.buts hb (by have := h.pc.own.lt; omega) (nin _ hr), h.pc.pr.buts hb hn (nin _ hr) (nin _ hg) (fun x hx => by rcases LL_b K A T1 T2 x hx with e | e <;> rw [e] <;> first | exact nin _ h1 | exact nin _ h2)⟩, Nat.lt_of_lt_of_le h.b2 hb.size⟩

/-- What a contract says. -/
def kOf (k p e w b : Int) : PK := ⟨vbrB k, zeroB k, tagB k, p, e, w, b + e⟩
theorem kOf_tz (k p e w b : Int) : (kOf k p e w b).tg = true → (kOf k p e w b).z = true := by simp [kOf, tagB, zeroB]; omega

theorem pc_of {W : World} {r nb cap n : Nat} {a : Option Addr} {L : List Lim} {al : Bool} (hn : 0 < n) (hL : L.length = n) (h2 : n ≤ 2) (hQ : BK W r #[.slice a n cap, .bool al, .int .i64 0, .int .i64 0, .int .i64 0, .int .i64 0] 50)
    (hO : W.ownsRow nb 60 3 (.slice a n cap) n (lcells L)) (hb : ∀ x ∈ L, BC W x.b x.s x.e 0 ∧ x.T = 0) (hN : (L.map (·.b)).Nodup) : ∃ g, nb ≤ g ∧ PC W r g cap L al 0 0 0 0 := by
  rcases hO.2 with ⟨_, h0⟩ | ⟨g, cap', cur, e, hg, hh, hc, hm, hsz, htk⟩
  · omega
  simp at e
  obtain ⟨rfl, rfl⟩ := e
  refine ⟨g, hg, by rw [hL]; exact hQ, ⟨by rw [hL]; exact hQ.cell 0 _ rfl, hQ.lt, (Array.getElem?_eq_some_iff.1 hh).1, fun j x hx => ?_, by omega, fun e => ?_, fun x hx => ⟨fun e => ?_, fun e => ?_⟩, hN, fun x hx => ⟨by rw [(hb x hx).2]; exact (hb x hx).1, by rw [(hb x hx).2]; decide, by rw [(hb x hx).2]; decide⟩⟩⟩
  · have hj : j < n := by have := (List.getElem?_eq_some_iff.1 hx).1; omega
    have key : ∀ i v, i < n * 3 → (lcells L)[i]? = some v → W.cell? ⟨g, i, none⟩ = some v := by
      intro i v hi hv
      unfold World.cell?
      rw [show W.heap[(⟨g, i, none⟩ : Addr).block]? = some (.cells cur _ (0, 0)) from hh]
      show cur[i]? = _
      rw [← htk, List.getElem?_take_of_lt hi] at hv
      simpa using hv
    obtain ⟨l1, l2, l3⟩ := lcells_get hx
    exact ⟨key _ _ (by omega) l1, key _ _ (by omega) l2, key _ _ (by omega) l3⟩
  · subst e
    exact absurd ((show _ = _ from hQ).symm.trans hh) (by simp)
  · subst e
    exact absurd ((show _ = _ from (hb x hx).1).symm.trans hh) (by simp)
  · subst e
    exact absurd ((show _ = _ from (hb x hx).1).symm.trans hQ) (by simp)

theorem pnew_calls (k p e w b l : Int) (h : okB k p e w b l = true) (W : World) :
    Calls Try.prog 10 #[cV k p e w b l] W fun x W' => ∃ A : PA, x = .returned (.tuple #[.pointer (some ⟨A.r, 0, none⟩), .int .i64 0]) ∧ PV W' (kOf k p e w b) A (k == 7) 0 0 0 0 0 0 ∧ A.lo W.heap.size ∧ Below W.heap.size W W' := by
  cases hv : vbrB k
  · have hR : ∀ W, Calls Try.prog 18 #[cV k p e w b l] W fun x W' => ∃ g c, x = .returned (.slice (some ⟨g, 0, none⟩) [(⟨0, false, false, p, e, 0⟩ : Lim)].length c) ∧ W.heap.size ≤ g ∧ g < W'.heap.size ∧ RS W' g [⟨0, false, false, p, e, 0⟩] ∧ Below W.heap.size W W' := by
      intro W
      refine (rules_one k p e w b l h hv W).mono ?_
      rintro x W' ⟨g, rfl, h1, h2, h3, h4⟩
      refine ⟨g, 1, rfl, h1, h2, fun j y hy => ?_, h4⟩
      cases j with
      | zero => simp at hy; subst hy; exact h3
      | succ j => simp at hy
    refine (new_in k p e w b l _ rfl _ (by simp) h hR W).mono ?_
    rintro x W' ⟨r, a, cap, L, nb, rfl, h1, h2, h3, h4, h5, h6, h7, h8⟩
    have hlen := congrArg List.length h5
    simp at hlen
    obtain ⟨g, hg, hp⟩ := pc_of (n := 1) (by decide) hlen (by decide) h3 h4 (fun x hx => ⟨(h6 x hx).1, (h6 x hx).2.1⟩) h7
    match L, hlen with
    | [y], _ =>
      have hy := h6 y (by simp)
      obtain ⟨yb, yz, yg, ys, ye, yT⟩ := y
      simp [says] at h5
      obtain ⟨rfl, rfl, rfl, rfl⟩ := h5
      obtain ⟨q1, q2, q3⟩ := hy
      simp only at q2 q3
      subst q2
      refine ⟨⟨r, g, cap, yb, yb⟩, rfl, ⟨?_, ?_⟩, ⟨h1, Nat.le_trans h2 hg, q3, q3⟩, h8⟩
      · have : LL (kOf k ys ye w b) ⟨r, g, cap, yb, yb⟩ 0 0 = [⟨yb, false, false, ys, ye, 0⟩] := by simp [LL, kOf, hv]
        rw [this]; exact hp
      · exact q1.lt
  · have hR : ∀ W, Calls Try.prog 18 #[cV k p e w b l] W fun x W' => ∃ g c, x = .returned (.slice (some ⟨g, 0, none⟩) [(⟨0, false, false, p, e, 0⟩ : Lim), ⟨0, zeroB k, tagB k, w, b + e, 0⟩].length c) ∧ W.heap.size ≤ g ∧ g < W'.heap.size ∧ RS W' g [⟨0, false, false, p, e, 0⟩, ⟨0, zeroB k, tagB k, w, b + e, 0⟩] ∧ Below W.heap.size W W' := by
      intro W
      refine (rules_two k p e w b l h hv W).mono ?_
      rintro x W' ⟨g, c, rfl, h1, h2, h3, h3', h4⟩
      refine ⟨g, c, rfl, h1, h2, fun j y hy => ?_, h4⟩
      match j, hy with
      | 0, hy => simp at hy; subst hy; exact h3
      | 1, hy => simp at hy; subst hy; exact h3'
      | j + 2, hy => simp at hy
    refine (new_in k p e w b l _ rfl _ (by simp) h hR W).mono ?_
    rintro x W' ⟨r, a, cap, L, nb, rfl, h1, h2, h3, h4, h5, h6, h7, h8⟩
    have hlen := congrArg List.length h5
    simp at hlen
    obtain ⟨g, hg, hp⟩ := pc_of (n := 2) (by decide) hlen (by decide) h3 h4 (fun x hx => ⟨(h6 x hx).1, (h6 x hx).2.1⟩) h7
    match L, hlen with
    | [y, x], _ =>
      have hy := h6 y (by simp)
      have hx := h6 x (by simp)
      obtain ⟨yb, yz, yg, ys, ye, yT⟩ := y
      obtain ⟨xb, xz, xg, xs, xe, xT⟩ := x
      simp [says] at h5
      obtain ⟨⟨rfl, rfl, rfl, rfl⟩, rfl, rfl, rfl, rfl⟩ := h5
      obtain ⟨q1, q2, q3⟩ := hy
      obtain ⟨s1, s2, s3⟩ := hx
      simp only at q2 q3 s2 s3
      subst q2 s2
      refine ⟨⟨r, g, cap, yb, xb⟩, rfl, ⟨?_, ?_⟩, ⟨h1, Nat.le_trans h2 hg, q3, s3⟩, h8⟩
      · have : LL (kOf k ys ye xs b) ⟨r, g, cap, yb, xb⟩ 0 0 = [⟨yb, false, false, ys, ye, 0⟩, ⟨xb, zeroB k, tagB k, xs, b + ye, 0⟩] := by simp [LL, kOf, hv]
        rw [this]; exact hp
      · exact s1.lt

set_option maxHeartbeats 1000000 in
theorem pnew_no (k p e w b l : Int) (h : okB k p e w b l = false) (W : World) :
    Calls Try.prog 10 #[cV k p e w b l] W fun x W' => ∃ E : Int, x = .returned (.tuple #[.pointer none, .int .i64 E]) ∧ (E = 11 ∨ E = 12) ∧ Below W.heap.size W W' := by
  have H : Hid (okB k p e w b l = false) := h
  clear h
  go_enter Try.func10, Try.ntmps10
  go_wp2_with fail
  refine (right_no H.out _).mono ?_
  rintro x w1 ⟨E, rfl, hE, b1⟩
  rcases hE with rfl | rfl <;>
  · go_wp2
    go_ret2
    exact ⟨_, rfl, by simp, below_box2 b1⟩
end Go.Proofs.Ytlaomjhibaoglaa
