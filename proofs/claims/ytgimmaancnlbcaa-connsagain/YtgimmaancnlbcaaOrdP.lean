/- Proved here: what the table is like while the law's loop of ConnsOrder goes on, in memory. Conditions: as each theorem states them. -/
import Derived.Test.YtgimmaancnlbcaaPu
import Derived.Test.YtgimmaancnlbcaaOps
namespace Go.Proofs.Ytgimmaancnlbcaa
set_option linter.unusedSimpArgs false
set_option linter.unusedVariables false
open Go.RowKit Go.Shelf

/-- Some taken out, one behind the other. -/
def dels (T M : List En) : List En := M.foldl (fun T x => del T x.1) T
theorem dels_snoc (T M : List En) (x : En) : dels T (M ++ [x]) = del (dels T M) x.1 := by simp [dels]
theorem dels_take : ∀ (L : List En) (i : Nat), dels L (L.take i) = L.drop i
  | [], i => by simp [dels]
  | x :: L, 0 => by simp [dels]
  | x :: L, i + 1 => by
    have h : dels (x :: L) ((x :: L).take (i + 1)) = dels (del (x :: L) x.1) (L.take i) := by simp [dels]
    rw [h, del, if_pos rfl, dels_take L i]; rfl
theorem dels_pre {L M : List En} (h : M <+: L) : dels L M = L.drop M.length := by
  obtain ⟨R, rfl⟩ := h
  have := dels_take (M ++ R) M.length
  rwa [List.take_left] at this
/-- The last key. -/
def lastK (M : List En) : Ky := match M.getLast? with | some x => x.1 | none => (0, 0, 0)
theorem lastK_nil : lastK [] = (0, 0, 0) := rfl
theorem lastK_snoc (M : List En) (x : En) : lastK (M ++ [x]) = x.1 := by simp [lastK]
theorem lastK_srt {M : List En} {x : En} (h : Srt (M ++ [x])) (hM : M ≠ []) : bef (lastK M) x.1 := by
  obtain ⟨N, y, rfl⟩ : ∃ N y, M = N ++ [y] := ⟨M.dropLast, M.getLast hM, (List.dropLast_concat_getLast hM).symm⟩
  rw [lastK_snoc]
  exact (List.pairwise_append.1 h).2.2 y (by simp) x (by simp)

theorem bk_grown {X Y : World} {row : Option Nat} {b : Nat} {vs : Array Value} {t : TypeId} (h : BK X b vs t) (hg : X.grownBy Y row) (hrow : ∀ r, row = some r → ∃ o : Obj, X.heap[r]? = some o ∧ o.isCells = false) : BK Y b vs t :=
  (hg.block b h.lt (fun e' => by obtain ⟨o, ho, hc⟩ := hrow b e'.symm; rw [show X.heap[b]? = _ from h] at ho; cases ho; cases hc)).trans h
theorem TB.grown {X Y : World} {row : Option Nat} {b : Nat} {L : List En} {room : Nat} (h : TB X b L room) (hg : X.grownBy Y row) (hrow : ∀ r, row = some r → ∃ o : Obj, X.heap[r]? = some o ∧ o.isCells = false) : TB Y b L room := by
  obtain ⟨S, h1, h2, h3⟩ := h.ex; exact ⟨⟨S, h1, h2, bk_grown h3 hg hrow⟩, h.ok⟩

/-- The law's three keys, stop and the answer in memory. -/
structure O5 (n0 : Nat) (a b c : Ky) (st : Int) (W : World) : Prop where
  ka : BK W n0 #[.int .i64 a.1, .int .i64 a.2.1, .int .i64 a.2.2] 24
  kb : BK W (n0 + 1) #[.int .i64 b.1, .int .i64 b.2.1, .int .i64 b.2.2] 24
  kc : BK W (n0 + 1 + 1) #[.int .i64 c.1, .int .i64 c.2.1, .int .i64 c.2.2] 24
  hst : BK W (n0 + 1 + 1 + 1) #[.int .u8 st] 5
  hrs : BK W (n0 + 1 + 1 + 1 + 1) #[.bool false] 4
theorem O5.below {n0 : Nat} {a b c : Ky} {st : Int} {W W' : World} {m : Nat} (h : O5 n0 a b c st W) (hb : Below m W W') (hm : W.heap.size ≤ m) : O5 n0 a b c st W' :=
  ⟨h.ka.below hb (Nat.lt_of_lt_of_le h.ka.lt hm), h.kb.below hb (Nat.lt_of_lt_of_le h.kb.lt hm), h.kc.below hb (Nat.lt_of_lt_of_le h.kc.lt hm), h.hst.below hb (Nat.lt_of_lt_of_le h.hst.lt hm), h.hrs.below hb (Nat.lt_of_lt_of_le h.hrs.lt hm)⟩
theorem O5.but {n0 r : Nat} {a b c : Ky} {st : Int} {W W' : World} {m : Nat} (h : O5 n0 a b c st W) (hb : But r m W W') (hm : W.heap.size ≤ m) (hr : n0 + 5 ≤ r) : O5 n0 a b c st W' :=
  ⟨h.ka.but hb (Nat.lt_of_lt_of_le h.ka.lt hm) (by omega), h.kb.but hb (Nat.lt_of_lt_of_le h.kb.lt hm) (by omega), h.kc.but hb (Nat.lt_of_lt_of_le h.kc.lt hm) (by omega), h.hst.but hb (Nat.lt_of_lt_of_le h.hst.lt hm) (by omega), h.hrs.but hb (Nat.lt_of_lt_of_le h.hrs.lt hm) (by omega)⟩
theorem o5_new (a b c : Ky) (st : Int) (w : World) : O5 w.heap.size a b c st (((((w.alloc (.cells #[.int .i64 a.1, .int .i64 a.2.1, .int .i64 a.2.2] 24)).alloc (.cells #[.int .i64 b.1, .int .i64 b.2.1, .int .i64 b.2.2] 24)).alloc (.cells #[.int .i64 c.1, .int .i64 c.2.1, .int .i64 c.2.2] 24)).alloc (.cells #[.int .u8 st] 5)).alloc (.cells #[.bool false] 4)) := by
  have h1 := bk_new w #[.int .i64 a.1, .int .i64 a.2.1, .int .i64 a.2.2] 24
  have h2 := bk_new (w.alloc (.cells #[.int .i64 a.1, .int .i64 a.2.1, .int .i64 a.2.2] 24)) #[.int .i64 b.1, .int .i64 b.2.1, .int .i64 b.2.2] 24
  have h3 := bk_new ((w.alloc (.cells #[.int .i64 a.1, .int .i64 a.2.1, .int .i64 a.2.2] 24)).alloc (.cells #[.int .i64 b.1, .int .i64 b.2.1, .int .i64 b.2.2] 24)) #[.int .i64 c.1, .int .i64 c.2.1, .int .i64 c.2.2] 24
  have h4 := bk_new (((w.alloc (.cells #[.int .i64 a.1, .int .i64 a.2.1, .int .i64 a.2.2] 24)).alloc (.cells #[.int .i64 b.1, .int .i64 b.2.1, .int .i64 b.2.2] 24)).alloc (.cells #[.int .i64 c.1, .int .i64 c.2.1, .int .i64 c.2.2] 24)) #[.int .u8 st] 5
  have h5 := bk_new ((((w.alloc (.cells #[.int .i64 a.1, .int .i64 a.2.1, .int .i64 a.2.2] 24)).alloc (.cells #[.int .i64 b.1, .int .i64 b.2.1, .int .i64 b.2.2] 24)).alloc (.cells #[.int .i64 c.1, .int .i64 c.2.1, .int .i64 c.2.2] 24)).alloc (.cells #[.int .u8 st] 5)) #[.bool false] 4
  simp only [World.size_alloc] at h2 h3 h4 h5
  exact ⟨(((h1.alloc _).alloc _).alloc _).alloc _, ((h2.alloc _).alloc _).alloc _, (h3.alloc _).alloc _, h4.alloc _, h5⟩
theorem below5 {w : World} (o1 o2 o3 o4 o5 : Obj) : Below w.heap.size w (((((w.alloc o1).alloc o2).alloc o3).alloc o4).alloc o5) :=
  ((((((Below.refl _ w).alloc (Nat.le_refl _) _).alloc (by simp) _).alloc (by simp; omega) _).alloc (by simp; omega) _).alloc (by simp; omega) _)

/-- The law's variables in memory: its three keys, stop, the answer; the table, and where it is held; how many were told, and the last key. -/
structure OI (n0 r bt bn bl : Nat) (a b c : Ky) (st : Int) (W : World) (T : List En) (n : Int) (la : Ky) : Prop where
  tab : TB W r T 64
  hbt : BK W bt #[.pointer (some ⟨r, 0, none⟩)] 26
  hbn : BK W bn #[.int .i64 n] 3
  hbl : BK W bl #[.int .i64 la.1, .int .i64 la.2.1, .int .i64 la.2.2] 24
  ka : BK W n0 #[.int .i64 a.1, .int .i64 a.2.1, .int .i64 a.2.2] 24
  kb : BK W (n0 + 1) #[.int .i64 b.1, .int .i64 b.2.1, .int .i64 b.2.2] 24
  kc : BK W (n0 + 1 + 1) #[.int .i64 c.1, .int .i64 c.2.1, .int .i64 c.2.2] 24
  hst : BK W (n0 + 1 + 1 + 1) #[.int .u8 st] 5
  hrs : BK W (n0 + 1 + 1 + 1 + 1) #[.bool false] 4
  lt : n0 + 5 ≤ r ∧ r < bt ∧ bt < bn ∧ bn < bl
variable {n0 r bt bn bl : Nat} {a b c : Ky} {st : Int} {T : List En} {n : Int} {la : Ky}
theorem OI.below {W W' : World} {m : Nat} (h : OI n0 r bt bn bl a b c st W T n la) (hb : Below m W W') (hm : W.heap.size ≤ m) : OI n0 r bt bn bl a b c st W' T n la :=
  ⟨h.tab.below hb (Nat.lt_of_lt_of_le h.tab.lt hm), h.hbt.below hb (Nat.lt_of_lt_of_le h.hbt.lt hm), h.hbn.below hb (Nat.lt_of_lt_of_le h.hbn.lt hm), h.hbl.below hb (Nat.lt_of_lt_of_le h.hbl.lt hm), h.ka.below hb (Nat.lt_of_lt_of_le h.ka.lt hm), h.kb.below hb (Nat.lt_of_lt_of_le h.kb.lt hm), h.kc.below hb (Nat.lt_of_lt_of_le h.kc.lt hm), h.hst.below hb (Nat.lt_of_lt_of_le h.hst.lt hm), h.hrs.below hb (Nat.lt_of_lt_of_le h.hrs.lt hm), h.lt⟩
theorem OI.grown {X Y : World} {row : Option Nat} (h : OI n0 r bt bn bl a b c st X T n la) (hg : X.grownBy Y row) (hrow : ∀ r, row = some r → ∃ o : Obj, X.heap[r]? = some o ∧ o.isCells = false) : OI n0 r bt bn bl a b c st Y T n la :=
  ⟨h.tab.grown hg hrow, bk_grown h.hbt hg hrow, bk_grown h.hbn hg hrow, bk_grown h.hbl hg hrow, bk_grown h.ka hg hrow, bk_grown h.kb hg hrow, bk_grown h.kc hg hrow, bk_grown h.hst hg hrow, bk_grown h.hrs hg hrow, h.lt⟩
theorem OI.drop {W W' : World} {m : Nat} {T' : List En} (h : OI n0 r bt bn bl a b c st W T n la) (ht : TB W' r T' 64) (hb : But r m W W') (hm : W.heap.size ≤ m) : OI n0 r bt bn bl a b c st W' T' n la := by
  obtain ⟨l1, l2, l3, l4⟩ := h.lt
  exact ⟨ht, h.hbt.but hb (Nat.lt_of_lt_of_le h.hbt.lt hm) (by omega), h.hbn.but hb (Nat.lt_of_lt_of_le h.hbn.lt hm) (by omega), h.hbl.but hb (Nat.lt_of_lt_of_le h.hbl.lt hm) (by omega), h.ka.but hb (Nat.lt_of_lt_of_le h.ka.lt hm) (by omega), h.kb.but hb (Nat.lt_of_lt_of_le h.kb.lt hm) (by omega), h.kc.but hb (Nat.lt_of_lt_of_le h.kc.lt hm) (by omega), h.hst.but hb (Nat.lt_of_lt_of_le h.hst.lt hm) (by omega), h.hrs.but hb (Nat.lt_of_lt_of_le h.hrs.lt hm) (by omega), h.lt⟩
theorem OI.setN {W W' : World} {m : Nat} {n' : Int} (h : OI n0 r bt bn bl a b c st W T n la) (ht : BK W' bn #[.int .i64 n'] 3) (hb : But bn m W W') (hm : W.heap.size ≤ m) : OI n0 r bt bn bl a b c st W' T n' la := by
  obtain ⟨l1, l2, l3, l4⟩ := h.lt
  exact ⟨h.tab.but hb (Nat.lt_of_lt_of_le h.tab.lt hm) (by omega), h.hbt.but hb (Nat.lt_of_lt_of_le h.hbt.lt hm) (by omega), ht, h.hbl.but hb (Nat.lt_of_lt_of_le h.hbl.lt hm) (by omega), h.ka.but hb (Nat.lt_of_lt_of_le h.ka.lt hm) (by omega), h.kb.but hb (Nat.lt_of_lt_of_le h.kb.lt hm) (by omega), h.kc.but hb (Nat.lt_of_lt_of_le h.kc.lt hm) (by omega), h.hst.but hb (Nat.lt_of_lt_of_le h.hst.lt hm) (by omega), h.hrs.but hb (Nat.lt_of_lt_of_le h.hrs.lt hm) (by omega), h.lt⟩
theorem OI.setL {W W' : World} {m : Nat} {k : Ky} (h : OI n0 r bt bn bl a b c st W T n la) (ht : BK W' bl #[.int .i64 k.1, .int .i64 k.2.1, .int .i64 k.2.2] 24) (hb : But bl m W W') (hm : W.heap.size ≤ m) : OI n0 r bt bn bl a b c st W' T n k := by
  obtain ⟨l1, l2, l3, l4⟩ := h.lt
  exact ⟨h.tab.but hb (Nat.lt_of_lt_of_le h.tab.lt hm) (by omega), h.hbt.but hb (Nat.lt_of_lt_of_le h.hbt.lt hm) (by omega), h.hbn.but hb (Nat.lt_of_lt_of_le h.hbn.lt hm) (by omega), ht, h.ka.but hb (Nat.lt_of_lt_of_le h.ka.lt hm) (by omega), h.kb.but hb (Nat.lt_of_lt_of_le h.kb.lt hm) (by omega), h.kc.but hb (Nat.lt_of_lt_of_le h.kc.lt hm) (by omega), h.hst.but hb (Nat.lt_of_lt_of_le h.hst.lt hm) (by omega), h.hrs.but hb (Nat.lt_of_lt_of_le h.hrs.lt hm) (by omega), h.lt⟩
end Go.Proofs.Ytgimmaancnlbcaa
