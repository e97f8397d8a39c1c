/- Proved here: how entries are sliced and appended. Conditions: as each theorem states them. -/
import Derived.Test.YtgimmaancnlbcaaRFr
namespace Go.Proofs.Ytgimmaancnlbcaa
set_option linter.unusedSimpArgs false
set_option linter.unusedVariables false
open Go.RowKit Go.Shelf

theorem run_pre (w : World) (a : Option Addr) (n c i : Nat) (z : Int) (hz : z = (i : Int)) (hic : i ≤ c) :
    (Instr.slice 38 (.slice a n c) none (some (.int .i64 z)) none).run Try.prog w = .ok (.slice a i c) w := by
  subst hz
  have hu : Try.prog.underlying 38 = some (.slice (Try.prog.elem 38)) := by kernel_rfl
  have he : Try.prog.elem 38 = 65 := by kernel_rfl
  have hs : ∀ w, (sizeOf 65).run Try.prog w = .ok 4 w := fun _ => by kernel_rfl
  rw [run_slice_h w _ _ _ _ hu .i64 _ (by omega) (by omega), he, hs]
  simp only [Result.andThen_ok, Int.toNat_natCast, sliced]
  cases a with
  | none => simp
  | some y => by_cases h : c = 0 <;> simp [Addr.add, h]
theorem run_suf (w : World) (a : Option Addr) (n c i : Nat) (z : Int) (hz : z = (i : Int)) (hin : i ≤ n) (hnc : n ≤ c) :
    (Instr.slice 38 (.slice a n c) (some (.int .i64 z)) none none).run Try.prog w = .ok (.slice (if c = i then a else a.map (·.add (i * 4))) (n - i) (c - i)) w := by
  subst hz
  have hu : Try.prog.underlying 38 = some (.slice (Try.prog.elem 38)) := by kernel_rfl
  have he : Try.prog.elem 38 = 65 := by kernel_rfl
  have hs : ∀ w, (sizeOf 65).run Try.prog w = .ok 4 w := fun _ => by kernel_rfl
  rw [run_slice_l w _ _ _ _ hu .i64 _ (by omega) (by omega), he, hs]
  simp only [Result.andThen_ok, Int.toNat_natCast, sliced]
theorem suf_none {a : Option Addr} {c i : Nat} (h : a = none → c = 0) : (if c = i then a else a.map (·.add (i * 4))) = none → c - i = 0 := by
  intro e
  split at e
  · omega
  · cases a with
    | none => have := h rfl; omega
    | some y => cases e
theorem IsE.up {n k : Nat} {A B : World} {a : Option Addr} {len : Nat} {L : List En} (h : IsE n A a len L) (hb : Below n A B) (hk : n ≤ k) : IsE k B a len L := by
  obtain ⟨e, h⟩ := h.below hb (Nat.le_refl _)
  refine ⟨e, ?_⟩
  rcases h with h | ⟨b, off, ea, hb, hc⟩
  · exact .inl h
  · exact .inr ⟨b, off, ea, by omega, hc⟩
theorem IsE.pre {n : Nat} {W : World} {a : Option Addr} {len : Nat} {L : List En} (h : IsE n W a len L) {i : Nat} (hi : i ≤ len) : IsE n W a i (L.take i) := by
  obtain ⟨e, h⟩ := h
  refine ⟨by rw [List.length_take]; omega, ?_⟩
  rcases h with h | ⟨b, off, ea, hb, hc⟩
  · left; rw [h]; simp
  · right
    refine ⟨b, off, ea, hb, fun j v hv => hc j v ?_⟩
    rw [← ecells_take] at hv
    have hj : j < (List.take (i * 4) (ecells L)).length := (List.getElem?_eq_some_iff.1 hv).1
    rw [List.length_take] at hj
    rw [List.getElem?_take_of_lt (by omega)] at hv
    exact hv
theorem IsE.suf {n : Nat} {W : World} {a : Option Addr} {len c : Nat} {L : List En} (h : IsE n W a len L) (hc : len ≤ c) {i : Nat} (hi : i ≤ len) : IsE n W (if c = i then a else a.map (·.add (i * 4))) (len - i) (L.drop i) := by
  obtain ⟨e, h⟩ := h
  refine ⟨by rw [List.length_drop]; omega, ?_⟩
  by_cases h0 : i = len
  · left; exact List.drop_eq_nil_of_le (by omega)
  · rcases h with h | ⟨b, off, ea, hb, hcell⟩
    · left; rw [h]; simp
    · right
      refine ⟨b, off + i * 4, by rw [if_neg (show ¬ c = i by omega), ea]; simp [Addr.add], hb, fun j v hv => ?_⟩
      rw [← ecells_drop, List.getElem?_drop] at hv
      rw [Nat.add_assoc]
      exact hcell _ v hv
theorem isE_one {W : World} {b : Nat} {x : En} {t : TypeId} (h : BK W b #[.int .i64 x.1.1, .int .i64 x.1.2.1, .int .i64 x.1.2.2, .int .i64 x.2] t) : IsE W.heap.size W (some ⟨b, 0, none⟩) 1 [x] :=
  ⟨rfl, .inr ⟨b, 0, rfl, h.lt, fun j v hv => by
    rw [Nat.zero_add]
    rw [ecells_cons, ecells_nil] at hv
    exact h.cell j v (by simpa using hv)⟩⟩
theorem below_al {n : Nat} {a w : World} (h : Below n a w) (hn : n ≤ a.heap.size) (o : Obj) : Below n a (w.alloc o) := h.alloc (Nat.le_trans hn h.size) o
theorem bk_grown0 {X Y : World} {b : Nat} {vs : Array Value} {t : TypeId} (h : BK X b vs t) (hg : X.grownBy Y (Value.slice none 0 0).ownBlock) : BK Y b vs t := (hg.block b h.lt (by simp [Value.ownBlock])).trans h

theorem run_app_e (w : World) (base : Nat) (hbase : base ≤ w.heap.size) (v : Value) (n : Nat) (A : List En) (hv : w.ownsRow base 65 4 v n (ecells A)) (a2 : Option Addr) (m c2 : Nat) (B : List En) (hB : IsE w.heap.size w a2 m B) (hnone : a2 = none → c2 = 0) (hsz : n + m ≤ 1000) (ty : TypeId) :
    ∃ a' c' w', (Builtin.append_ #[38, 38] ty #[v, .slice a2 m c2]).run Try.prog w = .ok (.slice a' (n + m) c') w' ∧ w'.ownsRow base 65 4 (.slice a' (n + m) c') (n + m) (ecells (A ++ B)) ∧ w.grownBy w' v.ownBlock := by
  obtain ⟨i0, hi, hz0, hz1, hz2⟩ := info_parts info_ent
  obtain ⟨rfl, hB⟩ := hB
  cases a2 with
  | none =>
    obtain rfl := hnone rfl
    obtain rfl : B = [] := by
      rcases hB with h | ⟨b, off, e, _⟩
      · exact h
      · cases e
    have hvs : ∃ a c, v = .slice a n c := by
      rcases hv.2 with ⟨rfl, e⟩ | ⟨g, cap, cur, rfl, _⟩
      · exact ⟨none, 0, by rw [e]⟩
      · exact ⟨_, _, rfl⟩
    obtain ⟨a, c, rfl⟩ := hvs
    exact ⟨a, c, w, run_append_owned_none (P := Try.prog) w base 38 ty 65 i0 4 Try.underlying38 hi _ _ _ hv, by simpa using hv, ⟨rfl, rfl, rfl, Nat.le_refl _, fun _ _ _ => rfl⟩⟩
  | some ad =>
    have hc : ∀ j u, (ecells B)[j]? = some u → w.cell? (ad.add j) = some u := fun j u hu => by
      rcases hB with rfl | ⟨b, off, e, _, hc⟩
      · rw [ecells_nil] at hu; simp at hu
      · simp only [Option.some.injEq] at e; subst e; rw [Addr.add_lit]; exact hc j u hu
    obtain ⟨v', w', hrun, ho, hg, _⟩ := run_append_own (P := Try.prog) w base 38 ty 65 i0 _ 4 32 Try.underlying38 hi hz0 hz1 hz2 rfl (by decide) _ _ _ hv ad B.length c2 (ecells B) (ecells_length B) hc ecells_one (by unfold maxLen; omega) (by omega) hbase
    have hvs : ∃ a c, v' = .slice a (n + B.length) c := by
      rcases ho.2 with ⟨rfl, e⟩ | ⟨g, cap, cur, rfl, _⟩
      · exact ⟨none, 0, by rw [e]⟩
      · exact ⟨_, _, rfl⟩
    obtain ⟨a, c, rfl⟩ := hvs
    exact ⟨a, c, w', hrun, by rw [ecells_append]; exact ho, hg⟩

theorem step_app_e {w : World} {base n m c2 : Nat} {A B : List En} {va : Value} {a2 : Option Addr} (hbase : base ≤ w.heap.size) (hv : w.ownsRow base 65 4 va n (ecells A)) (hB : IsE w.heap.size w a2 m B) (hnone : a2 = none → c2 = 0) (hsz : n + m ≤ 1000)
    {ops : Array Oper} {o : Oper} {a : Act} {K : Act → World → Prop} {Q : Exit → Act → World → Prop} {E : Prop} (s x : Operand) (hgd : Region.wanted o (yielded ops a.tmps) = true)
    (ho : o.op = .call { callee := .builtin .append, args := #[s, x], argTypes := #[38, 38] }) (hs : a.eval s = va) (hx : a.eval x = .slice a2 m c2)
    (h : ∀ a' c' w', w'.ownsRow base 65 4 (.slice a' (n + m) c') (n + m) (ecells (A ++ B)) → w.grownBy w' va.ownBlock → K (a.put o.dst (.slice a' (n + m) c')) w') :
    if Region.wanted o (yielded ops a.tmps) = true then Oper.wp Try.prog o a w K Q else E := by
  obtain ⟨a', c', w', hrun, h1, h2⟩ := run_app_e w base hbase va n A hv a2 m c2 B hB hnone hsz o.type
  rw [if_pos hgd]
  unfold Oper.wp
  simp [execOp, ho, resolve, invoke, builtin, hs, hx, hrun, Result.andThen]
  exact h _ _ _ h1 h2
end Go.Proofs.Ytgimmaancnlbcaa
