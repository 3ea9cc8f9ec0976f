/- Rows of batches in memory of their own; part of a row of objects. No conditions but on lengths. -/
import Derived.Test.YtfiaghfaijlfjaaGreatObt
namespace Go.Proofs.YtfiaghfaijlfjaaGreat
set_option maxRecDepth 100000
open Go.RowKit Go.Sort

theorem add_spot (b off k : Nat) : (⟨b, off, none⟩ : Addr).add k = ⟨b, off + k, none⟩ := by unfold Addr.add; split <;> simp_all
/-- The two cells of a batch. -/
def c2 (p : Int × Value) : List Value := [.int .i64 p.1, p.2]
def flat2 (vs : List (Int × Value)) : List Value := vs.flatMap c2
theorem flat2_len (vs : List (Int × Value)) : (flat2 vs).length = vs.length * 2 := by
  induction vs with
  | nil => rfl
  | cons y ys ih => simp only [flat2, List.flatMap_cons, List.length_append, List.length_cons, c2, List.length_nil] at *; omega
theorem flat2_app (xs ys : List (Int × Value)) : flat2 (xs ++ ys) = flat2 xs ++ flat2 ys := by simp [flat2]
def zb : Int × List Ob := (0, [])
def zv : Int × Value := (0, .slice none 0 0)
/-- A row of batches of the call's own, whose objects lie in rows of its own, too. -/
def RowB (w : World) (base : Nat) (v : Value) (bs : List (Int × List Ob)) : Prop :=
  ∃ vs : List (Int × Value), vs.length = bs.length ∧ w.ownsRow base 34 2 v bs.length (flat2 vs) ∧
    ∀ i, i < bs.length → (vs.getD i zv).1 = (bs.getD i zb).1 ∧ w.ownsRow base 53 12 (vs.getD i zv).2 (bs.getD i zb).2.length (flat (bs.getD i zb).2)
theorem RowB_nil (w : World) (base : Nat) : RowB w base (.slice none 0 0) [] := ⟨[], rfl, ⟨rfl, .inl ⟨rfl, rfl⟩⟩, fun i h => by simp at h⟩
theorem RowB.below {w w' : World} {base : Nat} {v : Value} {bs : List (Int × List Ob)} (h : RowB w base v bs) (hb : Below w.heap.size w w') : RowB w' base v bs := by
  obtain ⟨vs, h1, h2, h3⟩ := h
  exact ⟨vs, h1, own_below h2 hb, fun i hi => ⟨(h3 i hi).1, own_below (h3 i hi).2 hb⟩⟩
theorem apart2 {w : World} {b1 b2 n1 n2 : Nat} {u v : Value} {xs ys : List Value} (h1 : w.ownsRow b1 53 12 u n1 xs) (h2 : w.ownsRow b2 34 2 v n2 ys) : u.ownBlock = none ∨ u.ownBlock ≠ v.ownBlock := by
  rcases h1.2 with ⟨rfl, _⟩ | ⟨g, cap, cur, rfl, _, hg, _, _, _, _⟩
  · exact .inl rfl
  · right
    rcases h2.2 with ⟨rfl, _⟩ | ⟨g', cap', cur', rfl, _, hg', _, _, _, _⟩
    · simp [Value.ownBlock]
    · intro h
      simp only [Value.ownBlock, Option.some.injEq] at h
      subst h
      rw [hg] at hg'
      simp at hg'
theorem underBS : Tryz.prog.underlying 22 = some (.slice 34) := by kernel_rfl
theorem infoBT : (Tryz.prog.info? 34).map (fun i => (i.zero, i.size, i.bytes)) = some (some (.agg #[.int .i64 0, .slice none 0 0]), 2, 32) := by kernel_rfl
/-- append of one batch to a row of them. -/
theorem bapp_any {ops : Array Oper} {rest : List Oper} {o : Oper} {a : Act} {Q : Exit → Act → World → Prop} {W : World} (hgd : o.guard = none) (s x : Operand)
    (ho : o.op = .call { callee := .builtin .append, args := #[s, x], argTypes := #[22, 22] }) (base : Nat) (bs : List (Int × List Ob)) (N : Int) (r : Value) (ys : List Ob) (w : World)
    (hW : W = w.alloc (.cells #[.int .i64 N, r] 34)) (hrow : RowB w base (a.eval s) bs) {n : Nat} (hr0 : w.ownsRow base 53 12 r n (flat ys)) (h1 : r.oneCell' = true) (hx : a.eval x = .slice (some ⟨w.heap.size, 0, none⟩) 1 1) (h63 : bs.length ≤ 3000) (hbase : base ≤ w.heap.size)
    (h : ∀ v' w', RowB w' base v' (bs ++ [(N, ys)]) → Below base w w' → w.heap.size ≤ w'.heap.size → wpList Tryz.prog ops Q rest (a.put o.dst v') w') : wpList Tryz.prog ops Q (o :: rest) a W := by
  subst hW
  have hr : w.ownsRow base 53 12 r ys.length (flat ys) := by rw [← (Os_of_own hr0).2]; exact hr0
  have hal : Below w.heap.size w (w.alloc (.cells #[.int .i64 N, r] 34)) := (Below.refl _ _).alloc (Nat.le_refl _) _
  obtain ⟨vs, k1, k2, k3⟩ := hrow.below hal
  have hr' := own_below hr hal
  obtain ⟨i0, hi, hz0, hz1, hz2⟩ := info_parts infoBT
  have hzs : ((.agg #[.int .i64 0, .slice none 0 0] : Value).cells).size = 2 := rfl
  have hsz : (w.alloc (.cells #[.int .i64 N, r] 34)).heap.size = w.heap.size + 1 := by simp
  refine wpList_append_own _ hgd s x 22 ho base 34 i0 (.agg #[.int .i64 0, .slice none 0 0]) 2 32 underBS hi hz0 hz1 hz2 hzs (by decide) _ _ _ rfl k2 ⟨w.heap.size, 0, none⟩ 1 1 [.int .i64 N, r] hx rfl ?_ ?_ (by unfold maxLen; omega) (by omega) (by omega) fun v' w1 hown1 hgrow _ => ?_
  · intro j u hj
    rw [add_spot]
    have hj2 : j < 2 := (List.getElem?_eq_some_iff.1 hj).1
    have : j = 0 ∨ j = 1 := by omega
    rcases this with rfl | rfl <;> simp at hj ⊢ <;> exact hj
  · intro u hu
    simp at hu
    rcases hu with rfl | rfl
    · rfl
    · exact h1
  · refine h v' w1 ⟨vs ++ [(N, r)], by simp [k1], ?_, fun i hi2 => ?_⟩ (((Below.refl _ w).alloc hbase _).grown hgrow (by omega) (fun k hk => (k2.lt k hk).1)) (by have := hgrow.size; omega)
    · have e : flat2 (vs ++ [(N, r)]) = flat2 vs ++ [.int .i64 N, r] := by rw [flat2_app]; rfl
      rw [e, show (bs ++ [(N, ys)]).length = bs.length + 1 by simp]
      exact hown1
    · have hlen : i < bs.length + 1 := by simpa using hi2
      by_cases h9 : i < bs.length
      · have e1 : (vs ++ [(N, r)]).getD i zv = vs.getD i zv := by simp [List.getD, List.getElem?_append, k1, h9]
        have e2 : (bs ++ [(N, ys)]).getD i zb = bs.getD i zb := by simp [List.getD, List.getElem?_append, h9]
        rw [e1, e2]
        exact ⟨(k3 i h9).1, (k3 i h9).2.kept hgrow (apart2 (k3 i h9).2 k2)⟩
      · have e : i = bs.length := by omega
        subst e
        have e1 : (vs ++ [(N, r)]).getD bs.length zv = (N, r) := by rw [← k1]; simp [List.getD]
        have e2 : (bs ++ [(N, ys)]).getD bs.length zb = (N, ys) := by simp [List.getD]
        rw [e1, e2]
        exact ⟨rfl, hr'.kept hgrow (apart2 hr' k2)⟩
end Go.Proofs.YtfiaghfaijlfjaaGreat

