/- Texts Bpx, Sd2, Pq6 of this proof, in one. No conditions but on lengths. -/
import Derived.Test.YtdigjklhfimnbaaGreatRows
import Derived.Test.YtdigjklhfimnbaaGreatU22
import Derived.ArgAppend
import Derived.Below
import Derived.BigQuiet
import Derived.Calls
import Derived.ChangeArms
import Derived.ChangeMade
import Derived.ChangeOld
import Derived.Deep.Cut
import Derived.Deep.CutBlock
import Derived.Deep.QuietTactic
import Derived.Deep.RegionHeld
import Derived.Deep.RegionLaw
import Derived.Deep.RegionWith
import Derived.Deep.Slices
import Derived.Laws.AppendOwnNone
import Derived.Laws.BytesArg
import Derived.Laws.LoneSync
import Derived.Laws.OwnMore
import Derived.Laws.StructEq
import Derived.Lib.Hide
import Derived.Lib.QuietBelow
import Derived.Lib.SliceRun
import Derived.LoopIn
import Derived.LoopTactic
import Derived.Maps.AppendAt
import Derived.OpenShut
import Derived.Orders
import Derived.Outline
import Derived.OwnWalkIn
import Derived.ProofKit
import Derived.RangeFuncBox
import Derived.RangeFuncCalls
import Derived.RangeFuncLeaves
import Derived.RangeFuncNested
import Derived.Shelf.RegionOpen
import Derived.Shelf.RegionOpenPlain
import Derived.ShutString
import Derived.StillTail
import Derived.TacticsInMore
import Derived.WalkKit
import Derived.WalkLawsBesides
import Derived.WalkSpells
import Derived.WideShapes
namespace Go.Proofs.YtdigjklhfimnbaaGreat
set_option maxRecDepth 100000
open Go.RowKit Go.Sort

/-- What lies below S stays. -/
theorem own_low {w w' : World} {base size n S : Nat} {e : TypeId} {v : Value} {xs : List Value} (h : w.ownsRow base e size v n xs) (hl : ∀ b, v.ownBlock = some b → b < S) (hb : Below S w w') : w'.ownsRow base e size v n xs := by
  refine ⟨h.1, ?_⟩
  rcases h.2 with h2 | ⟨g, cap, cur, rfl, h3, hg, rest⟩
  · exact .inl h2
  · refine .inr ⟨g, cap, cur, rfl, h3, ?_, rest⟩
    rw [hb.block g (hl g rfl)]; exact hg
theorem RowB.base {w : World} {B base : Nat} {v : Value} {bs : List (Int × List Ob)} (h : RowB w base v bs) (hB : B ≤ base) : RowB w B v bs := by
  obtain ⟨vs, h1, h2, h3⟩ := h
  exact ⟨vs, h1, own_mono h2 hB, fun i hi => ⟨(h3 i hi).1, own_mono (h3 i hi).2 hB⟩⟩
theorem RowB.form {w : World} {base : Nat} {v : Value} {bs : List (Int × List Ob)} (h : RowB w base v bs) : ∃ a c, v = .slice a bs.length c := by
  obtain ⟨vs, h1, h2, h3⟩ := h
  exact own_form h2
/-- A row of batches; the objects of its last one lie in a row that was made since S. -/
def RowX (w : World) (base S g cap : Nat) (bs : List (Int × List Ob)) (M : Int) (v : Value) (xs : List Ob) : Prop :=
  ∃ vs : List (Int × Value), vs.length = bs.length ∧ (g < S ∧ base ≤ g ∧ S ≤ w.heap.size) ∧
    w.ownsRow base 143 2 (.slice (some ⟨g, 0, none⟩) (bs.length + 1) cap) (bs.length + 1) (flat2 (vs ++ [(M, v)])) ∧
    (∀ i, i < bs.length → (vs.getD i zv).1 = (bs.getD i zb).1 ∧ w.ownsRow base 41 12 (vs.getD i zv).2 (bs.getD i zb).2.length (flat (bs.getD i zb).2) ∧ ∀ b, (vs.getD i zv).2.ownBlock = some b → b < S) ∧
    w.ownsRow S 41 12 v xs.length (flat xs)
theorem RowX.below {w w' : World} {base S g cap : Nat} {bs : List (Int × List Ob)} {M : Int} {v : Value} {xs : List Ob} (h : RowX w base S g cap bs M v xs) (hb : Below w.heap.size w w') : RowX w' base S g cap bs M v xs := by
  obtain ⟨vs, h1, ⟨h2, h3, h4⟩, h5, h6, h7⟩ := h
  exact ⟨vs, h1, ⟨h2, h3, Nat.le_trans h4 hb.size⟩, own_below h5 hb, fun i hi => ⟨(h6 i hi).1, own_below (h6 i hi).2.1 hb, (h6 i hi).2.2⟩, own_below h7 hb⟩
theorem RowX.row {w : World} {base S g cap : Nat} {bs : List (Int × List Ob)} {M : Int} {v : Value} {xs : List Ob} (h : RowX w base S g cap bs M v xs) : RowB w base (.slice (some ⟨g, 0, none⟩) (bs.length + 1) cap) (bs ++ [(M, xs)]) := by
  obtain ⟨vs, h1, ⟨h2, h3, h4⟩, h5, h6, h7⟩ := h
  refine ⟨vs ++ [(M, v)], by simp [h1], by simpa using h5, fun i hi => ?_⟩
  by_cases h9 : i < bs.length
  · have e1 : (vs ++ [(M, v)]).getD i zv = vs.getD i zv := by simp [List.getD, List.getElem?_append, h1, h9]
    have e2 : (bs ++ [(M, xs)]).getD i zb = bs.getD i zb := by simp [List.getD, List.getElem?_append, h9]
    rw [e1, e2]
    exact ⟨(h6 i h9).1, (h6 i h9).2.1⟩
  · have e : i = bs.length := by simp at hi; omega
    subst e
    have e1 : (vs ++ [(M, v)]).getD bs.length zv = (M, v) := by rw [← h1]; simp [List.getD]
    have e2 : (bs ++ [(M, xs)]).getD bs.length zb = (M, xs) := by simp [List.getD]
    rw [e1, e2]
    exact ⟨rfl, own_mono h7 (by omega)⟩
theorem RowX.cells {w : World} {base S g cap : Nat} {bs : List (Int × List Ob)} {M : Int} {v : Value} {xs : List Ob} (h : RowX w base S g cap bs M v xs) :
    w.cell? ⟨g, bs.length * 2 + 1, none⟩ = some v ∧ (∀ k, w.frozen? ⟨g, k, none⟩ = false) ∧ g < S ∧ S ≤ w.heap.size ∧ v.oneCell' = true ∧ ∃ a c, v = .slice a xs.length c := by
  obtain ⟨vs, h1, ⟨h2, h3, h4⟩, h5, h6, h7⟩ := h
  refine ⟨?_, fun k => h5.frozenAt k, h2, h4, own_one h7, own_form h7⟩
  rw [own_cell h5 (bs.length * 2 + 1) (by omega), flat2_app, ← h1, List.getElem?_append_right (by rw [flat2_len]; omega), flat2_len]
  simp [flat2, c2]
theorem RowX.last {w : World} {base S g cap : Nat} {bs : List (Int × List Ob)} {M : Int} {v : Value} {xs : List Ob} (h : RowX w base S g cap bs M v xs) : w.ownsRow S 41 12 v xs.length (flat xs) ∧ base ≤ g := by
  obtain ⟨vs, h1, ⟨h2, h3, h4⟩, h5, h6, h7⟩ := h
  exact ⟨h7, h3⟩
theorem C12.low {w w' : World} {b o B : Nat} {y : Ob} (h : C12 w b o y) (hb : b < B) (hB : Below B w w') : C12 w' b o y := fun j hj => by
  rw [hB.cell (p := ⟨b, o + j, none⟩) hb]; exact h j hj
/-- The last one's objects are laid anew. -/
theorem RowX.turn {w w' : World} {base S g cap : Nat} {bs : List (Int × List Ob)} {M : Int} {v v' : Value} {xs ys : List Ob} (h : RowX w base S g cap bs M v xs) (hb : Below S w w') (hv : w'.ownsRow S 41 12 v' ys.length (flat ys)) :
    RowX (w'.setCell ⟨g, bs.length * 2 + 1, none⟩ v') base S g cap bs M v' ys := by
  obtain ⟨vs, h1, ⟨h2, h3, h4⟩, h5, h6, h7⟩ := h
  have k5 := own_low h5 (fun b hb => by simp only [Value.ownBlock, Option.some.injEq] at hb; omega) hb
  obtain ⟨k6, k7⟩ := k5.stored (bs.length * 2 + 1) v'
  refine ⟨vs, h1, ⟨h2, h3, by rw [show ∀ (w : World) (p : Addr) (u : Value), (w.setCell p u).heap.size = w.heap.size from fun w p u => by simp]; exact Nat.le_trans h4 hb.size⟩, ?_, fun i hi => ?_, hv.kept k7 (apart2 hv k5)⟩
  · have e : (flat2 (vs ++ [(M, v)])).set (bs.length * 2 + 1) v' = flat2 (vs ++ [(M, v')]) := by
      rw [flat2_app, flat2_app, List.set_append_right _ _ (by rw [flat2_len]; omega), flat2_len, h1, show bs.length * 2 + 1 - bs.length * 2 = 1 by omega]
      rfl
    rw [← e]; exact k6
  · have k8 := own_low (h6 i hi).2.1 (h6 i hi).2.2 hb
    exact ⟨(h6 i hi).1, k8.kept k7 (apart2 k8 k5), (h6 i hi).2.2⟩
/-- append of one batch that has no object yet. -/
theorem bappX_any {ops : Array Oper} {rest : List Oper} {o : Oper} {a : Act} {Q : Exit → Act → World → Prop} {W : World} (hgd : o.guard = none) (s x : Operand)
    (ho : o.op = .call { callee := .builtin .append, args := #[s, x], argTypes := #[103, 103] }) (base : Nat) (bs : List (Int × List Ob)) (M : Int) (w : World)
    (hW : W = w.alloc (.cells #[.int .i64 M, .slice none 0 0] 143)) (hrow : RowB w base (a.eval s) bs) (hx : a.eval x = .slice (some ⟨w.heap.size, 0, none⟩) 1 1) (h63 : bs.length ≤ 3000) (hbase : base ≤ w.heap.size)
    (h : ∀ g cap w', RowX w' base w'.heap.size g cap bs M (.slice none 0 0) [] → Below base w w' → w.heap.size ≤ w'.heap.size → wpList Tryz.prog ops Q rest (a.put o.dst (.slice (some ⟨g, 0, none⟩) (bs.length + 1) cap)) w') : wpList Tryz.prog ops Q (o :: rest) a W := by
  subst hW
  have hal : Below w.heap.size w (w.alloc (.cells #[.int .i64 M, .slice none 0 0] 143)) := (Below.refl _ _).alloc (Nat.le_refl _) _
  obtain ⟨vs, k1, k2, k3⟩ := hrow.below hal
  obtain ⟨i0, hi, hz0, hz1, hz2⟩ := info_parts infoBT
  have hzs : ((.agg #[.int .i64 0, .slice none 0 0] : Value).cells).size = 2 := rfl
  have hsz : (w.alloc (.cells #[.int .i64 M, .slice none 0 0] 143)).heap.size = w.heap.size + 1 := by simp
  refine wpList_append_own _ hgd s x 103 ho base 143 i0 (.agg #[.int .i64 0, .slice none 0 0]) 2 32 underBS hi hz0 hz1 hz2 hzs (by decide) _ _ _ rfl k2 ⟨w.heap.size, 0, none⟩ 1 1 [.int .i64 M, .slice none 0 0] hx rfl ?_ ?_ (by unfold maxLen; omega) (by omega) (by omega) fun v' w1 hown1 hgrow _ => ?_
  · intro j u hj
    rw [add_spot]
    have hj2 : j < 2 := (List.getElem?_eq_some_iff.1 hj).1
    have : j = 0 ∨ j = 1 := by omega
    rcases this with rfl | rfl <;> simp at hj ⊢ <;> exact hj
  · intro u hu
    simp at hu
    rcases hu with rfl | rfl <;> rfl
  · have hb : Below base w w1 := ((Below.refl _ w).alloc hbase _).grown hgrow (by omega) (fun k hk => (k2.lt k hk).1)
    obtain ⟨g, cap, rfl⟩ : ∃ g cap, v' = .slice (some ⟨g, 0, none⟩) (bs.length + 1) cap := by
      rcases hown1.2 with ⟨_, h0⟩ | ⟨g, cap, _, rfl, _⟩
      · omega
      · exact ⟨g, cap, rfl⟩
    have hlt := hown1.lt g rfl
    have e : flat2 (vs ++ [(M, .slice none 0 0)]) = flat2 vs ++ [.int .i64 M, .slice none 0 0] := by rw [flat2_app]; rfl
    refine h g cap w1 ⟨vs, k1, ⟨hlt.2, hlt.1, Nat.le_refl _⟩, by rw [e]; exact hown1, fun i hi2 => ?_, ⟨rfl, .inl ⟨rfl, rfl⟩⟩⟩ hb (by have := hgrow.size; omega)
    have k4 := (k3 i hi2).2.kept hgrow (apart2 (k3 i hi2).2 k2)
    exact ⟨(k3 i hi2).1, k4, fun b hb => (k4.lt b hb).2⟩
theorem own_prefix {w : World} {S size n m g cap : Nat} {e : TypeId} {xs ys : List Value} (h : w.ownsRow S e size (.slice (some ⟨g, 0, none⟩) (n + m) cap) (n + m) (xs ++ ys)) (hx : xs.length = n * size) : w.ownsRow S e size (.slice (some ⟨g, 0, none⟩) n cap) n xs := by
  refine ⟨hx, ?_⟩
  rcases h.2 with ⟨h1, _⟩ | ⟨g', cap', cur, hv, hb, hg, hnc, hcm, hcs, htake⟩
  · cases h1
  · simp only [Value.slice.injEq, Option.some.injEq, Addr.mk.injEq, and_true, true_and] at hv
    obtain ⟨rfl, rfl⟩ := hv
    refine .inr ⟨g, cap, cur, rfl, hb, hg, by omega, hcm, hcs, ?_⟩
    have h3 : (cur.toList.take ((n + m) * size)).take (n * size) = (xs ++ ys).take (n * size) := by rw [htake]
    rw [List.take_take, Nat.min_eq_left (Nat.mul_le_mul_right _ (Nat.le_add_right _ _)), ← hx, List.take_left] at h3
    rw [← hx]; exact h3
/-- An object behind those in a row of the call's own: the append as one operation's run. The elder row is there as it was. -/
theorem run_oapp (w : World) (ty : TypeId) (S : Nat) (v : Value) (xs : List Ob) (hown : w.ownsRow S 41 12 v xs.length (flat xs)) (b : Nat) (y : Ob) (hy : C12 w b 0 y) (hl : xs.length ≤ 3000) (hS : S ≤ w.heap.size) :
    ∃ g cap w', (Builtin.append_ #[31, 31] ty #[v, .slice (some ⟨b, 0, none⟩) 1 1]).run Tryz.prog w = .ok (.slice (some ⟨g, 0, none⟩) (xs.length + 1) cap) w' ∧ w'.ownsRow S 41 12 (.slice (some ⟨g, 0, none⟩) (xs.length + 1) cap) (xs ++ [y]).length (flat (xs ++ [y])) ∧ w.grownBy w' v.ownBlock ∧ w'.ownsRow S 41 12 v xs.length (flat xs) := by
  obtain ⟨i0, hi, hz0, hz1, hz2⟩ := info_parts infoOB
  have hzs : ((.agg #[.int .i64 0, .int .i64 0, .bool false, .int .i64 0, .int .i64 0, .int .i64 0, .int .i64 0, .int .i64 0, .int .i64 0, .int .i64 0, .int .i64 0, .int .i64 0] : Value).cells).size = 12 := rfl
  have e : flat (xs ++ [y]) = flat xs ++ y.cl := by rw [flat_app]; simp [flat]
  have e2 : (xs ++ [y]).length = xs.length + 1 := by simp
  have hnews : ∀ j u, y.cl[j]? = some u → w.cell? ((⟨b, 0, none⟩ : Addr).add j) = some u := fun j u hj => by
    rw [add_spot, hy j (List.getElem?_eq_some_iff.1 hj).1]; exact hj
  have hone : ∀ u ∈ y.cl, u.oneCell' = true := fun u hu => flat_ones [y] u (by simpa [flat] using hu)
  have hfl := flat_len xs
  rw [e, e2]
  rcases hown.2 with ⟨rfl, h0⟩ | ⟨g, cap, cur, rfl, hg1, hg2, _⟩
  · obtain ⟨v', w', hr, h2, h3, _, _⟩ := run_append_own_at (P := Tryz.prog) w S 31 ty 41 i0 (.agg #[.int .i64 0, .int .i64 0, .bool false, .int .i64 0, .int .i64 0, .int .i64 0, .int .i64 0, .int .i64 0, .int .i64 0, .int .i64 0, .int .i64 0, .int .i64 0]) 12 96 underSL hi hz0 hz1 hz2 hzs (by decide) (.slice none 0 0) xs.length (flat xs) hown ⟨b, 0, none⟩ 1 1 y.cl rfl hnews hone (by unfold maxLen; omega) (by omega) hS
    obtain ⟨g, cap, rfl⟩ : ∃ g cap, v' = .slice (some ⟨g, 0, none⟩) (xs.length + 1) cap := by
      rcases h2.2 with ⟨_, h0⟩ | ⟨g, cap, _, rfl, _⟩
      · omega
      · exact ⟨g, cap, rfl⟩
    exact ⟨g, cap, w', hr, h2, h3, ⟨hown.1, .inl ⟨rfl, h0⟩⟩⟩
  · by_cases hroom : xs.length + 1 ≤ cap
    · obtain ⟨w', hr, h2, h3⟩ := run_append_fits (P := Tryz.prog) w S 31 ty 41 i0 12 underSL hi hz1 g xs.length cap (flat xs) hown ⟨b, 0, none⟩ 1 1 y.cl rfl hnews hone hroom
      exact ⟨g, cap, w', hr, h2, h3, own_prefix h2 hfl⟩
    · obtain ⟨v', w', hr, h2, h3⟩ := run_append_arg_grows (P := Tryz.prog) w 31 ty 41 i0 (.agg #[.int .i64 0, .int .i64 0, .bool false, .int .i64 0, .int .i64 0, .int .i64 0, .int .i64 0, .int .i64 0, .int .i64 0, .int .i64 0, .int .i64 0, .int .i64 0]) 12 96 underSL hi hz0 hz1 hz2 hzs (by decide) ⟨g, 0, none⟩ xs.length cap (flat xs) hfl (hown.cells rfl) ⟨b, 0, none⟩ 1 1 y.cl rfl hnews (by omega) (by unfold maxLen; omega) (by omega)
      obtain ⟨g', cap', rfl⟩ : ∃ g cap, v' = .slice (some ⟨g, 0, none⟩) (xs.length + 1) cap := by
        rcases h2.2 with ⟨_, h0⟩ | ⟨g, cap, _, rfl, _⟩
        · omega
        · exact ⟨g, cap, rfl⟩
      exact ⟨g', cap', w', hr, own_mono h2 hS, ⟨h3.os, h3.tape, h3.output, h3.size, fun k hk _ => h3.block k hk (by simp)⟩, hown.kept h3 (.inr (by simp [Value.ownBlock]))⟩
theorem exec_append {ρ : Operand → Value} {o : Oper} {s x : Operand} {T : TypeId} {v u r : Value} {w w' : World} (ho : o.op = .call { callee := .builtin .append, args := #[s, x], argTypes := #[T, T] }) (hs : ρ s = v) (hx : ρ x = u)
    (hr : (Builtin.append_ #[T, T] o.type #[v, u]).run Tryz.prog w = .ok r w') : (execOp ρ o).run Tryz.prog w = .ok (.value r) w' := by
  unfold execOp
  simp only [ho, resolve, invoke, builtin, Sem.run_bind, Sem.run_pure, Result.andThen_ok, List.map_toArray, List.map_cons, List.map_nil, hs, hx, hr]
theorem c12_alloc (w : World) (y : Ob) (g : Nat) (hg : g = w.heap.size) : C12 (w.alloc (.cells #[.int .i64 y.k, .int .i64 y.x, .bool y.n, .int .i64 y.t, .int .i64 y.o, .int .i64 y.r, .int .i64 y.d, .int .i64 y.i, .int .i64 y.p, .int .i64 y.q, .int .i64 y.s, .int .i64 y.m] 41)) g 0 y := fun j hj => by
  subst hg
  rw [Nat.zero_add, cell_of_row _ _ _ _ _ _ (heap_alloc_new w _)]
  simp [Ob.cl]
def XA (row : Option Nat) (s k : Nat) (w w' : World) : Prop := if k = s then w.grownBy w' row else Below w.heap.size w w'
theorem XA_refl (row : Option Nat) (s k : Nat) (w : World) : XA row s k w w := by
  unfold XA
  by_cases h : k = s
  · rw [if_pos h]; exact ⟨rfl, rfl, rfl, Nat.le_refl _, fun _ _ _ => rfl⟩
  · rw [if_neg h]; exact Below.refl _ _
theorem XA_of {row : Option Nat} {s k : Nat} {w w' : World} (h : k ≠ s) (hb : Below w.heap.size w w') : XA row s k w w' := by unfold XA; rw [if_neg h]; exact hb
theorem XA_at {row : Option Nat} {s k : Nat} {w w' : World} (h : k = s) (hb : w.grownBy w' row) : XA row s k w w' := by unfold XA; rw [if_pos h]; exact hb
/-- A slice of one object in a new block. -/
def NewOb (wo : World) (y : Ob) : Ty := fun u w => ∃ b, u = .slice (some ⟨b, 0, none⟩) 1 1 ∧ wo.heap.size ≤ b ∧ C12 w b 0 y
theorem NewOb.keeps {wo : World} {y : Ob} {row : Option Nat} (hrow : ∀ b, row = some b → b < wo.heap.size) (s k : Nat) : T3.Keeps (XA row s) k (NewOb wo y) := by
  rintro j _ u w w' ⟨b, h1, h2, h3⟩ hx
  have hlt : b < w.heap.size := by
    have := h3 0 (by decide)
    exact World.block_lt_of_cell? w ⟨b, 0 + 0, none⟩ (by rw [this]; rfl)
  refine ⟨b, h1, h2, fun i hi => ?_⟩
  rw [← h3 i hi]
  unfold XA at hx
  by_cases hj : j = s
  · rw [if_pos hj] at hx
    exact World.cell?_of_block (hx.block b hlt (fun e => by have := hrow b e.symm; omega))
  · rw [if_neg hj] at hx
    exact hx.cell (p := ⟨b, 0 + i, none⟩) hlt
/-- A row of objects of the call's own. -/
def NewRow (S : Nat) (zs : List Ob) (n : Nat) : Ty := fun u w => ∃ g cap, u = .slice (some ⟨g, 0, none⟩) n cap ∧ w.ownsRow S 41 12 u zs.length (flat zs)
theorem NewRow.keeps {S n : Nat} {zs : List Ob} {row : Option Nat} (s : Nat) : T3.Keeps (XA row s) s (NewRow S zs n) := by
  rintro j hj u w w' ⟨g, cap, h1, h2⟩ hx
  unfold XA at hx
  rw [if_neg hj] at hx
  exact ⟨g, cap, h1, own_below h2 hx⟩
end Go.Proofs.YtdigjklhfimnbaaGreat
namespace Go.Proofs.YtdigjklhfimnbaaGreat
set_option maxRecDepth 100000

theorem numAt_succ (n : Int) (i : Nat) : numAt n (i + 1) = nxt (numAt n i) := by
  induction i generalizing n with
  | zero => rfl
  | succ i ih => exact ih (nxt n)
theorem numAt_rng {n : Int} (h : 0 ≤ n ∧ n ≤ 65535) (i : Nat) : 0 ≤ numAt n i ∧ numAt n i ≤ 65535 := by
  cases i with
  | zero => exact h
  | succ i => rw [numAt_succ]; exact nxt_rng _
theorem far_nxt {f x : Int} (h : far f x < 65535) : far f (nxt x) = far f x + 1 := by
  unfold far nxt at *
  omega
/-- What is sent, and what is not. -/
theorem sdT_split (s : Sd) : ∃ R, packL 512 s.W s.nx = sdT s ++ R ∧ ∀ p l, R = p :: l → ¬ far (fstN s) p.1 < s.win := by
  refine ⟨(packL 512 s.W s.nx).dropWhile fun p => decide (far (fstN s) p.1 < s.win), (List.takeWhile_append_dropWhile ..).symm, fun p l h => ?_⟩
  have := List.head?_dropWhile_not (fun p : Bt => decide (far (fstN s) p.1 < s.win)) (packL 512 s.W s.nx)
  rw [h] at this
  simpa using this
theorem sdT_in {s : Sd} {p : Bt} (h : p ∈ sdT s) : far (fstN s) p.1 < s.win := by
  have := List.all_eq_true.1 (List.all_takeWhile (p := fun p : Bt => decide (far (fstN s) p.1 < s.win)) (l := packL 512 s.W s.nx)) p h
  simpa using this
theorem getD_app {α : Type} {xs ys : List α} {i : Nat} {d : α} (h : i < xs.length) : (xs ++ ys).getD i d = xs.getD i d := by simp [List.getD, List.getElem?_append, h]
theorem getD_mem {α : Type} {xs : List α} {i : Nat} {d : α} (h : i < xs.length) : xs.getD i d ∈ xs := by
  have : xs.getD i d = xs[i] := by simp [List.getD, h]
  rw [this]; exact List.getElem_mem h
/-- Objects go in their order. -/
theorem send_all (s : Sd) : ((sdT s).map Prod.snd).flatten ++ (sdS s).W = s.W := by
  obtain ⟨R, hR, _⟩ := sdT_split s
  have hall := packL_all 512 s.W s.nx
  rw [hR, List.map_append, List.flatten_append] at hall
  have hc : cnt (sdT s) = ((sdT s).map Prod.snd).flatten.length := by
    unfold cnt
    rw [List.length_flatten, List.map_map]
    rfl
  show _ ++ s.W.drop (cnt (sdT s)) = s.W
  rw [hc]
  conv => lhs; rw [← hall]
  conv => rhs; rw [← hall]
  rw [List.length_flatten] 
  have e : ((((sdT s).map Prod.snd).flatten ++ (R.map Prod.snd).flatten).drop (((sdT s).map Prod.snd).flatten).length) = (R.map Prod.snd).flatten := List.drop_left ..
  rw [List.length_flatten] at e
  rw [e]
section
variable {s : Sd} (h : SdOk s)
include h
theorem lft_nx : lft s.nx = s.nx := by unfold lft; have := h.nx; omega
theorem sdT_num (i : Nat) (hi : i < (sdT s).length) : ((sdT s).getD i zb).1 = numAt s.nx i := by
  obtain ⟨R, hR, _⟩ := sdT_split s
  have hl : i < (packL 512 s.W s.nx).length := by rw [hR, List.length_append]; omega
  have := packL_num 512 s.W s.nx i hl
  rw [lft_nx h, hR, getD_app hi] at this
  exact this
theorem sdT_far (i : Nat) (hi : i < (sdT s).length) : far (fstN s) (numAt s.nx i) = far (fstN s) s.nx + i := by
  induction i with
  | zero => show far (fstN s) s.nx = _; simp
  | succ i ih =>
    have h1 := ih (by omega)
    have h2 := sdT_in (getD_mem (d := zb) (show i < (sdT s).length by omega))
    rw [sdT_num h i (by omega)] at h2
    have hw := h.win
    rw [numAt_succ, far_nxt (by omega), h1]
    omega
theorem sdT_top : far (fstN s) (nxA s.nx (sdT s)) = far (fstN s) s.nx + (sdT s).length ∧ far (fstN s) s.nx + (sdT s).length ≤ s.win := by
  unfold nxA
  cases hl : (sdT s).length with
  | zero => exact ⟨by show far (fstN s) s.nx = _; simp, by have := h.top; omega⟩
  | succ k =>
    have h1 := sdT_far h k (by omega)
    have h2 := sdT_in (getD_mem (d := zb) (show k < (sdT s).length by omega))
    rw [sdT_num h k (by omega)] at h2
    have hw := h.win
    exact ⟨by rw [numAt_succ, far_nxt (by omega), h1]; omega, by omega⟩
theorem fst_send : fstN (sdS s) = fstN s := by
  unfold sdS
  cases hL : s.L with
  | cons e l => unfold fstN; rw [hL]; rfl
  | nil =>
    cases hT : sdT s with
    | nil => unfold fstN nxA; rw [hL]; rfl
    | cons p l =>
      have := sdT_num h 0 (by rw [hT]; exact Nat.zero_lt_succ _)
      rw [hT] at this
      unfold fstN
      rw [hL]
      exact this
theorem sdok_send : SdOk (sdS s) := by
  have hf := fst_send h
  obtain ⟨t1, t2⟩ := sdT_top h
  have hmem : ∀ e ∈ (sdS s).L, e ∈ s.L ∨ ∃ i, i < (sdT s).length ∧ e = ((sdT s).getD i zb, 1) := fun e he => by
    rcases List.mem_append.1 he with he | he
    · exact .inl he
    · obtain ⟨p, hp, rfl⟩ := List.mem_map.1 he
      obtain ⟨i, hi, rfl⟩ := List.mem_iff_getElem.1 hp
      exact .inr ⟨i, hi, by simp [List.getD, hi]⟩
  have hfar : ∀ i, i < (sdT s).length → far (fstN s) ((sdT s).getD i zb).1 = far (fstN s) s.nx + i := fun i hi => by rw [sdT_num h i hi]; exact sdT_far h i hi
  have hd0 := far_bd (fstN s) s.nx
  refine ⟨h.win, h.tries, allok_drop h.wok _, by show (s.W.drop _).length ≤ 1024; rw [List.length_drop]; have := h.wl; omega, numAt_rng h.nx _, fun e he => ?_, ?_, fun e he => ?_, by rw [hf]; show far (fstN s) (nxA s.nx (sdT s)) ≤ s.win; omega, fun e he => ?_, fun e he => ?_⟩
  · rw [hf]
    rcases hmem e he with h1 | ⟨i, hi, rfl⟩
    · exact h.inw e h1
    · exact sdT_in (getD_mem hi)
  · rw [hf]
    show (s.L ++ (sdT s).map fun p => (p, (1 : Int))).Pairwise _
    rw [List.pairwise_append]
    refine ⟨h.rise, ?_, fun x hx y hy => ?_⟩
    · rw [List.pairwise_map, List.pairwise_iff_getElem]
      intro i j hi hj hij
      have e1 := hfar i hi
      have e2 := hfar j hj
      have g1 : (sdT s).getD i zb = (sdT s)[i] := by simp [List.getD, hi]
      have g2 : (sdT s).getD j zb = (sdT s)[j] := by simp [List.getD, hj]
      rw [g1] at e1
      rw [g2] at e2
      show far (fstN s) (sdT s)[i].1 < far (fstN s) (sdT s)[j].1
      omega
    · obtain ⟨p, hp, rfl⟩ := List.mem_map.1 hy
      obtain ⟨i, hi, rfl⟩ := List.mem_iff_getElem.1 hp
      have g1 : (sdT s).getD i zb = (sdT s)[i] := by simp [List.getD, hi]
      have e1 := hfar i hi
      rw [g1] at e1
      have e2 := h.below x hx
      show far (fstN s) x.1.1 < far (fstN s) (sdT s)[i].1
      omega
  · rw [hf]
    show far (fstN s) e.1.1 < far (fstN s) (nxA s.nx (sdT s))
    rcases hmem e he with h1 | ⟨i, hi, rfl⟩
    · have := h.below e h1; omega
    · have := hfar i hi
      show far (fstN s) ((sdT s).getD i zb).1 < _
      omega
  · rcases hmem e he with h1 | ⟨i, hi, rfl⟩
    · exact h.bok e h1
    · obtain ⟨R, hR, _⟩ := sdT_split s
      have hl : i < (packL 512 s.W s.nx).length := by rw [hR, List.length_append]; omega
      have := packL_ok h.wok (most := 512) ⟨by decide, by decide⟩ s.nx i hl
      rw [hR, getD_app hi] at this
      exact this.1
  · rcases hmem e he with h1 | ⟨i, hi, rfl⟩
    · exact h.sent e h1
    · exact ⟨Int.le_refl _, h.tries.1⟩
end
theorem rows_le {f : Bt × Int → Int} {b : Int} : ∀ (l : List (Bt × Int)) (a : Int), (∀ e ∈ l, a ≤ f e ∧ f e < b) → l.Pairwise (fun x y => f x < f y) → a ≤ b → (l.length : Int) ≤ b - a
  | [], a, _, _, hab => by show (0 : Int) ≤ _; omega
  | e :: l, a, hm, hp, hab => by
    obtain ⟨h1, h2⟩ := List.pairwise_cons.1 hp
    have h3 := hm e List.mem_cons_self
    have ih := rows_le l (f e + 1) (fun x hx => ⟨by have := h1 x hx; omega, (hm x (List.mem_cons_of_mem _ hx)).2⟩) h2 (by omega)
    rw [List.length_cons]
    omega
/-- No more are out than the window. -/
theorem out_le {s : Sd} (h : SdOk s) : (s.out.length : Int) ≤ s.win := by
  have := rows_le (f := fun e => far (fstN s) e.1.1) (b := s.win) s.L 0 (fun e he => ⟨(far_bd _ _).1, h.inw e he⟩) h.rise (by have := h.win; omega)
  unfold Sd.out
  rw [List.length_map]
  omega
theorem out_again (s : Sd) : (agS s).out = s.out := by
  unfold agS Sd.out
  cases agB s with
  | false => rfl
  | true => rw [if_pos rfl, List.map_map]; rfl
theorem gtS_yes {s : Sd} {a : Ak} (h : gtB s a) : gtS s a = { s with L := s.L.filter (kpt a) } := if_pos h
theorem gtS_no {s : Sd} {a : Ak} (h : ¬ gtB s a) : gtS s a = s := if_neg h
end Go.Proofs.YtdigjklhfimnbaaGreat
namespace Go.Proofs.YtdigjklhfimnbaaGreat
set_option maxRecDepth 100000
set_option linter.unusedVariables false
open Go.RowKit

theorem step_app {ops : Array Oper} {o : Oper} {a : Act} {W : World} {K : Act → World → Prop} {Q : Exit → Act → World → Prop} {E : Prop} (hg : o.guard = none) (s x : Operand) (T : TypeId)
    (ho : o.op = .call { callee := .builtin .append, args := #[s, x], argTypes := #[T, T] }) {v u r : Value} {w' : World} (hs : a.eval s = v) (hx : a.eval x = u) (hr : (Builtin.append_ #[T, T] o.type #[v, u]).run Tryz.prog W = .ok r w') (hK : K (a.put o.dst r) w') :
    if Region.wanted o (yielded ops a.tmps) = true then Oper.wp Tryz.prog o a W K Q else E := by
  have hw : Region.wanted o (yielded ops a.tmps) = true := by simp [Region.wanted, hg]
  rw [if_pos hw]
  unfold Oper.wp
  rw [gexec_append ho hs hx hr]
  exact hK
theorem own_head {w : World} {S size n m g cap : Nat} {e : TypeId} {xs : List Value} (h : w.ownsRow S e size (.slice (some ⟨g, 0, none⟩) n cap) n xs) (hm : m ≤ n) : w.ownsRow S e size (.slice (some ⟨g, 0, none⟩) m cap) m (xs.take (m * size)) := by
  have hx := h.1
  have hms : m * size ≤ n * size := Nat.mul_le_mul_right _ hm
  refine ⟨by rw [List.length_take]; omega, ?_⟩
  rcases h.2 with ⟨h1, _⟩ | ⟨g', cap', cur, hv, hb, hg, hnc, hcm, hcs, htake⟩
  · cases h1
  · simp only [Value.slice.injEq, Option.some.injEq, Addr.mk.injEq, and_true, true_and] at hv
    obtain ⟨rfl, rfl⟩ := hv
    refine .inr ⟨g, cap, cur, rfl, hb, hg, by omega, hcm, hcs, ?_⟩
    rw [← htake, List.take_take, Nat.min_eq_left hms]
theorem cells_agg (z : Value) (n : Nat) (hz : ∀ u ∈ z.cells, u.oneCell' = true) : ∀ u ∈ (Builtin.zeroCells z.cells n).toList, u.oneCell' = true := by
  intro u hu
  rw [Array.mem_toList_iff, Builtin.zeroCells, Array.mem_map] at hu
  obtain ⟨i, hi, rfl⟩ := hu
  rw [Array.mem_range] at hi
  have h0 : 0 < z.cells.size := by
    rcases Nat.eq_zero_or_pos z.cells.size with h | h
    · rw [h] at hi; omega
    · exact h
  rw [getElem!_pos z.cells (i % z.cells.size) (Nat.mod_lt _ h0)]
  exact hz _ (Array.getElem_mem _)
/-- The cells behind the first n are cleared. -/
theorem run_clear_own (R : RowT) (hzo : ∀ u ∈ R.zero.cells, u.oneCell' = true) (w : World) (ty : TypeId) (S g n m cap c : Nat) (xs : List Value) (h : w.ownsRow S R.T R.K (.slice (some ⟨g, 0, none⟩) n cap) n xs) (hm : 0 < m) (hroom : n + m ≤ cap) :
    ∃ w', (Builtin.clear_ #[R.SL] ty #[.slice (some ⟨g, n * R.K, none⟩) m c]).run Tryz.prog w = .ok (.tuple #[]) w' ∧ w'.ownsRow S R.T R.K (.slice (some ⟨g, 0, none⟩) n cap) n xs ∧ w.grownBy w' (some g) := by
  obtain ⟨i0, hi, hz0, hz1, hz2⟩ := info_parts R.hinfo
  have hx := h.1
  rcases h.2 with ⟨h1, _⟩ | ⟨g', cap', cur, hv, hb, hg, hnc, hcm, hcs, htake⟩
  · cases h1
  · simp only [Value.slice.injEq, Option.some.injEq, Addr.mk.injEq, and_true, true_and] at hv
    obtain ⟨rfl, rfl⟩ := hv
    have hlen : (Builtin.zeroCells R.zero.cells m).toList.length = m * R.K := by rw [Array.length_toList, size_zeroCells, R.hz]
    have hfit : n * R.K + m * R.K ≤ cur.size := by rw [hcs, ← Nat.add_mul]; exact Nat.mul_le_mul_right _ hroom
    have hst := run_storeCells_at Tryz.prog g (n * R.K) R.T (Builtin.zeroCells R.zero.cells m).toList 0 cur w hg (by rw [hlen, Nat.add_zero]; exact hfit) (cells_agg R.zero m hzo)
    simp only [Nat.add_zero] at hst
    have hzv : ∀ w, (zeroValue R.T).run Tryz.prog w = .ok R.zero w := fun w => by simp [zeroValue, typeInfo, hi, hz0]
    obtain ⟨zc, hzc⟩ : ∃ zc, Builtin.zeroCells R.zero.cells m = zc := ⟨_, rfl⟩
    rw [hzc] at hst hlen
    obtain ⟨w', hw'⟩ : ∃ w', w.setRow g (cur.toList.take (n * R.K) ++ zc.toList ++ cur.toList.drop (n * R.K + zc.toList.length)).toArray = w' := ⟨_, rfl⟩
    rw [hw'] at hst
    refine ⟨w', by
      obtain ⟨m', rfl⟩ : ∃ m', m = m' + 1 := ⟨m - 1, by omega⟩
      simp [Builtin.clear_, hzv, hzc, hst, run_underlying R.hSL], ?_⟩
    subst hw'
    refine ⟨⟨hx, .inr ⟨g, cap, _, rfl, hb, setRow_heap w g cur _ R.T _ hg, hnc, hcm, ?_, ?_⟩⟩, ⟨rfl, rfl, rfl, by simp, fun k _ hk => setRow_other w g k _ (fun e => hk (by simp [e]))⟩⟩
    · simp only [List.size_toArray, List.length_append, List.length_take, List.length_drop, Array.length_toList]
      simp only [Array.length_toList] at hlen
      omega
    · show (List.take (n * R.K) (_ ++ _ ++ _)) = xs
      rw [List.append_assoc, List.take_append_of_le_length (by rw [List.length_take, Array.length_toList]; omega), List.take_take, Nat.min_self]
      exact htake
theorem flat_drop (W : List Ob) (n : Nat) : flat (W.drop n) = (flat W).drop (n * 12) := by
  by_cases h : n ≤ W.length
  · have e : flat W = flat (W.take n) ++ flat (W.drop n) := by rw [← flat_app, List.take_append_drop]
    have hl : (flat (W.take n)).length = n * 12 := by rw [flat_len, List.length_take, Nat.min_eq_left h]
    rw [e, ← hl, List.drop_left]
  · rw [List.drop_of_length_le (by omega), List.drop_of_length_le (by rw [flat_len]; omega)]
    rfl
theorem add_zero' (b o j : Nat) : (⟨b, o, none⟩ : Addr).add j = ⟨b, o + j, none⟩ := add_spot' b o j
set_option maxHeartbeats 4000000 in
theorem odel_any (g cap : Nat) (W : List Ob) (n : Nat) (w : World) (h : OwO w 0 (.slice (some ⟨g, 0, none⟩) W.length cap) W) (hn : 0 < n) (hle : n ≤ W.length) :
    Calls Tryz.prog 127 #[.slice (some ⟨g, 0, none⟩) W.length cap, .int .i64 0, .int .i64 n] w fun e w' => e = .returned (.slice (some ⟨g, 0, none⟩) (W.length - n) cap) ∧ OwO w' 0 (.slice (some ⟨g, 0, none⟩) (W.length - n) cap) (W.drop n) ∧ Chg (fun k => k = g) w w' := by
  have hcap : W.length ≤ cap := by
    rcases h.2 with ⟨h1, _⟩ | ⟨g', cap', cur, hv, hb, hg, hnc, hcm, hcs, htake⟩
    · cases h1
    · simp only [Value.slice.injEq] at hv; omega
  have hd : OwO w.drew 0 (.slice (some ⟨g, 0, none⟩) W.length cap) W := h
  obtain ⟨A0, hA, hsrc⟩ : ∃ A0 : Addr, (if cap = n then some (⟨g, 0, none⟩ : Addr) else some ⟨g, n * 12, none⟩) = some A0 ∧ Hid (∀ t u, (flat (W.drop n))[t]? = some u → w.drew.cell? (A0.add t) = some u) := by
    by_cases hc : cap = n
    · refine ⟨⟨g, 0, none⟩, if_pos hc, fun t u hu => ?_⟩
      rw [List.drop_of_length_le (by omega)] at hu
      simp [flat] at hu
    · refine ⟨⟨g, n * 12, none⟩, if_neg hc, fun t u hu => ?_⟩
      have ht := (List.getElem?_eq_some_iff.1 hu).1
      rw [flat_len, List.length_drop] at ht
      rw [flat_drop, List.getElem?_drop] at hu
      rw [add_zero', World.ownsRow.cellAt hd (n * 12 + t) (by omega)]
      exact hu
  have hone : ∀ u ∈ flat (W.drop n), u.oneCell' = true := flat_ones _
  obtain ⟨w2, hr2, ho2, hg2⟩ := run_append_fits (P := Tryz.prog) w.drew 0 31 31 41 _ 12 underSL (info_parts infoOB).choose_spec.1 (info_parts infoOB).choose_spec.2.2.1 g 0 cap _ (own_head hd (Nat.zero_le _)) A0 (W.length - n) (cap - n) (flat (W.drop n)) (by rw [flat_len, List.length_drop]) hsrc.out hone (by omega)
  have ho2' : w2.ownsRow 0 (ROB).T (ROB).K (.slice (some ⟨g, 0, none⟩) (W.length - n) cap) (W.length - n) (flat (W.drop n)) := by
    have h9 := ho2
    rw [Nat.zero_add, Nat.zero_mul, List.take_zero, List.nil_append] at h9
    exact h9
  rw [Nat.zero_add] at hr2
  obtain ⟨w3, hr3, ho3, hg3⟩ := run_clear_own ROB (by decide) w2 0 0 g (W.length - n) (W.length - (W.length - n)) cap (cap - (W.length - n)) _ ho2' (by omega) (by omega)
  have hr3' : (Builtin.clear_ #[31] 0 #[.slice (some ⟨g, (W.length - n) * 12, none⟩) (W.length - (W.length - n)) (cap - (W.length - n))]).run Tryz.prog w2 = .ok (.tuple #[]) w3 := hr3
  have hcg : Chg (fun k => k = g) w w3 := ((Chg.refl _ w).drew.trans ((chg_grown hg2).mono (fun x _ e => by cases e; rfl)) (fun _ _ e => e)).trans ((chg_grown hg3).mono (fun x _ e => by cases e; rfl)) (fun _ _ e => e)
  have HO3 : Hid (OwO w3 0 (.slice (some ⟨g, 0, none⟩) (W.length - n) cap) (W.drop n)) := by
    show w3.ownsRow 0 41 12 _ (W.drop n).length _
    rw [List.length_drop]
    exact ho3
  have HCG := Lib.hid hcg
  have HR2 := Lib.hid hr2
  have mixed : Tryz.prog.follows Departure.mixedOrders = true := by kernel_rfl
  have hne : ((0 : Int) == (n : Int)) = false := beq_false_of_ne (by omega)
  clear h hd hsrc hone ho2 ho2' hg2 ho3 hg3 hcg hr2 hr3
  go_enter Tryz.func127, Tryz.ntmps127
  go_wp2_with fail
  go_region_law_o (refine step_app rfl (.tmp 22) (.tmp 25) 31 rfl (by simp [Act.eval, Act.put]) (by simp [Act.eval, Act.put]) HR2.out ?_)
  go_wp2_with fail
  go_ret
  exact ⟨rfl, HO3.out, HCG.out⟩
end Go.Proofs.YtdigjklhfimnbaaGreat
