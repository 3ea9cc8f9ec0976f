/- Two heights, two levels: whether they are alike. No conditions. -/
import Derived.Test.YtmimgpnogjgliaaPut
import Derived.Laws.StructEq
namespace Go.Proofs.Ytmimgpnogjgliaa
set_option maxRecDepth 100000
open Go.RowKit

/-- One field of one cell that is compared. -/
theorem eqF_cell {P : Program} {w : World} {d : Nat} {xs ys : Array Value} {f : Field} {fs : List Field} {x y : Value} {T : TypeId} {off : Nat} {e : Bool}
    (h : (f.name == "_", f.type, f.offset) = (false, T, off)) (ha : (isAgg T).run P w = .ok false w) (hx : xs[off]? = some x) (hy : ys[off]? = some y) (he : (Op.equalIn d T x y).run P w = .ok e w) :
    (Op.eqFields d xs ys (f :: fs)).run P w = if e then (Op.eqFields d xs ys fs).run P w else .ok false w := by
  simp only [Prod.mk.injEq, beq_eq_false_iff_ne] at h
  obtain ⟨h1, h2, h3⟩ := h
  have p : ∀ (zs : Array Value) (z : Value), zs[off]? = some z → (part T zs off).run P w = .ok z w := by
    intro zs z hz
    simp only [part, Sem.run_bind, ha, Result.andThen_ok, Bool.false_eq_true, if_false, hz, Sem.run_pure]
  simp only [Op.eqFields, h2, h3]
  rw [if_pos h1]
  simp only [Sem.run_bind, p xs x hx, p ys y hy, he, Result.andThen_ok, Sem.run_ite, Sem.run_pure]
  cases e <;> simp
theorem under23 : Try.prog.underlying 24 = some (.struct (Try.prog.fieldsOf 24)) := by kernel_rfl
theorem fields23 : ((Try.prog.fieldsOf 24).toList.map fun f => (f.name == "_", f.type, f.offset)) = [(false, 4, 0), (false, 3, 1), (false, 3, 2), (false, 3, 3), (false, 3, 4), (false, 3, 5)] := by kernel_rfl
theorem run_eq23 (n m : Bool) (t o r d i t' o' r' d' i' : Int) (w : World) :
    (Op.equalIn 10000 24 (.agg #[.bool n, .int .i64 t, .int .i64 o, .int .i64 r, .int .i64 d, .int .i64 i]) (.agg #[.bool m, .int .i64 t', .int .i64 o', .int .i64 r', .int .i64 d', .int .i64 i'])).run Try.prog w
      = .ok (n == m && (t == t' && (o == o' && (r == r' && (d == d' && i == i'))))) w := by
  rw [run_equalIn_agg w 9999 24 _ _ under23 (by kernel_rfl)]
  have hf := fields23
  generalize (Try.prog.fieldsOf 24).toList = fs at *
  have a3 : (isAgg 3).run Try.prog w = .ok false w := by kernel_rfl
  have a4 : (isAgg 4).run Try.prog w = .ok false w := by kernel_rfl
  obtain ⟨f0, _, rfl, g0, hf⟩ := List.map_eq_cons_iff.1 hf
  obtain ⟨f1, _, rfl, g1, hf⟩ := List.map_eq_cons_iff.1 hf
  obtain ⟨f2, _, rfl, g2, hf⟩ := List.map_eq_cons_iff.1 hf
  obtain ⟨f3, _, rfl, g3, hf⟩ := List.map_eq_cons_iff.1 hf
  obtain ⟨f4, _, rfl, g4, hf⟩ := List.map_eq_cons_iff.1 hf
  obtain ⟨f5, _, rfl, g5, hf⟩ := List.map_eq_cons_iff.1 hf
  obtain rfl := List.map_eq_nil_iff.1 hf
  rw [eqF_cell g0 a4 rfl rfl (run_equalIn_bool' w 9998 4 n m (by kernel_rfl)), eqF_cell g1 a3 rfl rfl (run_equalIn_int w 9998 3 .i64 .i64 t t' (by kernel_rfl)),
    eqF_cell g2 a3 rfl rfl (run_equalIn_int w 9998 3 .i64 .i64 o o' (by kernel_rfl)), eqF_cell g3 a3 rfl rfl (run_equalIn_int w 9998 3 .i64 .i64 r r' (by kernel_rfl)),
    eqF_cell g4 a3 rfl rfl (run_equalIn_int w 9998 3 .i64 .i64 d d' (by kernel_rfl)), eqF_cell g5 a3 rfl rfl (run_equalIn_int w 9998 3 .i64 .i64 i i' (by kernel_rfl))]
  simp only [Op.eqFields, Sem.run_pure]
  cases n == m <;> cases t == t' <;> cases o == o' <;> cases r == r' <;> cases d == d' <;> cases i == i' <;> rfl
/-- Whether two heights are alike. -/
def eqH (n : Bool) (t o r d i : Int) (m : Bool) (t' o' r' d' i' : Int) : Bool := n == m && (t == t' && (o == o' && (r == r' && (d == d' && i == i'))))
theorem eqH_iff {n : Bool} {t o r d i : Int} {m : Bool} {t' o' r' d' i' : Int} : eqH n t o r d i m t' o' r' d' i' = true ↔ n = m ∧ t = t' ∧ o = o' ∧ r = r' ∧ d = d' ∧ i = i' := by
  simp [eqH]
theorem guard23 (op : BinOp) (x y : Operand) (xs ys : Array Value) (w : World) : (eqGuard op 24 x y (.agg xs) (.agg ys)).run Try.prog w = .ok () w :=
  run_eqGuard_agg w op 24 x y xs ys (by kernel_rfl)
theorem eql23 (n m : Bool) (t o r d i t' o' r' d' i' : Int) (w : World) :
    (binOp .eql 24 (.agg #[.bool n, .int .i64 t, .int .i64 o, .int .i64 r, .int .i64 d, .int .i64 i]) (.agg #[.bool m, .int .i64 t', .int .i64 o', .int .i64 r', .int .i64 d', .int .i64 i'])).run Try.prog w
      = .ok (.bool (eqH n t o r d i m t' o' r' d' i')) w := by
  rw [run_eql_struct, run_eq23]; rfl
theorem neq23 (n m : Bool) (t o r d i t' o' r' d' i' : Int) (w : World) :
    (binOp .neq 24 (.agg #[.bool n, .int .i64 t, .int .i64 o, .int .i64 r, .int .i64 d, .int .i64 i]) (.agg #[.bool m, .int .i64 t', .int .i64 o', .int .i64 r', .int .i64 d', .int .i64 i'])).run Try.prog w
      = .ok (.bool (!eqH n t o r d i m t' o' r' d' i')) w := by
  rw [run_neq_struct, run_eq23]; rfl
theorem under25 : Try.prog.underlying 49 = some (.struct (Try.prog.fieldsOf 49)) := by kernel_rfl
theorem fields25 : ((Try.prog.fieldsOf 49).toList.map fun f => (f.name == "_", f.type, f.offset)) = [(false, 3, 0), (false, 3, 1), (false, 3, 2)] := by kernel_rfl
/-- Whether two levels are alike. -/
def eqL (t o r t' o' r' : Int) : Bool := t == t' && (o == o' && r == r')
theorem run_eq25 (t o r t' o' r' : Int) (w : World) :
    (Op.equalIn 10000 49 (.agg #[.int .i64 t, .int .i64 o, .int .i64 r]) (.agg #[.int .i64 t', .int .i64 o', .int .i64 r'])).run Try.prog w = .ok (eqL t o r t' o' r') w := by
  rw [run_equalIn_agg w 9999 49 _ _ under25 (by kernel_rfl)]
  have hf := fields25
  generalize (Try.prog.fieldsOf 49).toList = fs at *
  have a3 : (isAgg 3).run Try.prog w = .ok false w := by kernel_rfl
  obtain ⟨f1, _, rfl, g1, hf⟩ := List.map_eq_cons_iff.1 hf
  obtain ⟨f2, _, rfl, g2, hf⟩ := List.map_eq_cons_iff.1 hf
  obtain ⟨f3, _, rfl, g3, hf⟩ := List.map_eq_cons_iff.1 hf
  obtain rfl := List.map_eq_nil_iff.1 hf
  rw [eqF_cell g1 a3 rfl rfl (run_equalIn_int w 9998 3 .i64 .i64 t t' (by kernel_rfl)), eqF_cell g2 a3 rfl rfl (run_equalIn_int w 9998 3 .i64 .i64 o o' (by kernel_rfl)), eqF_cell g3 a3 rfl rfl (run_equalIn_int w 9998 3 .i64 .i64 r r' (by kernel_rfl))]
  simp only [Op.eqFields, Sem.run_pure, eqL]
  cases t == t' <;> cases o == o' <;> cases r == r' <;> rfl
theorem guard25 (op : BinOp) (x y : Operand) (xs ys : Array Value) (w : World) : (eqGuard op 49 x y (.agg xs) (.agg ys)).run Try.prog w = .ok () w :=
  run_eqGuard_agg w op 49 x y xs ys (by kernel_rfl)
theorem eql25 (t o r t' o' r' : Int) (w : World) :
    (binOp .eql 49 (.agg #[.int .i64 t, .int .i64 o, .int .i64 r]) (.agg #[.int .i64 t', .int .i64 o', .int .i64 r'])).run Try.prog w = .ok (.bool (eqL t o r t' o' r')) w := by
  rw [run_eql_struct, run_eq25]; rfl
end Go.Proofs.Ytmimgpnogjgliaa

