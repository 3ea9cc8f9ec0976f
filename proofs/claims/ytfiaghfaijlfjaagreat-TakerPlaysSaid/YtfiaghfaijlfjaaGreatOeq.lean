/- Two objects: whether they are alike. No conditions. -/
import Derived.Test.YtfiaghfaijlfjaaGreatOfm
namespace Go.Proofs.YtfiaghfaijlfjaaGreat
set_option maxRecDepth 100000
open Go.RowKit

/-- A field that is compared: by its two parts. -/
theorem eqF_part {P : Program} {w : World} {d : Nat} {xs ys : Array Value} {f : Field} {fs : List Field} {x y : Value} {T : TypeId} {off : Nat} {e : Bool}
    (h : (f.name == "_", f.type, f.offset) = (false, T, off)) (hx : (part T xs off).run P w = .ok x w) (hy : (part T ys off).run P w = .ok y w) (he : (Op.equalIn d T x y).run P w = .ok e w) :
    (Op.eqFields d xs ys (f :: fs)).run P w = if e then (Op.eqFields d xs ys fs).run P w else .ok false w := by
  simp only [Prod.mk.injEq, beq_eq_false_iff_ne] at h
  obtain ⟨h1, h2, h3⟩ := h
  simp only [Op.eqFields, h2, h3]
  rw [if_pos h1]
  simp only [Sem.run_bind, hx, hy, he, Result.andThen_ok, Sem.run_ite, Sem.run_pure]
  cases e <;> simp
theorem run_eq23d (D : Nat) (n m : Bool) (t o r d i t' o' r' d' i' : Int) (w : World) :
    (Op.equalIn (D + 1 + 1) 49 (.agg #[.bool n, .int .i64 t, .int .i64 o, .int .i64 r, .int .i64 d, .int .i64 i]) (.agg #[.bool m, .int .i64 t', .int .i64 o', .int .i64 r', .int .i64 d', .int .i64 i'])).run Tryz.prog w
      = .ok (eqH n t o r d i m t' o' r' d' i') w := by
  rw [run_equalIn_agg w (D + 1) 49 _ _ under23 (by kernel_rfl)]
  have hf := fields23
  generalize (Tryz.prog.fieldsOf 49).toList = fs at *
  have a3 : (isAgg 3).run Tryz.prog w = .ok false w := by kernel_rfl
  have a4 : (isAgg 4).run Tryz.prog w = .ok false w := by kernel_rfl
  obtain ⟨f0, _, rfl, g0, hf⟩ := List.map_eq_cons_iff.1 hf
  obtain ⟨f1, _, rfl, g1, hf⟩ := List.map_eq_cons_iff.1 hf
  obtain ⟨f2, _, rfl, g2, hf⟩ := List.map_eq_cons_iff.1 hf
  obtain ⟨f3, _, rfl, g3, hf⟩ := List.map_eq_cons_iff.1 hf
  obtain ⟨f4, _, rfl, g4, hf⟩ := List.map_eq_cons_iff.1 hf
  obtain ⟨f5, _, rfl, g5, hf⟩ := List.map_eq_cons_iff.1 hf
  obtain rfl := List.map_eq_nil_iff.1 hf
  rw [eqF_cell g0 a4 rfl rfl (run_equalIn_bool' w D 4 n m (by kernel_rfl)), eqF_cell g1 a3 rfl rfl (run_equalIn_int w D 3 .i64 .i64 t t' (by kernel_rfl)),
    eqF_cell g2 a3 rfl rfl (run_equalIn_int w D 3 .i64 .i64 o o' (by kernel_rfl)), eqF_cell g3 a3 rfl rfl (run_equalIn_int w D 3 .i64 .i64 r r' (by kernel_rfl)),
    eqF_cell g4 a3 rfl rfl (run_equalIn_int w D 3 .i64 .i64 d d' (by kernel_rfl)), eqF_cell g5 a3 rfl rfl (run_equalIn_int w D 3 .i64 .i64 i i' (by kernel_rfl))]
  simp only [Op.eqFields, Sem.run_pure, eqH]
  cases n == m <;> cases t == t' <;> cases o == o' <;> cases r == r' <;> cases d == d' <;> cases i == i' <;> rfl
theorem run_eq25d (D : Nat) (t o r t' o' r' : Int) (w : World) :
    (Op.equalIn (D + 1 + 1) 51 (.agg #[.int .i64 t, .int .i64 o, .int .i64 r]) (.agg #[.int .i64 t', .int .i64 o', .int .i64 r'])).run Tryz.prog w = .ok (eqL t o r t' o' r') w := by
  rw [run_equalIn_agg w (D + 1) 51 _ _ under25 (by kernel_rfl)]
  have hf := fields25
  generalize (Tryz.prog.fieldsOf 51).toList = fs at *
  have a3 : (isAgg 3).run Tryz.prog w = .ok false w := by kernel_rfl
  obtain ⟨f1, _, rfl, g1, hf⟩ := List.map_eq_cons_iff.1 hf
  obtain ⟨f2, _, rfl, g2, hf⟩ := List.map_eq_cons_iff.1 hf
  obtain ⟨f3, _, rfl, g3, hf⟩ := List.map_eq_cons_iff.1 hf
  obtain rfl := List.map_eq_nil_iff.1 hf
  rw [eqF_cell g1 a3 rfl rfl (run_equalIn_int w D 3 .i64 .i64 t t' (by kernel_rfl)), eqF_cell g2 a3 rfl rfl (run_equalIn_int w D 3 .i64 .i64 o o' (by kernel_rfl)), eqF_cell g3 a3 rfl rfl (run_equalIn_int w D 3 .i64 .i64 r r' (by kernel_rfl))]
  simp only [Op.eqFields, Sem.run_pure, eqL]
  cases t == t' <;> cases o == o' <;> cases r == r' <;> rfl
theorem fields37 : ((Tryz.prog.fieldsOf 53).toList.map fun f => (f.name == "_", f.type, f.offset)) = [(false, 3, 0), (false, 3, 1), (false, 49, 2), (false, 51, 8), (false, 3, 11)] := by kernel_rfl
/-- Whether two objects are alike. -/
def eqO (k x : Int) (n : Bool) (t o r d i p q s m : Int) (k' x' : Int) (n' : Bool) (t' o' r' d' i' p' q' s' m' : Int) : Bool := k == k' && (x == x' && (eqH n t o r d i n' t' o' r' d' i' && (eqL p q s p' q' s' && m == m')))
theorem eqO_iff {k x : Int} {n : Bool} {t o r d i p q s m : Int} {k' x' : Int} {n' : Bool} {t' o' r' d' i' p' q' s' m' : Int} : eqO k x n t o r d i p q s m k' x' n' t' o' r' d' i' p' q' s' m' = true ↔ k = k' ∧ x = x' ∧ n = n' ∧ t = t' ∧ o = o' ∧ r = r' ∧ d = d' ∧ i = i' ∧ p = p' ∧ q = q' ∧ s = s' ∧ m = m' := by
  simp only [eqO, Bool.and_eq_true, beq_iff_eq, eqH_iff, eqL_iff, and_assoc]
theorem part23 (w : World) (k x : Int) (n : Bool) (t o r d i p q s m : Int) : (part 49 #[.int .i64 k, .int .i64 x, .bool n, .int .i64 t, .int .i64 o, .int .i64 r, .int .i64 d, .int .i64 i, .int .i64 p, .int .i64 q, .int .i64 s, .int .i64 m] 2).run Tryz.prog w = .ok (.agg #[.bool n, .int .i64 t, .int .i64 o, .int .i64 r, .int .i64 d, .int .i64 i]) w := by
  have h : (isAgg 49).run Tryz.prog w = .ok true w := by kernel_rfl
  have hc : (Go.sizeOf 49).run Tryz.prog w = .ok 6 w := by kernel_rfl
  simp only [part, Sem.run_bind, h, hc, Result.andThen_ok, if_true, Sem.run_pure]
  rfl
theorem part35 (w : World) (k x : Int) (n : Bool) (t o r d i p q s m : Int) : (part 51 #[.int .i64 k, .int .i64 x, .bool n, .int .i64 t, .int .i64 o, .int .i64 r, .int .i64 d, .int .i64 i, .int .i64 p, .int .i64 q, .int .i64 s, .int .i64 m] 8).run Tryz.prog w = .ok (.agg #[.int .i64 p, .int .i64 q, .int .i64 s]) w := by
  have h : (isAgg 51).run Tryz.prog w = .ok true w := by kernel_rfl
  have hc : (Go.sizeOf 51).run Tryz.prog w = .ok 3 w := by kernel_rfl
  simp only [part, Sem.run_bind, h, hc, Result.andThen_ok, if_true, Sem.run_pure]
  rfl
theorem run_eq37 (k x : Int) (n : Bool) (t o r d i p q s m : Int) (k' x' : Int) (n' : Bool) (t' o' r' d' i' p' q' s' m' : Int) (w : World) : (Op.equalIn 10000 53 (.agg #[.int .i64 k, .int .i64 x, .bool n, .int .i64 t, .int .i64 o, .int .i64 r, .int .i64 d, .int .i64 i, .int .i64 p, .int .i64 q, .int .i64 s, .int .i64 m]) (.agg #[.int .i64 k', .int .i64 x', .bool n', .int .i64 t', .int .i64 o', .int .i64 r', .int .i64 d', .int .i64 i', .int .i64 p', .int .i64 q', .int .i64 s', .int .i64 m'])).run Tryz.prog w = .ok (eqO k x n t o r d i p q s m k' x' n' t' o' r' d' i' p' q' s' m') w := by
  rw [run_equalIn_agg w 9999 53 _ _ under37 (by kernel_rfl)]
  have hf := fields37
  generalize (Tryz.prog.fieldsOf 53).toList = fs at *
  have a3 : (isAgg 3).run Tryz.prog w = .ok false w := by kernel_rfl
  obtain ⟨f0, _, rfl, g0, hf⟩ := List.map_eq_cons_iff.1 hf
  obtain ⟨f1, _, rfl, g1, hf⟩ := List.map_eq_cons_iff.1 hf
  obtain ⟨f2, _, rfl, g2, hf⟩ := List.map_eq_cons_iff.1 hf
  obtain ⟨f3, _, rfl, g3, hf⟩ := List.map_eq_cons_iff.1 hf
  obtain ⟨f4, _, rfl, g4, hf⟩ := List.map_eq_cons_iff.1 hf
  obtain rfl := List.map_eq_nil_iff.1 hf
  rw [eqF_cell g0 a3 rfl rfl (run_equalIn_int w 9998 3 .i64 .i64 k k' (by kernel_rfl)), eqF_cell g1 a3 rfl rfl (run_equalIn_int w 9998 3 .i64 .i64 x x' (by kernel_rfl)),
    eqF_part g2 (part23 w k x n t o r d i p q s m) (part23 w k' x' n' t' o' r' d' i' p' q' s' m') (run_eq23d 9997 n n' t o r d i t' o' r' d' i' w),
    eqF_part g3 (part35 w k x n t o r d i p q s m) (part35 w k' x' n' t' o' r' d' i' p' q' s' m') (run_eq25d 9997 p q s p' q' s' w),
    eqF_cell g4 a3 rfl rfl (run_equalIn_int w 9998 3 .i64 .i64 m m' (by kernel_rfl))]
  simp only [Op.eqFields, Sem.run_pure, eqO]
  cases k == k' <;> cases x == x' <;> cases eqH n t o r d i n' t' o' r' d' i' <;> cases eqL p q s p' q' s' <;> cases m == m' <;> rfl
theorem guard37 (op : BinOp) (x y : Operand) (xs ys : Array Value) (w : World) : (eqGuard op 53 x y (.agg xs) (.agg ys)).run Tryz.prog w = .ok () w :=
  run_eqGuard_agg w op 53 x y xs ys (by kernel_rfl)
end Go.Proofs.YtfiaghfaijlfjaaGreat

