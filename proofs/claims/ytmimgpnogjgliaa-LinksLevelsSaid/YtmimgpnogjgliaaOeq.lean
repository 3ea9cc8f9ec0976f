/- Two objects: whether they are alike. No conditions. -/
import Derived.Test.YtmimgpnogjgliaaOfm
namespace Go.Proofs.Ytmimgpnogjgliaa
set_option maxRecDepth 100000
open Go.RowKit

/-- A field that is compared: by its two parts. -/
theorem eqF_part {P : Program} {w : World} {d : Nat} {xs ys : Array Value} {f : Field} {fs : List Field} {x y : Value} {T : TypeId} {off : Nat} {e : Bool}
    (h : (f.name == "_", f.type, f.offset) = (false, T, off)) (hx : (part T xs off).run P w = .ok x w) (hy : (part T ys off).run P w = .ok y w) (he : (Op.equalIn d T x y).run P w = .ok e w) :
    (Op.eqFields d xs ys (f :: fs)).run P w = if e then (Op.eqFields d xs ys fs).run P w else .ok false w := by
  simp only [Prod.mk.injEq, beq_eq_false_iff_ne] at h
  obtain ⟨h1, h2, h3⟩ := h
  simp only [Op.eqFields, h2, h3]
  rw [if_pos h1]
  simp only [Sem.run_bind, hx, hy, he, Result.andThen_ok, Sem.run_ite, Sem.run_pure]
  cases e <;> simp
theorem run_eq23d (D : Nat) (n m : Bool) (t o r d i t' o' r' d' i' : Int) (w : World) :
    (Op.equalIn (D + 1 + 1) 24 (.agg #[.bool n, .int .i64 t, .int .i64 o, .int .i64 r, .int .i64 d, .int .i64 i]) (.agg #[.bool m, .int .i64 t', .int .i64 o', .int .i64 r', .int .i64 d', .int .i64 i'])).run Try.prog w
      = .ok (eqH n t o r d i m t' o' r' d' i') w := by
  rw [run_equalIn_agg w (D + 1) 24 _ _ under23 (by kernel_rfl)]
  have hf := fields23
  generalize (Try.prog.fieldsOf 24).toList = fs at *
  have a3 : (isAgg 3).run Try.prog w = .ok false w := by kernel_rfl
  have a4 : (isAgg 4).run Try.prog w = .ok false w := by kernel_rfl
  obtain ⟨f0, _, rfl, g0, hf⟩ := List.map_eq_cons_iff.1 hf
  obtain ⟨f1, _, rfl, g1, hf⟩ := List.map_eq_cons_iff.1 hf
  obtain ⟨f2, _, rfl, g2, hf⟩ := List.map_eq_cons_iff.1 hf
  obtain ⟨f3, _, rfl, g3, hf⟩ := List.map_eq_cons_iff.1 hf
  obtain ⟨f4, _, rfl, g4, hf⟩ := List.map_eq_cons_iff.1 hf
  obtain ⟨f5, _, rfl, g5, hf⟩ := List.map_eq_cons_iff.1 hf
  obtain rfl := List.map_eq_nil_iff.1 hf
  rw [eqF_cell g0 a4 rfl rfl (run_equalIn_bool' w D 4 n m (by kernel_rfl)), eqF_cell g1 a3 rfl rfl (run_equalIn_int w D 3 .i64 .i64 t t' (by kernel_rfl)),
    eqF_cell g2 a3 rfl rfl (run_equalIn_int w D 3 .i64 .i64 o o' (by kernel_rfl)), eqF_cell g3 a3 rfl rfl (run_equalIn_int w D 3 .i64 .i64 r r' (by kernel_rfl)),
    eqF_cell g4 a3 rfl rfl (run_equalIn_int w D 3 .i64 .i64 d d' (by kernel_rfl)), eqF_cell g5 a3 rfl rfl (run_equalIn_int w D 3 .i64 .i64 i i' (by kernel_rfl))]
  simp only [Op.eqFields, Sem.run_pure, eqH]
  cases n == m <;> cases t == t' <;> cases o == o' <;> cases r == r' <;> cases d == d' <;> cases i == i' <;> rfl
end Go.Proofs.Ytmimgpnogjgliaa

