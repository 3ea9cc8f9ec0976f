/- Texts Akb, Bdn, Pkt of this proof, in one. No conditions but on lengths. -/
import Derived.Test.YthnajpckhoomgaaGreatRows
import Derived.Test.YthnajpckhoomgaaGreatU07
import Derived.Test.YthnajpckhoomgaaGreatU14
import Derived.ArgAppend
import Derived.Below
import Derived.BigQuiet
import Derived.Calls
import Derived.ChangeArms
import Derived.ChangeKeysEq
import Derived.ChangeOld
import Derived.Deep.Cut
import Derived.Deep.QuietTactic
import Derived.Deep.RegionLaw
import Derived.Deep.RegionWith
import Derived.Deep.Slices
import Derived.Laws.AppendOwnNone
import Derived.Laws.BytesArg
import Derived.Laws.OwnMore
import Derived.Laws.StructEq
import Derived.Lib.Hide
import Derived.Lib.QuietBelow
import Derived.LoopTactic
import Derived.Maps.AppendAt
import Derived.OpenShut
import Derived.Orders
import Derived.Outline
import Derived.ProofKit
import Derived.ShutString
import Derived.StillTail
import Derived.WalkKit
import Derived.WalkSpells
import Derived.WideShapes
namespace Go.Proofs.YthnajpckhoomgaaGreat
set_option maxRecDepth 100000
open Go.RowKit

/-- An ack's bytes; a row's. -/
def akB (y : Int × Int × Int × Int) : List Int := y.1 :: (lo y.2.1 4 ++ (lo y.2.2.1 2 ++ lo y.2.2.2 2))
def acB (ys : List (Int × Int × Int × Int)) : List Int := [(ys.length : Int)] ++ (ys.map akB).flatten
theorem akB_len (y : Int × Int × Int × Int) : (akB y).length = 9 := by simp [akB, lo_len]
theorem akB_flat_len (ys : List (Int × Int × Int × Int)) : ((ys.map akB).flatten).length = 9 * ys.length := by
  induction ys with
  | nil => rfl
  | cons y ys ih => simp only [List.map_cons, List.flatten_cons, List.length_append, akB_len, ih, List.length_cons]; omega
theorem akB_step (ys : List (Int × Int × Int × Int)) (k : Nat) (h : k < ys.length) : ((ys.take (k + 1)).map akB).flatten = ((ys.take k).map akB).flatten ++ akB (ys.getD k (0, 0, 0, 0)) := by
  rw [List.take_succ_eq_append_getElem h, List.map_append, List.flatten_append]; simp [List.getD, h]
theorem lo_byt7 {v : Int} {n : Nat} : ∀ x ∈ lo v n, 0 ≤ x ∧ x < 256 := fun x hx => by
  obtain ⟨i, _, rfl⟩ := List.mem_map.1 hx
  omega
end Go.Proofs.YthnajpckhoomgaaGreat
namespace Go.Proofs.YthnajpckhoomgaaGreat
set_option maxRecDepth 100000
open Go.RowKit Go.Sort

/-- A batch lies there, and may be written. -/
def Own2 (w : World) (b : Nat) (M : Int) (v : Value) : Prop := (w.cell? ⟨b, 0, none⟩ = some (.int .i64 M) ∧ w.cell? ⟨b, 1, none⟩ = some v) ∧ ∀ j, w.frozen? ⟨b, j, none⟩ = false
theorem Own2.lt {w : World} {b : Nat} {M : Int} {v : Value} (h : Own2 w b M v) : b < w.heap.size := World.block_lt_of_cell? w _ h.1.1
theorem Own2.below {w w' : World} {b : Nat} {M : Int} {v : Value} (h : Own2 w b M v) (hb : Below w.heap.size w w') : Own2 w' b M v :=
  ⟨⟨(hb.cell (p := ⟨b, 0, none⟩) h.lt).trans h.1.1, (hb.cell (p := ⟨b, 1, none⟩) h.lt).trans h.1.2⟩, fun j => (hb.frozen (p := ⟨b, j, none⟩) h.lt).trans (h.2 j)⟩
theorem Own2.set {w : World} {b : Nat} {M : Int} {v : Value} (h : Own2 w b M v) (M' : Int) (v' : Value) : Own2 ((w.setCell ⟨b, 0, none⟩ (.int .i64 M')).setCell ⟨b, 1, none⟩ (v')) b M' v' := by
  obtain ⟨⟨h0, h1⟩, hf⟩ := h
  refine ⟨⟨?_, ?_⟩, fun j => ?_⟩ <;> simp [go_sem, hf, h0, h1]
end Go.Proofs.YthnajpckhoomgaaGreat
namespace Go.Proofs.YthnajpckhoomgaaGreat
set_option maxRecDepth 100000
open Go.RowKit Go.WideShapes Go.ChangeShapes

theorem underPK : Tryz.prog.underlying 75 = some (.struct (Tryz.prog.fieldsOf 75)) := by kernel_rfl
theorem pkF_cell {P : Program} {w : World} {d : Nat} {xs ys : Array Value} {f : Field} {fs : List Field} {x y : Value} {T : TypeId} {off : Nat} {e : Bool}
    (h : (f.name == "_", f.type, f.offset) = (false, T, off)) (ha : (isAgg T).run P w = .ok false w) (hx : xs[off]? = some x) (hy : ys[off]? = some y) (he : (Op.equalIn d T x y).run P w = .ok e w) :
    (Op.eqFields d xs ys (f :: fs)).run P w = if e then (Op.eqFields d xs ys fs).run P w else .ok false w := by
  simp only [Prod.mk.injEq, beq_eq_false_iff_ne] at h
  obtain ⟨h1, h2, h3⟩ := h
  have p : ∀ (zs : Array Value) (z : Value), zs[off]? = some z → (part T zs off).run P w = .ok z w := by
    intro zs z hz
    simp only [part, Sem.run_bind, ha, Result.andThen_ok, Bool.false_eq_true, if_false, hz, Sem.run_pure]
  simp only [Op.eqFields, h2, h3]
  rw [if_pos h1]
  simp only [Sem.run_bind, p xs x hx, p ys y hy, he, Result.andThen_ok, Sem.run_ite, Sem.run_pure]
  cases e <;> simp
theorem fieldsPK : ((Tryz.prog.fieldsOf 75).toList.map fun f => (f.name == "_", f.type, f.offset)) = [(false, 3, 0), (false, 3, 1), (false, 3, 2), (false, 3, 3), (false, 9, 4)] := by kernel_rfl
def eqK (a b c d : Int) (x : ByteArray) (a' b' c' d' : Int) (x' : ByteArray) : Bool := a == a' && (b == b' && (c == c' && (d == d' && x.toList == x'.toList)))
theorem run_eqPK (a b c d : Int) (x : ByteArray) (a' b' c' d' : Int) (x' : ByteArray) (w : World) :
    (Op.equalIn 10000 75 (.agg #[.int .i64 a, .int .i64 b, .int .i64 c, .int .i64 d, .string x]) (.agg #[.int .i64 a', .int .i64 b', .int .i64 c', .int .i64 d', .string x'])).run Tryz.prog w = .ok (eqK a b c d x a' b' c' d' x') w := by
  rw [run_equalIn_agg w 9999 75 _ _ underPK (by kernel_rfl)]
  have hf := fieldsPK
  generalize (Tryz.prog.fieldsOf 75).toList = fs at *
  have a3 : (isAgg 3).run Tryz.prog w = .ok false w := by kernel_rfl
  have a9 : (isAgg 9).run Tryz.prog w = .ok false w := by kernel_rfl
  obtain ⟨f0, _, rfl, g0, hf⟩ := List.map_eq_cons_iff.1 hf
  obtain ⟨f1, _, rfl, g1, hf⟩ := List.map_eq_cons_iff.1 hf
  obtain ⟨f2, _, rfl, g2, hf⟩ := List.map_eq_cons_iff.1 hf
  obtain ⟨f3, _, rfl, g3, hf⟩ := List.map_eq_cons_iff.1 hf
  obtain ⟨f4, _, rfl, g4, hf⟩ := List.map_eq_cons_iff.1 hf
  obtain rfl := List.map_eq_nil_iff.1 hf
  rw [pkF_cell g0 a3 rfl rfl (run_equalIn_int w 9998 3 .i64 .i64 a a' (by kernel_rfl)), pkF_cell g1 a3 rfl rfl (run_equalIn_int w 9998 3 .i64 .i64 b b' (by kernel_rfl)), pkF_cell g2 a3 rfl rfl (run_equalIn_int w 9998 3 .i64 .i64 c c' (by kernel_rfl)), pkF_cell g3 a3 rfl rfl (run_equalIn_int w 9998 3 .i64 .i64 d d' (by kernel_rfl)), pkF_cell g4 a9 rfl rfl (run_equalIn_string w 9998 9 x x' (by kernel_rfl))]
  simp only [Op.eqFields, Sem.run_pure, eqK]
  cases a == a' <;> cases b == b' <;> cases c == c' <;> cases d == d' <;> cases x.toList == x'.toList <;> rfl
theorem guardPK (op : BinOp) (x y : Operand) (xs ys : Array Value) (w : World) : (eqGuard op 75 x y (.agg xs) (.agg ys)).run Tryz.prog w = .ok () w :=
  run_eqGuard_agg w op 75 x y xs ys (by kernel_rfl)
theorem neqPK (a b c d : Int) (x : ByteArray) (a' b' c' d' : Int) (x' : ByteArray) (w : World) : (binOp .neq 75 (.agg #[.int .i64 a, .int .i64 b, .int .i64 c, .int .i64 d, .string x]) (.agg #[.int .i64 a', .int .i64 b', .int .i64 c', .int .i64 d', .string x'])).run Tryz.prog w = .ok (.bool (!eqK a b c d x a' b' c' d' x')) w := by
  rw [run_neq_struct, run_eqPK]; rfl
def OwnP (w : World) (b : Nat) (s d t n : Int) (x : ByteArray) : Prop := (w.cell? ⟨b, 0, none⟩ = some (.int .i64 s) ∧ w.cell? ⟨b, 1, none⟩ = some (.int .i64 d) ∧ w.cell? ⟨b, 2, none⟩ = some (.int .i64 t) ∧ w.cell? ⟨b, 3, none⟩ = some (.int .i64 n) ∧ w.cell? ⟨b, 4, none⟩ = some (.string x)) ∧ ∀ j, w.frozen? ⟨b, j, none⟩ = false
theorem OwnP.lt {w : World} {b : Nat} {s d t n : Int} {x : ByteArray} (h : OwnP w b s d t n x) : b < w.heap.size := World.block_lt_of_cell? w _ h.1.1
theorem OwnP.low {w w' : World} {b S : Nat} {s d t n : Int} {x : ByteArray} (h : OwnP w b s d t n x) (hb : b < S) (hB : Below S w w') : OwnP w' b s d t n x :=
  ⟨⟨(hB.cell (p := ⟨b, 0, none⟩) hb).trans h.1.1, (hB.cell (p := ⟨b, 1, none⟩) hb).trans h.1.2.1, (hB.cell (p := ⟨b, 2, none⟩) hb).trans h.1.2.2.1, (hB.cell (p := ⟨b, 3, none⟩) hb).trans h.1.2.2.2.1, (hB.cell (p := ⟨b, 4, none⟩) hb).trans h.1.2.2.2.2⟩, fun j => (hB.frozen (p := ⟨b, j, none⟩) hb).trans (h.2 j)⟩
theorem OwnP.below {w w' : World} {b : Nat} {s d t n : Int} {x : ByteArray} (h : OwnP w b s d t n x) (hb : Below w.heap.size w w') : OwnP w' b s d t n x := h.low h.lt hb
theorem OwnP.apart {w : World} {b b' : Nat} {s d t n : Int} {x : ByteArray} {u : Value} (h : OwnP w b s d t n x) (hb : b ≠ b') (j : Nat) : OwnP (w.setCell ⟨b', j, none⟩ u) b s d t n x := by
  have e : ∀ i, (w.setCell ⟨b', j, none⟩ u).cell? ⟨b, i, none⟩ = w.cell? ⟨b, i, none⟩ := fun i => World.cell?_of_block (Below.heap_setCell w ⟨b', j, none⟩ u b hb)
  have f : ∀ i, (w.setCell ⟨b', j, none⟩ u).frozen? ⟨b, i, none⟩ = w.frozen? ⟨b, i, none⟩ := fun i => World.frozen?_of_block (Below.heap_setCell w ⟨b', j, none⟩ u b hb)
  exact ⟨⟨(e 0).trans h.1.1, (e 1).trans h.1.2.1, (e 2).trans h.1.2.2.1, (e 3).trans h.1.2.2.2.1, (e 4).trans h.1.2.2.2.2⟩, fun i => (f i).trans (h.2 i)⟩
/-- A packet laid into a variable. -/
def put5 (w : World) (b : Nat) (s d t n : Int) (x : ByteArray) : World := ((((w.setCell ⟨b, 0, none⟩ (.int .i64 s)).setCell ⟨b, 1, none⟩ (.int .i64 d)).setCell ⟨b, 2, none⟩ (.int .i64 t)).setCell ⟨b, 3, none⟩ (.int .i64 n)).setCell ⟨b, 4, none⟩ (.string x)
theorem OwnP.set {w : World} {b : Nat} {s d t n : Int} {x : ByteArray} (h : OwnP w b s d t n x) (s' d' t' n' : Int) (x' : ByteArray) : OwnP (put5 w b s' d' t' n' x') b s' d' t' n' x' := by
  obtain ⟨⟨h0, h1, h2, h3, h4⟩, hf⟩ := h
  unfold put5
  refine ⟨⟨?_, ?_, ?_, ?_, ?_⟩, fun j => ?_⟩ <;> simp [go_sem, hf, h0, h1, h2, h3, h4]
def PkOk (s d t n : Int) (x : ByteArray) : Prop := (0 ≤ s ∧ s < 64) ∧ (0 ≤ d ∧ d < 64) ∧ (0 ≤ t ∧ t ≤ 255) ∧ (0 ≤ n ∧ n ≤ 65535) ∧ x.size ≤ 256
instance (s d t n : Int) (x : ByteArray) : Decidable (PkOk s d t n x) := by unfold PkOk; infer_instance
end Go.Proofs.YthnajpckhoomgaaGreat
