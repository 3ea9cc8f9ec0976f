/- Rows of views; whether two views are alike. No conditions. -/

import Derived.Test.YtmimgpnogjgliaaFrm
import Derived.Test.YtmimgpnogjgliaaHeq
import Derived.Test.YtmimgpnogjgliaaOeq
import Derived.Test.YtmimgpnogjgliaaLes
import Derived.Test.YtmimgpnogjgliaaZin
import Derived.Test.YtmimgpnogjgliaaGsp
import Derived.Test.YtmimgpnogjgliaaOth
import Derived.Test.YtmimgpnogjgliaaWit
namespace Go.Proofs.Ytmimgpnogjgliaa
set_option maxRecDepth 100000
open Go.RowKit Go.WideShapes Go.ChangeShapes

/-- A height: whether it is Null, its Tau, Oid, R, Delta, Id. A view: its Id, its height. -/
abbrev Hx := Bool × Int × Int × Int × Int × Int
abbrev Vw := Int × Hx
def zHx : Hx := (false, 0, 0, 0, 0, 0)
def zVw : Vw := (0, zHx)
abbrev hxV (x : Hx) : Value := .agg #[.bool x.1, .int .i64 x.2.1, .int .i64 x.2.2.1, .int .i64 x.2.2.2.1, .int .i64 x.2.2.2.2.1, .int .i64 x.2.2.2.2.2]
abbrev vwV (y : Vw) : Value := .agg #[.int .i64 y.1, .bool y.2.1, .int .i64 y.2.2.1, .int .i64 y.2.2.2.1, .int .i64 y.2.2.2.2.1, .int .i64 y.2.2.2.2.2.1, .int .i64 y.2.2.2.2.2.2]
theorem underVS : Try.prog.underlying 22 = some (.slice 43) := by kernel_rfl
theorem infoVW : (Try.prog.info? 43).map (fun i => (i.zero, i.size, i.bytes)) = some (some (.agg #[.int .i64 0, .bool false, .int .i64 0, .int .i64 0, .int .i64 0, .int .i64 0, .int .i64 0]), 7, 56) := by kernel_rfl
theorem cellsVW : Try.prog.cellsOf 43 = 7 := by kernel_rfl
def vwc (y : Vw) : List Value := [.int .i64 y.1, .bool y.2.1, .int .i64 y.2.2.1, .int .i64 y.2.2.2.1, .int .i64 y.2.2.2.2.1, .int .i64 y.2.2.2.2.2.1, .int .i64 y.2.2.2.2.2.2]
theorem vwc_ones : ∀ y, ∀ u ∈ vwc y, u.oneCell' = true := by
  intro y u hu
  simp only [vwc, List.mem_cons, List.not_mem_nil, or_false] at hu
  rcases hu with rfl | rfl | rfl | rfl | rfl | rfl | rfl <;> rfl
noncomputable def RV : RowT where
  α := Vw
  d := zVw
  cl := vwc
  K := 7
  T := 43
  SL := 22
  zero := .agg #[.int .i64 0, .bool false, .int .i64 0, .int .i64 0, .int .i64 0, .int .i64 0, .int .i64 0]
  bytes := 56
  hcl := fun _ => rfl
  hK := by decide
  hone := vwc_ones
  hSL := underVS
  hinfo := infoVW
  hz := rfl
  hb := by decide
  hc := cellsVW
/-- A slice that reads as views; a row of views of one's own. -/
def Vs (w : World) (v : Value) (l : List Vw) : Prop := Gs RV w v l
def OwV (w : World) (S : Nat) (v : Value) (l : List Vw) : Prop := w.ownsRow S RV.T RV.K v l.length (gflat RV l)
/-- Seven cells of a view. -/
def C7 (w : World) (b o : Nat) (y : Vw) : Prop := w.cell? ⟨b, o, none⟩ = some (.int .i64 y.1) ∧ w.cell? ⟨b, o + 1, none⟩ = some (.bool y.2.1) ∧ w.cell? ⟨b, o + 2, none⟩ = some (.int .i64 y.2.2.1) ∧ w.cell? ⟨b, o + 3, none⟩ = some (.int .i64 y.2.2.2.1) ∧ w.cell? ⟨b, o + 4, none⟩ = some (.int .i64 y.2.2.2.2.1) ∧ w.cell? ⟨b, o + 5, none⟩ = some (.int .i64 y.2.2.2.2.2.1) ∧ w.cell? ⟨b, o + 6, none⟩ = some (.int .i64 y.2.2.2.2.2.2)
theorem gc_seven {w : World} {b o : Nat} {y : Vw} (h : GC RV w b o y) : C7 w b o y := by
  have h0 := h 0 (show 0 < 7 by decide)
  have h1 := h 1 (show 1 < 7 by decide)
  have h2 := h 2 (show 2 < 7 by decide)
  have h3 := h 3 (show 3 < 7 by decide)
  have h4 := h 4 (show 4 < 7 by decide)
  have h5 := h 5 (show 5 < 7 by decide)
  have h6 := h 6 (show 6 < 7 by decide)
  exact ⟨h0, h1, h2, h3, h4, h5, h6⟩
theorem seven_gc {w : World} {b o : Nat} {y : Vw} (h : C7 w b o y) : GC RV w b o y := by
  intro j hj
  have hj' : j < 7 := hj
  obtain ⟨h0, h1, h2, h3, h4, h5, h6⟩ := h
  match j, hj' with
  | 0, _ => exact h0
  | 1, _ => exact h1
  | 2, _ => exact h2
  | 3, _ => exact h3
  | 4, _ => exact h4
  | 5, _ => exact h5
  | 6, _ => exact h6
theorem C7.below {w w' : World} {b o : Nat} {y : Vw} {B : Nat} (h : C7 w b o y) (hb : Below B w w') (hB : b < B) : C7 w' b o y := gc_seven (GC.low (seven_gc h) hB hb)
theorem Vs.at {w : World} {a : Option Addr} {c : Nat} {l : List Vw} (h : Vs w (.slice a l.length c) l) {i : Nat} (hi : i < l.length) : ∃ b off, a = some ⟨b, off, none⟩ ∧ b < w.heap.size ∧ C7 w b (off + i * 7) (l.getD i zVw) := by
  obtain ⟨b, off, h1, h2, h3⟩ := Gs.at (R := RV) h hi
  exact ⟨b, off, h1, h2, gc_seven h3⟩
theorem Vs.all {w : World} {b off c : Nat} {l : List Vw} (h : Vs w (.slice (some ⟨b, off, none⟩) l.length c) l) {i : Nat} (hi : i < l.length) : b < w.heap.size ∧ C7 w b (off + i * 7) (l.getD i zVw) :=
  ⟨(Gs.all (R := RV) h hi).1, gc_seven (Gs.all (R := RV) h hi).2⟩
theorem Vs.form {w : World} {v : Value} {l : List Vw} (h : Vs w v l) : ∃ a c, v = .slice a l.length c := Gs.form (R := RV) h
theorem Vs.below {w w' : World} {v : Value} {l : List Vw} (h : Vs w v l) (hb : Below w.heap.size w w') : Vs w' v l := Gs.below (R := RV) h hb
theorem Vs.len {w : World} {a : Option Addr} {n c : Nat} {l : List Vw} (h : Vs w (.slice a n c) l) : n = l.length := by
  obtain ⟨a', c', e⟩ := h.form
  simp only [Value.slice.injEq] at e
  exact e.2.1
theorem Vs_nil (w : World) : Vs w (.slice none 0 0) [] := Gs_nil (R := RV) w
theorem OwV.vs {w : World} {S : Nat} {v : Value} {l : List Vw} (h : OwV w S v l) : Vs w v l := (Gs_of_own (R := RV) h).1
theorem OwV_nil (w : World) (S : Nat) : OwV w S (.slice none 0 0) [] := gown_nil (R := RV) w S
theorem OwV.below {w w' : World} {S : Nat} {v : Value} {l : List Vw} (h : OwV w S v l) (hb : Below w.heap.size w w') : OwV w' S v l := gown_below h hb
theorem OwV.mono {w : World} {S S' : Nat} {v : Value} {l : List Vw} (h : OwV w S v l) (hS : S' ≤ S) : OwV w S' v l := gown_mono h hS
theorem OwV.form {w : World} {S : Nat} {v : Value} {l : List Vw} (h : OwV w S v l) : ∃ a c, v = .slice a l.length c := gown_form h
/-- A variable that holds a view, of one's own. -/
def OwnV (w : World) (b : Nat) (y : Vw) : Prop := C7 w b 0 y ∧ ∀ k, w.frozen? ⟨b, k, none⟩ = false
theorem OwnV.lt {w : World} {b : Nat} {y : Vw} (h : OwnV w b y) : b < w.heap.size := World.block_lt_of_cell? w _ h.1.1
theorem OwnV.below {w w' : World} {b : Nat} {y : Vw} (h : OwnV w b y) (hb : Below w.heap.size w w') : OwnV w' b y :=
  ⟨h.1.below hb h.lt, fun k => (hb.frozen (p := ⟨b, k, none⟩) h.lt).trans (h.2 k)⟩
theorem ownV_alloc (w : World) (y : Vw) (g : Nat) (hg : g = w.heap.size) (T : TypeId) : OwnV (w.alloc (.cells #[.int .i64 y.1, .bool y.2.1, .int .i64 y.2.2.1, .int .i64 y.2.2.2.1, .int .i64 y.2.2.2.2.1, .int .i64 y.2.2.2.2.2.1, .int .i64 y.2.2.2.2.2.2] T)) g y := by
  subst hg
  refine ⟨gc_seven (gc_alloc RV w y _ rfl T), fun k => by simp⟩
theorem fieldsVW : ((Try.prog.fieldsOf 43).toList.map fun f => (f.name == "_", f.type, f.offset)) = [(false, 3, 0), (false, 24, 1)] := by kernel_rfl
theorem underVW : Try.prog.underlying 43 = some (.struct (Try.prog.fieldsOf 43)) := by kernel_rfl
/-- Whether two heights, two views are alike. -/
def eqX (x y : Hx) : Bool := eqH x.1 x.2.1 x.2.2.1 x.2.2.2.1 x.2.2.2.2.1 x.2.2.2.2.2 y.1 y.2.1 y.2.2.1 y.2.2.2.1 y.2.2.2.2.1 y.2.2.2.2.2
theorem eqX_iff {x y : Hx} : eqX x y = true ↔ x = y := by
  unfold eqX
  rw [eqH_iff]
  constructor
  · rintro ⟨h1, h2, h3, h4, h5, h6⟩
    exact Prod.ext h1 (Prod.ext h2 (Prod.ext h3 (Prod.ext h4 (Prod.ext h5 h6))))
  · rintro rfl
    exact ⟨rfl, rfl, rfl, rfl, rfl, rfl⟩
def eqVw (x y : Vw) : Bool := x.1 == y.1 && eqX x.2 y.2
theorem eqVw_iff {x y : Vw} : eqVw x y = true ↔ x = y := by
  unfold eqVw
  rw [Bool.and_eq_true, beq_iff_eq, eqX_iff]
  exact ⟨fun h => Prod.ext h.1 h.2, fun h => by rw [h]; exact ⟨rfl, rfl⟩⟩
instance hxDec : DecidableEq Hx := fun x y => if h : eqX x y = true then isTrue (eqX_iff.1 h) else isFalse (fun e => h (eqX_iff.2 e))
instance vwDec : DecidableEq Vw := fun x y => if h : eqVw x y = true then isTrue (eqVw_iff.1 h) else isFalse (fun e => h (eqVw_iff.2 e))
theorem partVW (y : Vw) (w : World) : (part 24 #[.int .i64 y.1, .bool y.2.1, .int .i64 y.2.2.1, .int .i64 y.2.2.2.1, .int .i64 y.2.2.2.2.1, .int .i64 y.2.2.2.2.2.1, .int .i64 y.2.2.2.2.2.2] 1).run Try.prog w = .ok (hxV y.2) w := by
  have h : (isAgg 24).run Try.prog w = .ok true w := by kernel_rfl
  have hc : (Go.sizeOf 24).run Try.prog w = .ok 6 w := by kernel_rfl
  simp only [part, Sem.run_bind, h, hc, Result.andThen_ok, if_true, Sem.run_pure]
  rfl
theorem run_eqVW (x y : Vw) (w : World) : (Op.equalIn 10000 43 (vwV x) (vwV y)).run Try.prog w = .ok (eqVw x y) w := by
  rw [run_equalIn_agg w 9999 43 _ _ underVW (by kernel_rfl)]
  have hf := fieldsVW
  generalize (Try.prog.fieldsOf 43).toList = fs at *
  have a3 : (isAgg 3).run Try.prog w = .ok false w := by kernel_rfl
  obtain ⟨f0, _, rfl, g0, hf⟩ := List.map_eq_cons_iff.1 hf
  obtain ⟨f1, _, rfl, g1, hf⟩ := List.map_eq_cons_iff.1 hf
  obtain rfl := List.map_eq_nil_iff.1 hf
  rw [eqF_cell g0 a3 rfl rfl (run_equalIn_int w 9998 3 .i64 .i64 x.1 y.1 (by kernel_rfl)), eqF_part g1 (partVW x w) (partVW y w) (run_eq23d 9997 x.2.1 y.2.1 x.2.2.1 x.2.2.2.1 x.2.2.2.2.1 x.2.2.2.2.2.1 x.2.2.2.2.2.2 y.2.2.1 y.2.2.2.1 y.2.2.2.2.1 y.2.2.2.2.2.1 y.2.2.2.2.2.2 w)]
  simp only [Op.eqFields, Sem.run_pure, eqVw, eqX]
  cases x.1 == y.1 <;> cases eqH x.2.1 x.2.2.1 x.2.2.2.1 x.2.2.2.2.1 x.2.2.2.2.2.1 x.2.2.2.2.2.2 y.2.1 y.2.2.1 y.2.2.2.1 y.2.2.2.2.1 y.2.2.2.2.2.1 y.2.2.2.2.2.2 <;> rfl
theorem guardVW (op : BinOp) (x y : Operand) (xs ys : Array Value) (w : World) : (eqGuard op 43 x y (.agg xs) (.agg ys)).run Try.prog w = .ok () w := run_eqGuard_agg w op 43 x y xs ys (by kernel_rfl)
theorem eqlVW (x y : Vw) (w : World) : (binOp .eql 43 (vwV x) (vwV y)).run Try.prog w = .ok (.bool (eqVw x y)) w := by
  rw [run_eql_struct, run_eqVW]; rfl
theorem neqVW (x y : Vw) (w : World) : (binOp .neq 43 (vwV x) (vwV y)).run Try.prog w = .ok (.bool (!eqVw x y)) w := by
  rw [run_neq_struct, run_eqVW]; rfl
theorem eqlHX (x y : Hx) (w : World) : (binOp .eql 24 (hxV x) (hxV y)).run Try.prog w = .ok (.bool (eqX x y)) w := eql23 x.1 y.1 x.2.1 x.2.2.1 x.2.2.2.1 x.2.2.2.2.1 x.2.2.2.2.2 y.2.1 y.2.2.1 y.2.2.2.1 y.2.2.2.2.1 y.2.2.2.2.2 w
theorem vset6 {w : World} {b : Nat} {m : Bool} {x1 x2 x3 x4 x5 : Int} (h : Cells6 w b m x1 x2 x3 x4 x5) (n : Bool) (t o r d i : Int) : Cells6 ((((((w.setCell ⟨b, 0, none⟩ (.bool n)).setCell ⟨b, 1, none⟩ (.int .i64 t)).setCell ⟨b, 2, none⟩ (.int .i64 o)).setCell ⟨b, 3, none⟩ (.int .i64 r)).setCell ⟨b, 4, none⟩ (.int .i64 d)).setCell ⟨b, 5, none⟩ (.int .i64 i)) b n t o r d i := by
  obtain ⟨h0, h1, h2, h3, h4, h5⟩ := h
  refine ⟨?_, ?_, ?_, ?_, ?_, ?_⟩ <;> simp [go_sem, h0, h1, h2, h3, h4, h5]
theorem vbel_set6 {B : Nat} {a w : World} {b : Nat} (h : Below B a w) (hB : B ≤ b) (n : Bool) (t o r d i : Int) : Below B a ((((((w.setCell ⟨b, 0, none⟩ (.bool n)).setCell ⟨b, 1, none⟩ (.int .i64 t)).setCell ⟨b, 2, none⟩ (.int .i64 o)).setCell ⟨b, 3, none⟩ (.int .i64 r)).setCell ⟨b, 4, none⟩ (.int .i64 d)).setCell ⟨b, 5, none⟩ (.int .i64 i)) :=
  (((((h.setCell (by exact hB) _).setCell (by exact hB) _).setCell (by exact hB) _).setCell (by exact hB) _).setCell (by exact hB) _).setCell (by exact hB) _
/-- Of a height: right; told; its level; less. -/
def hOk (x : Hx) : Prop := HtOk x.1 x.2.1 x.2.2.1 x.2.2.2.1 x.2.2.2.2.1 x.2.2.2.2.2
instance hOkd (x : Hx) : Decidable (hOk x) := by unfold hOk; infer_instance
def tld (x : Hx) : Bool := told x.1 x.2.1 x.2.2.1 x.2.2.2.1 x.2.2.2.2.1 x.2.2.2.2.2
def lsx (x y : Hx) : Bool := lessB x.1 x.2.1 x.2.2.1 x.2.2.2.1 x.2.2.2.2.1 x.2.2.2.2.2 y.1 y.2.1 y.2.2.1 y.2.2.2.1 y.2.2.2.2.1 y.2.2.2.2.2
def nulX (i : Int) : Hx := (true, 0, 0, 0, 0, i)
abbrev Lv := Int × Int × Int
def lvX (x : Hx) : Lv := if tld x then (x.2.1, x.2.2.1, x.2.2.2.1) else (0, 0, 0)
end Go.Proofs.Ytmimgpnogjgliaa

