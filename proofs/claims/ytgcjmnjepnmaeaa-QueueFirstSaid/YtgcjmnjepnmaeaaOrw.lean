/- Rows of objects: in memory, as arguments, in memory of their own. No conditions. -/
import Derived.Test.YtgcjmnjepnmaeaaObb
import Derived.Test.YtgcjmnjepnmaeaaFrm
import Derived.Deep.Slices
namespace Go.Proofs.Ytgcjmnjepnmaeaa
set_option maxRecDepth 100000
open Go.RowKit Go.Sort Go.WideShapes Go.ChangeShapes

/-- An object. -/
structure Ob where
  k : Int
  x : Int
  n : Bool
  t : Int
  o : Int
  r : Int
  d : Int
  i : Int
  p : Int
  q : Int
  s : Int
  m : Int
def z12 : Ob := ⟨0, 0, false, 0, 0, 0, 0, 0, 0, 0, 0, 0⟩
def Ob.cl (y : Ob) : List Value := [.int .i64 y.k, .int .i64 y.x, .bool y.n, .int .i64 y.t, .int .i64 y.o, .int .i64 y.r, .int .i64 y.d, .int .i64 y.i, .int .i64 y.p, .int .i64 y.q, .int .i64 y.s, .int .i64 y.m]
def Ob.Ok (y : Ob) : Prop := ObOk y.k y.x y.n y.t y.o y.r y.d y.i y.p y.q y.s y.m
instance (y : Ob) : Decidable y.Ok := by unfold Ob.Ok; infer_instance
def Ob.bs (y : Ob) : List Int := obBs y.k y.x y.n y.t y.o y.r y.d y.i y.p y.q y.s y.m
/-- The twelve cells of an object, wherever they lie. -/
def C12 (w : World) (b o : Nat) (y : Ob) : Prop := ∀ j, j < 12 → w.cell? ⟨b, o + j, none⟩ = y.cl[j]?
/-- A slice of objects that reads as ys. -/
def Os (w : World) (v : Value) (ys : List Ob) : Prop :=
  (∃ a cap, v = .slice a 0 cap ∧ (a = none → cap = 0) ∧ ys = []) ∨
  ∃ b off cap, v = .slice (some ⟨b, off, none⟩) ys.length cap ∧ ys.length ≤ cap ∧ b < w.heap.size ∧ ∀ i, i < ys.length → C12 w b (off + i * 12) (ys.getD i z12)
theorem Os.below {w w' : World} {v : Value} {ys : List Ob} (h : Os w v ys) (hb : Below w.heap.size w w') : Os w' v ys := by
  rcases h with h | ⟨b, off, cap, h1, h2, h3, h4⟩
  · exact .inl h
  · refine .inr ⟨b, off, cap, h1, h2, Nat.lt_of_lt_of_le h3 hb.size, fun i hi j hj => ?_⟩
    rw [hb.cell (p := ⟨b, off + i * 12 + j, none⟩) h3]
    exact h4 i hi j hj
end Go.Proofs.Ytgcjmnjepnmaeaa

