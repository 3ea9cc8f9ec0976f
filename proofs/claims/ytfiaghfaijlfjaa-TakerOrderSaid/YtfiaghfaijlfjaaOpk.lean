/- Rows of batches in memory of their own; part of a row of objects. No conditions but on lengths. -/
import Derived.Test.YtfiaghfaijlfjaaObt
namespace Go.Proofs.Ytfiaghfaijlfjaa
set_option maxRecDepth 100000
open Go.RowKit Go.Sort

/-- The two cells of a batch. -/
def c2 (p : Int × Value) : List Value := [.int .i64 p.1, p.2]
def flat2 (vs : List (Int × Value)) : List Value := vs.flatMap c2
def zb : Int × List Ob := (0, [])
def zv : Int × Value := (0, .slice none 0 0)
/-- A row of batches of the call's own, whose objects lie in rows of its own, too. -/
def RowB (w : World) (base : Nat) (v : Value) (bs : List (Int × List Ob)) : Prop :=
  ∃ vs : List (Int × Value), vs.length = bs.length ∧ w.ownsRow base 27 2 v bs.length (flat2 vs) ∧
    ∀ i, i < bs.length → (vs.getD i zv).1 = (bs.getD i zb).1 ∧ w.ownsRow base 35 12 (vs.getD i zv).2 (bs.getD i zb).2.length (flat (bs.getD i zb).2)
theorem RowB.below {w w' : World} {base : Nat} {v : Value} {bs : List (Int × List Ob)} (h : RowB w base v bs) (hb : Below w.heap.size w w') : RowB w' base v bs := by
  obtain ⟨vs, h1, h2, h3⟩ := h
  exact ⟨vs, h1, own_below h2 hb, fun i hi => ⟨(h3 i hi).1, own_below (h3 i hi).2 hb⟩⟩
end Go.Proofs.Ytfiaghfaijlfjaa

