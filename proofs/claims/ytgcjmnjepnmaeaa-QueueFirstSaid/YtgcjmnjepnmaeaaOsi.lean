/- Rows of objects: how many bytes a batch of them has, by the reference's size. No conditions but on lengths. -/
import Derived.Test.YtgcjmnjepnmaeaaOrw
namespace Go.Proofs.Ytgcjmnjepnmaeaa
set_option maxRecDepth 100000
open Go.RowKit Go.Sort

/-- How many bytes these objects have. -/
def osz (ys : List Ob) : Nat := (ys.map fun y => y.bs.length).sum
def AllOk (ys : List Ob) : Prop := ∀ i, i < ys.length → (ys.getD i z12).Ok
instance (ys : List Ob) : Decidable (AllOk ys) := by unfold AllOk; infer_instance
end Go.Proofs.Ytgcjmnjepnmaeaa

