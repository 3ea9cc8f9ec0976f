/- Rows of batches in memory of their own; part of a row of objects. No conditions but on lengths. -/
import Derived.Test.YtgcjmnjepnmaeaaObt
namespace Go.Proofs.Ytgcjmnjepnmaeaa
set_option maxRecDepth 100000
open Go.RowKit Go.Sort

/-- The two cells of a batch. -/
def c2 (p : Int × Value) : List Value := [.int .i64 p.1, p.2]
end Go.Proofs.Ytgcjmnjepnmaeaa

