/- One form for each answer; what the program's functions answer, as a hypothesis; the document's example. No conditions but on lengths. -/
import Derived.Test.YtgcjmnjepnmaeaaPkt
import Derived.Test.YtgcjmnjepnmaeaaRint
import Derived.Test.YtgcjmnjepnmaeaaRead
import Derived.Test.YtgcjmnjepnmaeaaGrw
import Derived.Test.YtgcjmnjepnmaeaaRows
import Derived.Test.YtgcjmnjepnmaeaaTyp4
import Derived.Test.YtgcjmnjepnmaeaaByt
import Derived.Test.YtgcjmnjepnmaeaaPut
namespace Go.Proofs.Ytgcjmnjepnmaeaa
set_option maxRecDepth 100000
open Go.RowKit

def kP (s d t n : Int) (x : ByteArray) : Int := if PkOk s d t n x then 0 else 1
end Go.Proofs.Ytgcjmnjepnmaeaa

