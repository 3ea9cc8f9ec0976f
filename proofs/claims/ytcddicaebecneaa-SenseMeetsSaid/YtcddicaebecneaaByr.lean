/- Bytes as rows: one byte more, a row of bytes more, by the append's run. No conditions but on lengths. -/
import Derived.Test.YtcddicaebecneaaGsp
import Derived.Test.YtcddicaebecneaaLev
import Derived.Test.YtcddicaebecneaaByt
import Derived.Test.YtcddicaebecneaaFrm
import Derived.Test.YtcddicaebecneaaBeq
import Derived.Test.YtcddicaebecneaaRint
import Derived.Test.YtcddicaebecneaaRead
namespace Go.Proofs.Ytcddicaebecneaa
set_option maxRecDepth 100000
open Go.RowKit

section
variable (R : RowT)
end
/-- Bytes in a row of the call's own. -/
def OwB (w : World) (S : Nat) (v : Value) (xs : List Int) : Prop := w.ownsRow S 5 1 v xs.length (xs.map (Value.int .u8))
theorem OwB.mono {w : World} {S B : Nat} {v : Value} {xs : List Int} (h : OwB w S v xs) (hB : B ≤ S) : OwB w B v xs := gown_mono h hB
end Go.Proofs.Ytcddicaebecneaa

