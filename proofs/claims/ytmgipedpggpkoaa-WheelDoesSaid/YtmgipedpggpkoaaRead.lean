/- The contracts of what only reads: the reference's sum, the powers, reading a number. No conditions. -/
import Derived.Test.YtmgipedpggpkoaaRows
import Derived.WalkKit
import Derived.ProofKit
import Derived.OpenShut
import Derived.ShutString
import Derived.ChangeOld
import Derived.Below
namespace Go.Proofs.Ytmgipedpggpkoaa
set_option maxRecDepth 100000
open Go.RowKit

/-- 256 to the n. -/
def pow256 : Nat → Int
  | 0 => 1
  | n + 1 => 256 * pow256 n
end Go.Proofs.Ytmgipedpggpkoaa

