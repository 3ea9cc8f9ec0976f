/- The contracts of what only reads: the reference's sum, the powers, reading a number. No conditions. -/
import Derived.WalkKit
import Derived.ProofKit
import Derived.OpenShut
import Derived.ShutString
import Derived.ChangeOld
import Derived.Below
import Derived.Test.YtmimgpnogjgliaaBase
namespace Go.Proofs.Ytmimgpnogjgliaa
set_option maxRecDepth 100000
open Go.RowKit

/-- 256 to the n. -/
def pow256 : Nat → Int
  | 0 => 1
  | n + 1 => 256 * pow256 n
/-- Bytes as a number, the highest first. -/
def be (xs : List Int) : Int := xs.foldl (fun a x => 256 * a + x) 0
end Go.Proofs.Ytmimgpnogjgliaa

