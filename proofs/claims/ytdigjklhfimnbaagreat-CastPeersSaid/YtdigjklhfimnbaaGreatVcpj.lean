/- What is asked of the function of CastPeers as a whole (a text of its own: memory). No conditions. -/
import Derived.Test.YtdigjklhfimnbaaGreatRows
import Derived.JoinedOf
import Derived.ProofKit
namespace Go.Proofs.YtdigjklhfimnbaaGreat.castPeers
open Go.ChangeShapes Go.WideShapes Go.ChangeAt Go.RowKit
set_option maxRecDepth 100000

theorem joined : joinedFacts Tryz.pinned.checked.prog 6 Tryz.f6 Rows.castPeersSpec Rows.castPeersRow = true := by kernel_rfl
end Go.Proofs.YtdigjklhfimnbaaGreat.castPeers
