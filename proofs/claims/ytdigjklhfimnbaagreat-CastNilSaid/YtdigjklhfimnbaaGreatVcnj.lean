/- What is asked of the function of CastNil as a whole (a text of its own: memory). No conditions. -/
import Derived.Test.YtdigjklhfimnbaaGreatRows
import Derived.Test.YtdigjklhfimnbaaGreatRows
import Derived.JoinedOf
import Derived.ProofKit
namespace Go.Proofs.YtdigjklhfimnbaaGreat.castNil
open Go.ChangeShapes Go.WideShapes Go.ChangeAt Go.RowKit
set_option maxRecDepth 100000

theorem joined : joinedFacts Tryz.pinned.checked.prog 7 Tryz.f7 Rows.castNilSpec Rows.castNilRow = true := by kernel_rfl
end Go.Proofs.YtdigjklhfimnbaaGreat.castNil
