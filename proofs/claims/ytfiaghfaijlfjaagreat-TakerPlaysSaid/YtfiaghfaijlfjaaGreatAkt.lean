/- Acks: in memory, as arguments; which one is right; '==' of them. No conditions. -/
import Derived.Test.YtfiaghfaijlfjaaGreatGrw
import Derived.Test.YtfiaghfaijlfjaaGreatRint
import Derived.Test.YtfiaghfaijlfjaaGreatFrm
import Derived.Laws.StructEq
namespace Go.Proofs.YtfiaghfaijlfjaaGreat
set_option maxRecDepth 100000
open Go.RowKit Go.WideShapes Go.ChangeShapes

def EpOk (n : Int) : Prop := 0 ≤ n ∧ n ≤ 4294967295
instance (n : Int) : Decidable (EpOk n) := by unfold EpOk; infer_instance
def AkOne (y : Int × Int × Int × Int) : Prop := (0 ≤ y.1 ∧ y.1 < 64) ∧ EpOk y.2.1 ∧ (0 ≤ y.2.2.1 ∧ y.2.2.1 ≤ 65535) ∧ (0 ≤ y.2.2.2 ∧ y.2.2.2 ≤ 65535)
instance (y : Int × Int × Int × Int) : Decidable (AkOne y) := by unfold AkOne; infer_instance
end Go.Proofs.YtfiaghfaijlfjaaGreat

