/- Texts Ort of this proof, in one. No conditions but on lengths. -/
import Derived.Test.YtdigjklhfimnbaaGreatRows
import Derived.Test.YtdigjklhfimnbaaGreatU08
import Derived.Below
import Derived.BigQuiet
import Derived.Calls
import Derived.ChangeOld
import Derived.Deep.QuietTactic
import Derived.Laws.AppendOwnNone
import Derived.Laws.BytesArg
import Derived.Laws.StructEq
import Derived.Lib.Hide
import Derived.Lib.QuietBelow
import Derived.LoopTactic
import Derived.OpenShut
import Derived.Orders
import Derived.Outline
import Derived.ProofKit
import Derived.ShutString
import Derived.WalkKit
import Derived.WalkSpells
namespace Go.Proofs.YtdigjklhfimnbaaGreat
set_option maxRecDepth 100000
open Go.RowKit Go.Sort

theorem hg0 {n : Bool} {t o r d i : Int} : HgOk n t o r d i false ↔ eqH n t o r d i false 0 0 0 0 0 = true := by simp [HgOk, eqH_iff]
end Go.Proofs.YtdigjklhfimnbaaGreat
