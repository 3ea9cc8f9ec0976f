/- Texts Aq8, Sd4 of this proof, in one. No conditions but on lengths. -/
import Derived.Test.YtdigjklhfimnbaaGreatRows
import Derived.Test.YtdigjklhfimnbaaGreatU17
import Derived.Test.YtdigjklhfimnbaaGreatU20
import Derived.ArgAppend
import Derived.Below
import Derived.BigQuiet
import Derived.Calls
import Derived.ChangeArms
import Derived.ChangeMade
import Derived.ChangeOld
import Derived.Deep.Cut
import Derived.Deep.QuietTactic
import Derived.Deep.RegionLaw
import Derived.Deep.RegionWith
import Derived.Deep.Slices
import Derived.Laws.AppendOwnNone
import Derived.Laws.BitsLemmas
import Derived.Laws.BytesArg
import Derived.Laws.LoneSync
import Derived.Laws.OwnMore
import Derived.Laws.StructEq
import Derived.Lib.Hide
import Derived.Lib.QuietBelow
import Derived.LoopIn
import Derived.LoopTactic
import Derived.Maps.AppendAt
import Derived.OpenShut
import Derived.Orders
import Derived.Outline
import Derived.OwnWalkIn
import Derived.ProofKit
import Derived.RangeFuncBox
import Derived.RangeFuncCalls
import Derived.RangeFuncLeaves
import Derived.RangeFuncNested
import Derived.Shelf.RegionOpen
import Derived.ShutString
import Derived.StillTail
import Derived.TacticsInMore
import Derived.WalkKit
import Derived.WalkSpells
import Derived.WideShapes
namespace Go.Proofs.YtdigjklhfimnbaaGreat
set_option maxRecDepth 100000
open Go.RowKit

theorem has_fix (i p x m n : Int) (w : World) :
    Calls Tryz.prog 168 #[.agg #[.int .i64 i, .int .i64 p, .int .i64 x, .int .i64 m], .int .i64 n] w fun e w' => e = .returned (.bool (decide (AkOne (i, p, x, m)) && hasN x m n)) ∧ Below w.heap.size w w' :=
  akhas_fix i p x m n _ decide_eq_true_iff w
end Go.Proofs.YtdigjklhfimnbaaGreat
namespace Go.Proofs.YtdigjklhfimnbaaGreat
set_option maxRecDepth 100000
open Go.RowKit

/-- One batch is out, of number 0, sent c times. -/
def o1 (win tries : Int) (y : Ob) (c : Int) : Sd := ⟨win, tries, [], [((0, [y]), c)], 1⟩
def o0 (win tries : Int) : Sd := ⟨win, tries, [], [], 1⟩
theorem o1_send {win tries : Int} {y : Ob} (hw : 1 ≤ win) : sdT ⟨win, tries, [y], [], 0⟩ = [(0, [y])] ∧ sdS ⟨win, tries, [y], [], 0⟩ = o1 win tries y 1 := send_one hw ⟨Int.le_refl 0, by decide⟩
theorem o1_push {win tries : Int} {y : Ob} (hy : y.Ok) : pushR (sd0 win tries) y = (0, ⟨win, tries, [y], [], 0⟩) := by
  unfold pushR
  rw [if_pos hy]
  rfl
def y5 : Ob := ⟨1, 5, false, 0, 0, 0, 0, 0, 0, 0, 0, 0⟩
end Go.Proofs.YtdigjklhfimnbaaGreat
