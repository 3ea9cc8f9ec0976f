/- Texts Tp5 of this proof, in one. No conditions but on lengths. -/
import Derived.Test.YtdigjklhfimnbaaGreatRows
import Derived.Test.YtdigjklhfimnbaaGreatU35
import Derived.ArgAppend
import Derived.Below
import Derived.BigQuiet
import Derived.Calls
import Derived.ChangeAlike
import Derived.ChangeArms
import Derived.ChangeMade
import Derived.ChangeOld
import Derived.Deep.Cut
import Derived.Deep.CutBlock
import Derived.Deep.QuietTactic
import Derived.Deep.RegionHeld
import Derived.Deep.RegionLaw
import Derived.Deep.RegionWith
import Derived.Deep.Slices
import Derived.Defers
import Derived.Ground.GgzProg
import Derived.Ground.Names2Prog
import Derived.Laws.AppendOwnNone
import Derived.Laws.BitsLemmas
import Derived.Laws.BytesArg
import Derived.Laws.LoneSync
import Derived.Laws.OwnMore
import Derived.Laws.Pointers
import Derived.Laws.StructEq
import Derived.Lib.Hide
import Derived.Lib.OwnBridge
import Derived.Lib.QuietBelow
import Derived.Lib.SlicesCompact
import Derived.LoopIn
import Derived.LoopTactic
import Derived.Maps.AppendAt
import Derived.Maps.Own
import Derived.Maps.OwnOps
import Derived.Maps.OwnSet
import Derived.Maps.RangeWalk
import Derived.Maps.Views
import Derived.OpenShut
import Derived.Orders
import Derived.Outline
import Derived.OwnWalkIn
import Derived.ProofKit
import Derived.RangeFuncBox
import Derived.RangeFuncCalls
import Derived.RangeFuncLeaves
import Derived.RangeFuncNested
import Derived.RegionCalls
import Derived.RegionTactic
import Derived.Shelf.RegionOpen
import Derived.Shelf.RegionOpenPlain
import Derived.Shelf.SlIterI.Nil
import Derived.Shelf.Slices.CompactI
import Derived.Shelf.Slices.In.SortNone
import Derived.Shelf.Sort.Plain
import Derived.ShutString
import Derived.Sort.Grow
import Derived.StillTail
import Derived.TacticsInMore
import Derived.WalkKit
import Derived.WalkLawsBesides
import Derived.WalkSpells
import Derived.WideShapes
namespace Go.Proofs.YtdigjklhfimnbaaGreat
set_option maxRecDepth 100000
set_option linter.unusedVariables false
open Go.RowKit

open Go.Maps
def LkOk (w : World) (F : Nat → Prop) (b bm : Nat) (t : Tk) (v : Value) : Prop :=
  (findH t.H t.nx = none ∧ v = .slice none 0 0) ∨ ∃ x g c, findH t.H t.nx = some x ∧ v = .slice (some ⟨g, 0, none⟩) x.2.length c ∧ Os w v x.2 ∧ F g ∧ g ≠ b ∧ g ≠ bm
theorem LkOk.below {w w' : World} {F : Nat → Prop} {b bm : Nat} {t : Tk} {v : Value} (h : LkOk w F b bm t v) (hb : Below w.heap.size w w') : LkOk w' F b bm t v :=
  h.imp (fun h => h) (fun ⟨x, g, c, h1, h2, h3, h4⟩ => ⟨x, g, c, h1, h2, h3.below hb, h4⟩)
section
variable {w : World} {F : Nat → Prop} {b bm : Nat} {t : Tk}
end
end Go.Proofs.YtdigjklhfimnbaaGreat
