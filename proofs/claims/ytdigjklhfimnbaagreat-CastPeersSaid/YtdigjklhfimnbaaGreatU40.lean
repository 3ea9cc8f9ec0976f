/- Texts Gs of this proof, in one. No conditions but on lengths. -/
import Derived.Test.YtdigjklhfimnbaaGreatRows
import Derived.Test.YtdigjklhfimnbaaGreatU24
import Derived.ArgAppend
import Derived.Below
import Derived.BigQuiet
import Derived.BigRegion
import Derived.Calls
import Derived.ChangeArms
import Derived.ChangeKeysEq
import Derived.ChangeMade
import Derived.ChangeOld
import Derived.Deep.Cut
import Derived.Deep.QuietTactic
import Derived.Deep.RegionLaw
import Derived.Deep.RegionWith
import Derived.Deep.Slices
import Derived.Laws.AppendOwnNone
import Derived.Laws.BitsLemmas
import Derived.Laws.BytesArg
import Derived.Laws.LoneSync
import Derived.Laws.OwnMore
import Derived.Laws.StructEq
import Derived.Lib.ConvBytes
import Derived.Lib.Hide
import Derived.Lib.QuietBelow
import Derived.LoopIn
import Derived.LoopTactic
import Derived.Maps.AppendAt
import Derived.Maps.OwnSet
import Derived.OpenShut
import Derived.Orders
import Derived.Outline
import Derived.OwnWalkIn
import Derived.ProofKit
import Derived.RangeFuncBox
import Derived.RangeFuncCalls
import Derived.RangeFuncLeaves
import Derived.RangeFuncNested
import Derived.Shelf.RegionOpen
import Derived.ShutString
import Derived.StillTail
import Derived.TacticsInMore
import Derived.WalkKit
import Derived.WalkSpells
import Derived.WideShapes
namespace Go.Proofs.YtdigjklhfimnbaaGreat
set_option maxRecDepth 100000
set_option linter.unusedVariables false
open Go.RowKit
/-- A part has nothing of other kinds than its own. -/
def Pt.Alone (p : Pt) : Prop := (p.noBe ∨ p.k = 1) ∧ (p.noBt ∨ p.k = 2) ∧ (p.noAk ∨ p.k = 3) ∧ (p.noPk ∨ p.k = 4)
instance (p : Pt) : Decidable p.Alone := by unfold Pt.Alone; infer_instance
/-- Bytes of the call's own and an error are answered. -/
def RetS (w : World) (L : List Int) (K : Int) (e : Ending) (w' : World) : Prop := (∃ v, e = .returned (.tuple #[v, .int .i64 K]) ∧ w'.ownsRow w.heap.size 5 1 v L.length (L.map (Value.int .u8))) ∧ Below w.heap.size w w'
theorem RetS.below {w w' W : World} {L : List Int} {K : Int} {e : Ending} (h : RetS w L K e w') (hb : Below W.heap.size W w) : RetS W L K e w' := by
  obtain ⟨⟨v, h1, h2⟩, h3⟩ := h
  exact ⟨⟨v, h1, own_mono h2 hb.size⟩, hb.trans (h3.mono hb.size)⟩
end Go.Proofs.YtdigjklhfimnbaaGreat
