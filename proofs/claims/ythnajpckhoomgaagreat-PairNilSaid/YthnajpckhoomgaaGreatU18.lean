/- Texts Bpr of this proof, in one. No conditions but on lengths. -/
import Derived.Test.YthnajpckhoomgaaGreatRows
import Derived.Test.YthnajpckhoomgaaGreatU15
import Derived.Test.YthnajpckhoomgaaGreatU16
import Derived.ArgAppend
import Derived.Below
import Derived.BigQuiet
import Derived.Calls
import Derived.ChangeArms
import Derived.ChangeOld
import Derived.Deep.QuietTactic
import Derived.Deep.RegionLaw
import Derived.Deep.RegionWith
import Derived.Deep.Slices
import Derived.Laws.AppendOwnNone
import Derived.Laws.BytesArg
import Derived.Laws.OwnMore
import Derived.Laws.StructEq
import Derived.Lib.Hide
import Derived.Lib.QuietBelow
import Derived.LoopTactic
import Derived.Maps.AppendAt
import Derived.OpenShut
import Derived.Orders
import Derived.Outline
import Derived.ProofKit
import Derived.ShutString
import Derived.StillTail
import Derived.WalkKit
import Derived.WalkSpells
import Derived.WideShapes
namespace Go.Proofs.YthnajpckhoomgaaGreat
set_option maxRecDepth 100000
open Go.RowKit Go.Sort

theorem Own2.low {w w' : World} {b S : Nat} {M : Int} {v : Value} (h : Own2 w b M v) (hb : b < S) (hB : Below S w w') : Own2 w' b M v :=
  ⟨⟨(hB.cell (p := ⟨b, 0, none⟩) hb).trans h.1.1, (hB.cell (p := ⟨b, 1, none⟩) hb).trans h.1.2⟩, fun j => (hB.frozen (p := ⟨b, j, none⟩) hb).trans (h.2 j)⟩
theorem Rd.low {w w' : World} {b S : Nat} {x y : Int} (h : Rd w b x y) (hb : b < S) (hB : Below S w w') : Rd w' b x y :=
  ⟨(hB.cell (p := ⟨b, 0, none⟩) hb).trans h.1, (hB.cell (p := ⟨b, 1, none⟩) hb).trans h.2.1, fun j => (hB.frozen (p := ⟨b, j, none⟩) hb).trans (h.2.2 j)⟩
theorem Own2.allocs {w : World} {b : Nat} {M : Int} {v : Value} (h : Own2 w b M v) : ∀ O, (w.alloc O).cell? ⟨b, 1, none⟩ = some v := fun O => (h.below ((Below.refl _ _).alloc (Nat.le_refl _) O)).1.2
end Go.Proofs.YthnajpckhoomgaaGreat
