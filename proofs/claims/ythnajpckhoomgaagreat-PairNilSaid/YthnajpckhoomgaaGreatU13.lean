/- Texts Opd of this proof, in one. No conditions but on lengths. -/
import Derived.Test.YthnajpckhoomgaaGreatRows
import Derived.Test.YthnajpckhoomgaaGreatU06
import Derived.Below
import Derived.BigQuiet
import Derived.Calls
import Derived.ChangeArms
import Derived.ChangeOld
import Derived.Deep.QuietTactic
import Derived.Deep.RegionWith
import Derived.Laws.AppendOwnNone
import Derived.Laws.BytesArg
import Derived.Laws.StructEq
import Derived.Lib.Hide
import Derived.Lib.QuietBelow
import Derived.LoopTactic
import Derived.OpenShut
import Derived.Orders
import Derived.Outline
import Derived.ProofKit
import Derived.ShutString
import Derived.WalkKit
import Derived.WalkSpells
import Derived.WideShapes
namespace Go.Proofs.YthnajpckhoomgaaGreat
set_option maxRecDepth 100000
open Go.RowKit Go.Sort

/-- An object lies there, and may be written. -/
def Own12 (w : World) (b : Nat) (k x : Int) (n : Bool) (t o r d i p q s m : Int) : Prop := Cells12 w b k x n t o r d i p q s m ∧ ∀ j, w.frozen? ⟨b, j, none⟩ = false
theorem Own12.below {w w' : World} {b : Nat} {k x : Int} {n : Bool} {t o r d i p q s m : Int} (h : Own12 w b k x n t o r d i p q s m) (hb : Below w.heap.size w w') : Own12 w' b k x n t o r d i p q s m :=
  ⟨h.1.below hb, fun j => (hb.frozen (p := ⟨b, j, none⟩) (show b < w.heap.size from World.block_lt_of_cell? w _ h.1.1)).trans (h.2 j)⟩
theorem Own12.lt {w : World} {b : Nat} {k x : Int} {n : Bool} {t o r d i p q s m : Int} (h : Own12 w b k x n t o r d i p q s m) : b < w.heap.size := World.block_lt_of_cell? w _ h.1.1
theorem Cells4.lt {w : World} {b : Nat} {a0 a1 a2 a3 : Bool} (h : Cells4 w b a0 a1 a2 a3) : b < w.heap.size := World.block_lt_of_cell? w _ h.1
end Go.Proofs.YthnajpckhoomgaaGreat
