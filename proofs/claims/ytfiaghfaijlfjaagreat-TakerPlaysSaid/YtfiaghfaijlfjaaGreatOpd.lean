/- Objects in memory while they are parsed; what the reader answers at its end, of an object; a height that is read next. No conditions. -/
import Derived.Test.YtfiaghfaijlfjaaGreatPsd
import Derived.Test.YtfiaghfaijlfjaaGreatObb
import Derived.Deep.RegionWith
namespace Go.Proofs.YtfiaghfaijlfjaaGreat
set_option maxRecDepth 100000
open Go.RowKit Go.Sort

/-- An object lies there, and may be written. -/
def Own12 (w : World) (b : Nat) (k x : Int) (n : Bool) (t o r d i p q s m : Int) : Prop := Cells12 w b k x n t o r d i p q s m ∧ ∀ j, w.frozen? ⟨b, j, none⟩ = false
theorem Own12.below {w w' : World} {b : Nat} {k x : Int} {n : Bool} {t o r d i p q s m : Int} (h : Own12 w b k x n t o r d i p q s m) (hb : Below w.heap.size w w') : Own12 w' b k x n t o r d i p q s m :=
  ⟨h.1.below hb, fun j => (hb.frozen (p := ⟨b, j, none⟩) (show b < w.heap.size from World.block_lt_of_cell? w _ h.1.1)).trans (h.2 j)⟩
theorem Own12.lt {w : World} {b : Nat} {k x : Int} {n : Bool} {t o r d i p q s m : Int} (h : Own12 w b k x n t o r d i p q s m) : b < w.heap.size := World.block_lt_of_cell? w _ h.1.1
theorem Cells4.lt {w : World} {b : Nat} {a0 a1 a2 a3 : Bool} (h : Cells4 w b a0 a1 a2 a3) : b < w.heap.size := World.block_lt_of_cell? w _ h.1
end Go.Proofs.YtfiaghfaijlfjaaGreat

