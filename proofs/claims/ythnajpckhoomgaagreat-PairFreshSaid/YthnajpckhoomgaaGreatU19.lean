/- Texts Akp of this proof, in one. No conditions but on lengths. -/
import Derived.Test.YthnajpckhoomgaaGreatRows
import Derived.Test.YthnajpckhoomgaaGreatU10
import Derived.ArgAppend
import Derived.Below
import Derived.BigQuiet
import Derived.Calls
import Derived.ChangeArms
import Derived.ChangeOld
import Derived.Deep.QuietTactic
import Derived.Deep.RegionLaw
import Derived.Deep.Slices
import Derived.Laws.AppendOwnNone
import Derived.Laws.BytesArg
import Derived.Laws.OwnMore
import Derived.Laws.StructEq
import Derived.Lib.Hide
import Derived.Lib.QuietBelow
import Derived.LoopTactic
import Derived.Maps.AppendAt
import Derived.OpenShut
import Derived.Orders
import Derived.Outline
import Derived.ProofKit
import Derived.ShutString
import Derived.StillTail
import Derived.WalkKit
import Derived.WalkSpells
import Derived.WideShapes
namespace Go.Proofs.YthnajpckhoomgaaGreat
set_option maxRecDepth 100000
open Go.RowKit

/-- Two to some number. -/
def pow2 : Nat → Int
  | 0 => 1
  | n + 1 => 2 * pow2 n
theorem pow2_pos (n : Nat) : 1 ≤ pow2 n := by
  induction n with
  | zero => exact Int.le_refl _
  | succ n ih => simp only [pow2]; omega
theorem pow2_le {m n : Nat} (h : n ≤ m) : pow2 n ≤ pow2 m := by
  induction m with
  | zero => obtain rfl : n = 0 := by omega
            exact Int.le_refl _
  | succ m ih =>
    rcases Nat.lt_or_ge m n with h' | h'
    · obtain rfl : n = m + 1 := by omega
      exact Int.le_refl _
    · have := ih h'; have := pow2_pos m; simp only [pow2]; omega
theorem pow2_16 : pow2 16 = 65536 := by decide
theorem pow2_small {n : Nat} (h : n ≤ 16) : pow2 n ≤ 65536 := by
  have := pow2_le h; rw [pow2_16] at this; exact this
/-- Whether an ack of this next, this mask has n. -/
def hasE (A K m : Int) : Bool := (decide (1 ≤ A) && decide (A ≤ 32768)) || (decide (1 ≤ K) && decide (K ≤ 16) && decide (m / pow2 (K - 1).toNat % 2 = 1))
def hasN (x m n : Int) : Bool := hasE (far n x) (far x n) m
end Go.Proofs.YthnajpckhoomgaaGreat
