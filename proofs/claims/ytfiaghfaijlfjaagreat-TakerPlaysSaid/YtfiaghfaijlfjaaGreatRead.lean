/- The contracts of what only reads: the reference's sum, the powers, reading a number. No conditions. -/
import Derived.WalkKit
import Derived.ProofKit
import Derived.OpenShut
import Derived.ShutString
import Derived.ChangeOld
import Derived.Below
import Derived.Test.YtfiaghfaijlfjaaGreatBase
namespace Go.Proofs.YtfiaghfaijlfjaaGreat
set_option maxRecDepth 100000
open Go.RowKit

/-- 256 to the n. -/
def pow256 : Nat → Int
  | 0 => 1
  | n + 1 => 256 * pow256 n
theorem pow256_pos (n : Nat) : 1 ≤ pow256 n := by
  induction n with
  | zero => decide
  | succ n ih => simp only [pow256]; omega
theorem pow256_le {n m : Nat} (h : n ≤ m) : pow256 n ≤ pow256 m := by
  induction m with
  | zero => obtain rfl : n = 0 := by omega
            exact Int.le_refl _
  | succ m ih =>
    rcases Nat.lt_or_ge m n with h' | h'
    · obtain rfl : n = m + 1 := by omega
      exact Int.le_refl _
    · have := ih h'; have := pow256_pos m; simp only [pow256]; omega
theorem pow256_seven : pow256 7 = 72057594037927936 := by decide
theorem pow256_small {n : Nat} (h : n ≤ 7) : pow256 n ≤ 72057594037927936 := by
  have := pow256_le h; rw [pow256_seven] at this; exact this
/-- Bytes as a number, the highest first. -/
def be (xs : List Int) : Int := xs.foldl (fun a x => 256 * a + x) 0
end Go.Proofs.YtfiaghfaijlfjaaGreat

