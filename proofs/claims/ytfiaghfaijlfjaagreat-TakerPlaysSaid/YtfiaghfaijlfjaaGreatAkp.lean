/- What an ack has: the reference's power and Has. No conditions but those stated. -/
import Derived.Test.YtfiaghfaijlfjaaGreatAkt
import Derived.Test.YtfiaghfaijlfjaaGreatZfa
import Derived.Test.YtfiaghfaijlfjaaGreatTyp2
namespace Go.Proofs.YtfiaghfaijlfjaaGreat
set_option maxRecDepth 100000
open Go.RowKit

/-- Two to some number. -/
def pow2 : Nat → Int
  | 0 => 1
  | n + 1 => 2 * pow2 n
theorem pow2_pos (n : Nat) : 1 ≤ pow2 n := by
  induction n with
  | zero => exact Int.le_refl _
  | succ n ih => simp only [pow2]; omega
theorem pow2_le {m n : Nat} (h : n ≤ m) : pow2 n ≤ pow2 m := by
  induction m with
  | zero => obtain rfl : n = 0 := by omega
            exact Int.le_refl _
  | succ m ih =>
    rcases Nat.lt_or_ge m n with h' | h'
    · obtain rfl : n = m + 1 := by omega
      exact Int.le_refl _
    · have := ih h'; have := pow2_pos m; simp only [pow2]; omega
theorem pow2_16 : pow2 16 = 65536 := by decide
theorem pow2_small {n : Nat} (h : n ≤ 16) : pow2 n ≤ 65536 := by
  have := pow2_le h; rw [pow2_16] at this; exact this
set_option maxHeartbeats 400000 in
theorem rpow2_any (n : Nat) (w : World) (hn : n ≤ 16) :
    Calls Tryz.prog 57 #[.int .i64 n] w fun e w' => e = .returned (.int .i64 (pow2 n)) ∧ w = w' := by
  go_enter Tryz.func57, Tryz.ntmps57
  go_wp2
  go_loop [3, 4] (fun p i => ∃ k : Nat, k ≤ n ∧ i = .int .i64 k ∧ p = .int .i64 (pow2 k)) (fun _ i => n - (intOf i).toNat)
  case atStart => exact ⟨0, Nat.zero_le _, rfl, rfl⟩
  case round =>
    obtain ⟨k, hk, rfl, rfl⟩ := hrel
    have h1 := pow2_pos k
    by_cases hlt : k < n
    · have h2 := pow2_small (n := k + 1) (by omega)
      simp only [pow2] at h2
      go_wp2
      go_round
      case rel => exact ⟨k + 1, by omega, by go_num, rfl⟩
      case measure => simp [intOf]; omega
    · obtain rfl : k = n := by omega
      go_wp2
      go_ret
      exact ⟨rfl, rfl⟩
/-- Whether an ack of this next, this mask has n. -/
def hasE (A K m : Int) : Bool := (decide (1 ≤ A) && decide (A ≤ 32768)) || (decide (1 ≤ K) && decide (K ≤ 16) && decide (m / pow2 (K - 1).toNat % 2 = 1))
def hasN (x m n : Int) : Bool := hasE (far n x) (far x n) m
end Go.Proofs.YtfiaghfaijlfjaaGreat

