/- Bits by shifts, by '&', by '|': as quotients of powers of two. No conditions but bounds. -/
import Derived.Test.YtfiaghfaijlfjaaAkm
import Derived.Laws.BitsLemmas
namespace Go.Proofs.Ytfiaghfaijlfjaa
set_option maxRecDepth 100000
open Go.RowKit

theorem pow2_eq (n : Nat) : pow2 n = ((2 ^ n : Nat) : Int) := by
  induction n with
  | zero => rfl
  | succ n ih => rw [pow2, ih, Nat.pow_succ]; push_cast; omega
theorem pow2_eq' (n : Nat) : pow2 n = (2 : Int) ^ n := by rw [pow2_eq]; push_cast; rfl
theorem wr62 (n : Int) (h₀ : 0 ≤ n) (h₁ : n < 2 ^ 62) : IntKind.i64.wrap n = n := by rw [IntKind.wrap_i64]; omega
end Go.Proofs.Ytfiaghfaijlfjaa

