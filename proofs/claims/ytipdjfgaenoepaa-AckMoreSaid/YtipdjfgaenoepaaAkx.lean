/- Bits by shifts, by '&', by '|': as quotients of powers of two. No conditions but bounds. -/
import Derived.Test.YtipdjfgaenoepaaAkm
import Derived.Laws.BitsLemmas
namespace Go.Proofs.Ytipdjfgaenoepaa
set_option maxRecDepth 100000
open Go.RowKit

theorem pow2_eq (n : Nat) : pow2 n = ((2 ^ n : Nat) : Int) := by
  induction n with
  | zero => rfl
  | succ n ih => rw [pow2, ih, Nat.pow_succ]; push_cast; omega
theorem pow2_eq' (n : Nat) : pow2 n = (2 : Int) ^ n := by rw [pow2_eq]; push_cast; rfl
theorem wr62 (n : Int) (h₀ : 0 ≤ n) (h₁ : n < 2 ^ 62) : IntKind.i64.wrap n = n := by rw [IntKind.wrap_i64]; omega
theorem and_one {x : Int} (h0 : 0 ≤ x) (h1 : x ≤ 65535) : bits .and .i64 x 1 = x % 2 := by
  have h := bits_mask .i64 62 (by decide) wr62 1 (by decide) x h0 (by omega)
  simpa using h
theorem and_pow (a j : Nat) : a &&& 2 ^ j = if a.testBit j then 2 ^ j else 0 := by
  apply Nat.eq_of_testBit_eq
  intro i
  rw [Nat.testBit_and, Nat.testBit_two_pow]
  by_cases h : j = i
  · subst h
    cases ha : a.testBit j <;> simp
  · split <;> simp [h]
theorem and_bit {m : Int} {j : Nat} (h0 : 0 ≤ m) (h1 : m ≤ 65535) (hj : j ≤ 16) : bits .and .i64 m (pow2 j) = if m / pow2 j % 2 = 1 then pow2 j else 0 := by
  obtain ⟨a, rfl⟩ := Int.eq_ofNat_of_zero_le h0
  have hp := pow2_small hj
  rw [pow2_eq] at hp ⊢
  have hb : 2 ^ j < 2 ^ 62 := by have : (2 : Nat) ^ 62 = 4611686018427387904 := by decide
                                 omega
  have ha : a < 2 ^ 62 := by have : (2 : Nat) ^ 62 = 4611686018427387904 := by decide
                             omega
  rw [(bits_nat .i64 62 (by decide) wr62 a (2 ^ j) ha hb).1, and_pow, Nat.testBit_eq_decide_div_mod_eq]
  by_cases h : a / 2 ^ j % 2 = 1
  · have h' : ((a : Int) / ((2 ^ j : Nat) : Int)) % 2 = 1 := by exact_mod_cast h
    rw [if_pos h']
    simp [h]
  · have h' : ¬ ((a : Int) / ((2 ^ j : Nat) : Int)) % 2 = 1 := fun e => h (by exact_mod_cast e)
    rw [if_neg h']
    simp [h]
theorem or_low {m : Nat} {j : Nat} (h : m < 2 ^ j) : m ||| 2 ^ j = m + 2 ^ j := by
  have := Nat.two_pow_add_eq_or_of_lt h 1
  rw [Nat.mul_one] at this
  rw [Nat.or_comm, ← this, Nat.add_comm]
#print axioms and_bit
end Go.Proofs.Ytipdjfgaenoepaa
