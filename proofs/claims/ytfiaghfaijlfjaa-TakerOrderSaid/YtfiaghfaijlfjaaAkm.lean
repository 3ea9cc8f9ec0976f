/- Mathematics of masks: which bits what came has; what an ack has. No conditions beyond those of the theorems. -/
import Derived.Test.YtfiaghfaijlfjaaAko
namespace Go.Proofs.Ytfiaghfaijlfjaa
set_option maxRecDepth 100000

theorem pow2_split {j k : Nat} (h : j < k) : ∃ t : Int, pow2 k = pow2 j * (2 * t) := by
  induction k with
  | zero => omega
  | succ k ih =>
    rcases Nat.lt_or_ge j k with h' | h'
    · obtain ⟨t, ht⟩ := ih h'
      exact ⟨2 * t, by simp only [pow2]; rw [ht]; rw [← Int.mul_assoc 2, Int.mul_comm 2 (pow2 j), Int.mul_assoc]⟩
    · obtain rfl : j = k := by omega
      exact ⟨1, by simp only [pow2]; omega⟩
theorem bit_add {m p t : Int} (hp : 1 ≤ p) : (m + p * (2 * t)) / p % 2 = m / p % 2 := by
  rw [Int.add_mul_ediv_left _ _ (by omega)]
  omega
/-- The bits of a mask. -/
theorem mk_bit (x : Int) (cs : List Int) : ∀ (K j : Nat), j < K → (mk x cs K / pow2 j % 2 = 1 ↔ hit x cs j = true)
  | 0, j, h => by omega
  | K + 1, j, h => by
    have hp := pow2_pos j
    have hb := mk_bd x cs K
    rcases Nat.lt_or_ge j K with h' | h'
    · rw [← mk_bit x cs K j h', mk]
      obtain ⟨t, ht⟩ := pow2_split h'
      split
      · rw [ht, bit_add hp]
      · rw [Int.add_zero]
    · obtain rfl : j = K := by omega
      rw [mk]
      split
      · rename_i hh
        have e : (mk x cs j + pow2 j) / pow2 j = 1 := by
          have h1 := Int.add_mul_ediv_left (mk x cs j) 1 (show pow2 j ≠ 0 by omega)
          rw [Int.mul_one, Int.ediv_eq_zero_of_lt hb.1 hb.2] at h1
          omega
        rw [e]
        simp [hh]
      · rename_i hh
        rw [Int.add_zero, Int.ediv_eq_zero_of_lt hb.1 hb.2]
        simp [hh]
theorem hit_iff {x : Int} {cs : List Int} {k : Nat} : hit x cs k = true ↔ ∃ c, c ∈ cs ∧ far x c = (k : Int) + 1 := by
  unfold hit
  rw [List.any_eq_true]
  constructor
  · rintro ⟨c, h1, h2⟩
    exact ⟨c, h1, by simpa using h2⟩
  · rintro ⟨c, h1, h2⟩
    exact ⟨c, h1, by simpa using h2⟩
/-- What an ack of what came has. -/
theorem has_iff {x n : Int} {cs : List Int} : hasN x (mk x cs 16) n = true ↔ (1 ≤ far n x ∧ far n x ≤ 32768) ∨ ((1 ≤ far x n ∧ far x n ≤ 16) ∧ ∃ c, c ∈ cs ∧ far x c = far x n) := by
  unfold hasN hasE
  simp only [Bool.or_eq_true, Bool.and_eq_true, decide_eq_true_eq]
  constructor
  · rintro (h | ⟨⟨h1, h2⟩, h3⟩)
    · exact .inl h
    · refine .inr ⟨⟨h1, h2⟩, ?_⟩
      have h4 := (mk_bit x cs 16 (far x n - 1).toNat (by omega)).1 h3
      obtain ⟨c, hc, he⟩ := hit_iff.1 h4
      exact ⟨c, hc, by omega⟩
  · rintro (h | ⟨⟨h1, h2⟩, c, hc, he⟩)
    · exact .inl h
    · exact .inr ⟨⟨h1, h2⟩, (mk_bit x cs 16 (far x n - 1).toNat (by omega)).2 (hit_iff.2 ⟨c, hc, by omega⟩)⟩
theorem mk_16 (x : Int) (cs : List Int) : 0 ≤ mk x cs 16 ∧ mk x cs 16 ≤ 65535 := by
  have h := mk_bd x cs 16
  rw [pow2_16] at h
  omega
end Go.Proofs.Ytfiaghfaijlfjaa

