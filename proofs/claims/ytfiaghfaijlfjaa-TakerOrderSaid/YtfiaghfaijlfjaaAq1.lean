/- The program's small functions: what is two bytes long, which acks are right, which bit tells of a number, which number is ahead. No conditions. -/
import Derived.Test.YtfiaghfaijlfjaaAkx
namespace Go.Proofs.Ytfiaghfaijlfjaa
set_option maxRecDepth 100000
open Go.RowKit

def shB (n : Int) : Bool := decide (0 ≤ n) && decide (n ≤ 65535)
theorem akshort_any (n : Int) (w : World) : Calls Try.prog 30 #[.int .i64 n] w fun e w' => e = .returned (.bool (shB n)) ∧ w = w' := by
  unfold shB
  by_cases h1 : 0 ≤ n
  · by_cases h2 : n ≤ 65535
    · go_enter Try.func30, Try.ntmps30
      go_wp2
      go_ret
      exact ⟨by simp [h1, h2], rfl⟩
    · have d2 : decide (n ≤ 65535) = false := decide_eq_false h2
      go_enter Try.func30, Try.ntmps30
      go_wp2
      go_ret
      exact ⟨by simp, rfl⟩
  · have d1 : decide (0 ≤ n) = false := decide_eq_false h1
    go_enter Try.func30, Try.ntmps30
    go_wp2
    go_ret
    exact ⟨by simp, rfl⟩
theorem shB_iff (n : Int) : shB n = true ↔ 0 ≤ n ∧ n ≤ 65535 := by simp [shB]
/-- The bit that tells of a number that is so far behind. -/
def bitF (k : Int) : Int := if 1 ≤ k ∧ k ≤ 16 then pow2 (k - 1).toNat else 0
theorem akbit_any (x n : Int) (w : World) : Calls Try.prog 31 #[.int .i64 x, .int .i64 n] w fun e w' => e = .returned (.int .i64 (bitF (far x n))) ∧ Below w.heap.size w w' := by
  have CF := Lib.hid (far_any x n w)
  generalize far x n = k at *
  by_cases h1 : 1 ≤ k
  · have d1 : decide (k < 1) = false := decide_eq_false (by omega)
    by_cases h2 : k ≤ 16
    · have d2 : decide (k > 16) = false := decide_eq_false (by omega)
      have hkw : IntKind.i64.wrap (k - 1) = k - 1 := by rw [IntKind.wrap_i64]; omega
      have hk0 : 0 ≤ k - 1 := by omega
      go_enter Try.func31, Try.ntmps31
      go_wp2_with fail
      refine CF.out.mono ?_
      rintro e w2 ⟨rfl, hb⟩
      have HB := Lib.hid hb
      clear hb
      go_wp2_with fail
      go_ret
      refine ⟨?_, HB.out⟩
      unfold bitF
      rw [if_pos ⟨h1, h2⟩]
      obtain ⟨j, hj⟩ : ∃ j : Nat, k - 1 = j := ⟨(k - 1).toNat, by omega⟩
      rw [hj]
      refine congrArg (fun z => Ending.returned (Value.int .i64 z)) ?_
      have hk : k.toNat - 1 = j := by omega
      have hp := pow2_small (n := j) (by omega)
      have hp0 := pow2_pos j
      rw [hk, Int.toNat_natCast, ← pow2_eq']
      unfold wrap64
      omega
    · have d2 : decide (k > 16) = true := decide_eq_true (by omega)
      go_enter Try.func31, Try.ntmps31
      go_wp2_with fail
      refine CF.out.mono ?_
      rintro e w2 ⟨rfl, hb⟩
      have HB := Lib.hid hb
      clear hb
      go_wp2_with fail
      go_ret
      exact ⟨by unfold bitF; rw [if_neg (by omega)]; rfl, HB.out⟩
  · have d1 : decide (k < 1) = true := decide_eq_true (by omega)
    go_enter Try.func31, Try.ntmps31
    go_wp2_with fail
    refine CF.out.mono ?_
    rintro e w2 ⟨rfl, hb⟩
    have HB := Lib.hid hb
    clear hb
    go_wp2_with fail
    go_ret
    exact ⟨by unfold bitF; rw [if_neg (by omega)]; rfl, HB.out⟩
end Go.Proofs.Ytfiaghfaijlfjaa

