/- Texts Aq1 of this proof, in one. No conditions but on lengths. -/
import Derived.Test.YthnajpckhoomgaaGreatRows
import Derived.Test.YthnajpckhoomgaaGreatU20
import Derived.ArgAppend
import Derived.Below
import Derived.BigQuiet
import Derived.Calls
import Derived.ChangeArms
import Derived.ChangeOld
import Derived.Deep.QuietTactic
import Derived.Deep.RegionLaw
import Derived.Deep.Slices
import Derived.Laws.AppendOwnNone
import Derived.Laws.BitsLemmas
import Derived.Laws.BytesArg
import Derived.Laws.OwnMore
import Derived.Laws.StructEq
import Derived.Lib.Hide
import Derived.Lib.QuietBelow
import Derived.LoopTactic
import Derived.Maps.AppendAt
import Derived.OpenShut
import Derived.Orders
import Derived.Outline
import Derived.ProofKit
import Derived.ShutString
import Derived.StillTail
import Derived.WalkKit
import Derived.WalkSpells
import Derived.WideShapes
namespace Go.Proofs.YthnajpckhoomgaaGreat
set_option maxRecDepth 100000
open Go.RowKit

def shB (n : Int) : Bool := decide (0 ≤ n) && decide (n ≤ 65535)
theorem akshort_any (n : Int) (w : World) : Calls Tryz.prog 184 #[.int .i64 n] w fun e w' => e = .returned (.bool (shB n)) ∧ w = w' := by
  unfold shB
  by_cases h1 : 0 ≤ n
  · by_cases h2 : n ≤ 65535
    · go_enter Tryz.func184, Tryz.ntmps184
      go_wp2
      go_ret
      exact ⟨by simp [h1, h2], rfl⟩
    · have d2 : decide (n ≤ 65535) = false := decide_eq_false h2
      go_enter Tryz.func184, Tryz.ntmps184
      go_wp2
      go_ret
      exact ⟨by simp, rfl⟩
  · have d1 : decide (0 ≤ n) = false := decide_eq_false h1
    go_enter Tryz.func184, Tryz.ntmps184
    go_wp2
    go_ret
    exact ⟨by simp, rfl⟩
theorem shB_iff (n : Int) : shB n = true ↔ 0 ≤ n ∧ n ≤ 65535 := by simp [shB]
set_option maxHeartbeats 8000000 in
theorem akone_fix (i p n m : Int) (Q : Bool) (hQ : Q = true ↔ AkOne (i, p, n, m)) (w : World) :
    Calls Tryz.prog 157 #[.agg #[.int .i64 i, .int .i64 p, .int .i64 n, .int .i64 m]] w fun e w' => e = .returned (.bool Q) ∧ Below w.heap.size w w' := by
  unfold AkOne EpOk at hQ
  simp only at hQ
  rw [← shB_iff n, ← shB_iff m] at hQ
  have CN := Lib.hid (akshort_any n)
  have CM := Lib.hid (akshort_any m)
  have HB : Hid (Below w.heap.size w (w.alloc (.cells #[.int .i64 i, .int .i64 p, .int .i64 n, .int .i64 m] 112))) := (Below.refl _ w).alloc (Nat.le_refl _) _
  generalize shB n = qn at *
  generalize shB m = qm at *
  by_cases h0 : 0 ≤ i
  · skip
    by_cases h1 : i < 64
    · skip
      by_cases h2 : 0 ≤ p
      · skip
        by_cases h3 : p ≤ 4294967295
        · skip
          cases qn with
          | false =>
            have HQ : Hid (Q = false) := by
              cases Q with
              | false => rfl
              | true => have h9 := hQ.1 rfl; first | (exact absurd h9.2.2.1 (by decide)) | omega
            clear hQ
            go_enter Tryz.func157, Tryz.ntmps157
            go_wp2_with fail
            refine (CN.out _).mono ?_
            rintro e w' ⟨rfl, hw⟩
            subst hw
            go_wp2_with fail
            go_ret
            exact ⟨by rw [HQ.out]; rfl, HB.out⟩
          | true =>
            have HQ : Hid (Q = qm) := by
              show Q = qm
              rw [Bool.eq_iff_iff, hQ]
              exact ⟨fun h => h.2.2.2, fun h => ⟨⟨h0, h1⟩, ⟨h2, h3⟩, rfl, h⟩⟩
            clear hQ
            go_enter Tryz.func157, Tryz.ntmps157
            go_wp2_with fail
            refine (CN.out _).mono ?_
            rintro e w' ⟨rfl, hw⟩
            subst hw
            go_wp2_with fail
            refine (CM.out _).mono ?_
            rintro e w' ⟨rfl, hw⟩
            subst hw
            go_wp2_with fail
            go_ret
            exact ⟨by rw [HQ.out]; rfl, HB.out⟩
        · skip
          have d : decide (p ≤ 4294967295) = false := decide_eq_false h3
          have HQ : Hid (Q = false) := by
            cases Q with
            | false => rfl
            | true => have h9 := hQ.1 rfl; first | (exact absurd h9.1 (by decide)) | omega
          clear hQ
          go_enter Tryz.func157, Tryz.ntmps157
          go_wp2_with fail
          go_ret
          exact ⟨by rw [HQ.out]; rfl, HB.out⟩
      · skip
        have d : decide (0 ≤ p) = false := decide_eq_false h2
        have HQ : Hid (Q = false) := by
          cases Q with
          | false => rfl
          | true => have h9 := hQ.1 rfl; first | (exact absurd h9.1 (by decide)) | omega
        clear hQ
        go_enter Tryz.func157, Tryz.ntmps157
        go_wp2_with fail
        go_ret
        exact ⟨by rw [HQ.out]; rfl, HB.out⟩
    · skip
      have d : decide (i < 64) = false := decide_eq_false h1
      have HQ : Hid (Q = false) := by
        cases Q with
        | false => rfl
        | true => have h9 := hQ.1 rfl; first | (exact absurd h9.1 (by decide)) | omega
      clear hQ
      go_enter Tryz.func157, Tryz.ntmps157
      go_wp2_with fail
      go_ret
      exact ⟨by rw [HQ.out]; rfl, HB.out⟩
  · skip
    have d : decide (0 ≤ i) = false := decide_eq_false h0
    have HQ : Hid (Q = false) := by
      cases Q with
      | false => rfl
      | true => have h9 := hQ.1 rfl; first | (exact absurd h9.1 (by decide)) | omega
    clear hQ
    go_enter Tryz.func157, Tryz.ntmps157
    go_wp2_with fail
    go_ret
    exact ⟨by rw [HQ.out]; rfl, HB.out⟩
/-- The bit that tells of a number that is so far behind. -/
def bitF (k : Int) : Int := if 1 ≤ k ∧ k ≤ 16 then pow2 (k - 1).toNat else 0
theorem akbit_any (x n : Int) (w : World) : Calls Tryz.prog 156 #[.int .i64 x, .int .i64 n] w fun e w' => e = .returned (.int .i64 (bitF (far x n))) ∧ Below w.heap.size w w' := by
  have CF := Lib.hid (far_any x n w)
  generalize far x n = k at *
  by_cases h1 : 1 ≤ k
  · have d1 : decide (k < 1) = false := decide_eq_false (by omega)
    by_cases h2 : k ≤ 16
    · have d2 : decide (k > 16) = false := decide_eq_false (by omega)
      have hkw : IntKind.i64.wrap (k - 1) = k - 1 := by rw [IntKind.wrap_i64]; omega
      have hk0 : 0 ≤ k - 1 := by omega
      go_enter Tryz.func156, Tryz.ntmps156
      go_wp2_with fail
      refine CF.out.mono ?_
      rintro e w2 ⟨rfl, hb⟩
      have HB := Lib.hid hb
      clear hb
      go_wp2_with fail
      go_ret
      refine ⟨?_, HB.out⟩
      unfold bitF
      rw [if_pos ⟨h1, h2⟩]
      obtain ⟨j, hj⟩ : ∃ j : Nat, k - 1 = j := ⟨(k - 1).toNat, by omega⟩
      rw [hj]
      refine congrArg (fun z => Ending.returned (Value.int .i64 z)) ?_
      have hk : k.toNat - 1 = j := by omega
      have hp := pow2_small (n := j) (by omega)
      have hp0 := pow2_pos j
      rw [hk, Int.toNat_natCast, ← pow2_eq']
      unfold wrap64
      omega
    · have d2 : decide (k > 16) = true := decide_eq_true (by omega)
      go_enter Tryz.func156, Tryz.ntmps156
      go_wp2_with fail
      refine CF.out.mono ?_
      rintro e w2 ⟨rfl, hb⟩
      have HB := Lib.hid hb
      clear hb
      go_wp2_with fail
      go_ret
      exact ⟨by unfold bitF; rw [if_neg (by omega)]; rfl, HB.out⟩
  · have d1 : decide (k < 1) = true := decide_eq_true (by omega)
    go_enter Tryz.func156, Tryz.ntmps156
    go_wp2_with fail
    refine CF.out.mono ?_
    rintro e w2 ⟨rfl, hb⟩
    have HB := Lib.hid hb
    clear hb
    go_wp2_with fail
    go_ret
    exact ⟨by unfold bitF; rw [if_neg (by omega)]; rfl, HB.out⟩
def ahB (k : Int) : Bool := decide (1 ≤ k) && decide (k ≤ 32768)
theorem akahead_any (n x : Int) (w : World) : Calls Tryz.prog 158 #[.int .i64 n, .int .i64 x] w fun e w' => e = .returned (.bool (ahB (far n x))) ∧ Below w.heap.size w w' := by
  have CF := Lib.hid (far_any n x w)
  generalize far n x = k at *
  unfold ahB
  by_cases h1 : 1 ≤ k
  · by_cases h2 : k ≤ 32768
    · go_enter Tryz.func158, Tryz.ntmps158
      go_wp2_with fail
      refine CF.out.mono ?_
      rintro e w2 ⟨rfl, hb⟩
      have HB := Lib.hid hb
      clear hb
      go_wp2_with fail
      go_ret
      exact ⟨by simp [h1, h2], HB.out⟩
    · have d2 : decide (k ≤ 32768) = false := decide_eq_false h2
      go_enter Tryz.func158, Tryz.ntmps158
      go_wp2_with fail
      refine CF.out.mono ?_
      rintro e w2 ⟨rfl, hb⟩
      have HB := Lib.hid hb
      clear hb
      go_wp2_with fail
      go_ret
      exact ⟨by simp [d2], HB.out⟩
  · have d1 : decide (1 ≤ k) = false := decide_eq_false h1
    go_enter Tryz.func158, Tryz.ntmps158
    go_wp2_with fail
    refine CF.out.mono ?_
    rintro e w2 ⟨rfl, hb⟩
    have HB := Lib.hid hb
    clear hb
    go_wp2_with fail
    go_ret
    exact ⟨by simp [d1], HB.out⟩
end Go.Proofs.YthnajpckhoomgaaGreat
