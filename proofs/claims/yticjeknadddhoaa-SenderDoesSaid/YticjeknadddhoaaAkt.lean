/- Acks: in memory, as arguments; which one is right; '==' of them. No conditions. -/
import Derived.Test.YticjeknadddhoaaGrw
import Derived.Test.YticjeknadddhoaaRint
import Derived.Test.YticjeknadddhoaaFrm
import Derived.Laws.StructEq
namespace Go.Proofs.Yticjeknadddhoaa
set_option maxRecDepth 100000
open Go.RowKit Go.WideShapes Go.ChangeShapes

def EpOk (n : Int) : Prop := 0 ≤ n ∧ n ≤ 4294967295
instance (n : Int) : Decidable (EpOk n) := by unfold EpOk; infer_instance
theorem repoch_fix (n : Int) (q : Bool) (hq : q = true ↔ EpOk n) (w : World) : Calls Try.prog 65 #[.int .i64 n] w fun e w' => e = .returned (.bool q) ∧ w = w' := by
  unfold EpOk at hq
  by_cases h1 : 0 ≤ n
  · by_cases h2 : n ≤ 4294967295
    · obtain rfl : q = true := hq.2 ⟨h1, h2⟩
      clear hq
      go_enter Try.func65, Try.ntmps65
      go_wp2
      go_ret
      exact ⟨rfl, rfl⟩
    · obtain rfl : q = false := by cases q with
        | false => rfl
        | true => exact absurd (hq.1 rfl).2 h2
      clear hq
      go_enter Try.func65, Try.ntmps65
      go_wp2
      go_ret
      exact ⟨rfl, rfl⟩
  · obtain rfl : q = false := by cases q with
      | false => rfl
      | true => exact absurd (hq.1 rfl).1 h1
    clear hq
    go_enter Try.func65, Try.ntmps65
    go_wp2
    go_ret
    exact ⟨rfl, rfl⟩
def AkOne (y : Int × Int × Int × Int) : Prop := (0 ≤ y.1 ∧ y.1 < 64) ∧ EpOk y.2.1 ∧ (0 ≤ y.2.2.1 ∧ y.2.2.1 ≤ 65535) ∧ (0 ≤ y.2.2.2 ∧ y.2.2.2 ≤ 65535)
instance (y : Int × Int × Int × Int) : Decidable (AkOne y) := by unfold AkOne; infer_instance
set_option maxHeartbeats 8000000 in
theorem rone_fix (i p n m : Int) (Q : Bool) (hQ : Q = true ↔ AkOne (i, p, n, m)) (w : World) :
    Calls Try.prog 41 #[.agg #[.int .i64 i, .int .i64 p, .int .i64 n, .int .i64 m]] w fun e w' => e = .returned (.bool Q) ∧ Below w.heap.size w w' := by
  obtain ⟨q, hq⟩ : ∃ q : Bool, q = true ↔ EpOk p := ⟨decide (EpOk p), decide_eq_true_iff⟩
  unfold AkOne at hQ
  simp only at hQ
  rw [← hq] at hQ
  have HB : Hid (Below w.heap.size w (w.alloc (.cells #[.int .i64 i, .int .i64 p, .int .i64 n, .int .i64 m] 42))) := (Below.refl _ w).alloc (Nat.le_refl _) _
  by_cases h0 : 0 ≤ i
  · by_cases h1 : i < 64
    · cases q with
      | false =>
        obtain rfl : Q = false := by
          cases Q with
          | false => rfl
          | true => have := hQ.1 rfl; first | (exact absurd this.2.1 (by decide)) | omega
        clear hQ
        have HQ := Lib.hid hq
        clear hq
        go_enter Try.func41, Try.ntmps41
        go_wp2_with (go_at_call 65; refine (repoch_fix p false HQ.out _).mono ?_; rintro e w' ⟨rfl, rfl⟩)
        go_ret
        exact ⟨rfl, HB.out⟩
      | true =>
        by_cases h3 : 0 ≤ n
        · by_cases h4 : n ≤ 65535
          · by_cases h5 : 0 ≤ m
            · by_cases h6 : m ≤ 65535
              · obtain rfl : Q = true := hQ.2 ⟨⟨h0, h1⟩, rfl, ⟨h3, h4⟩, h5, h6⟩
                clear hQ
                have HQ := Lib.hid hq
                clear hq
                go_enter Try.func41, Try.ntmps41
                go_wp2_with (go_at_call 65; refine (repoch_fix p true HQ.out _).mono ?_; rintro e w' ⟨rfl, rfl⟩)
                go_ret
                exact ⟨rfl, HB.out⟩
              · obtain rfl : Q = false := by
                  cases Q with
                  | false => rfl
                  | true => have := hQ.1 rfl; first | (exact absurd this.2.1 (by decide)) | omega
                have d6 : decide (m ≤ 65535) = false := decide_eq_false h6
                clear hQ
                have HQ := Lib.hid hq
                clear hq
                go_enter Try.func41, Try.ntmps41
                go_wp2_with (go_at_call 65; refine (repoch_fix p true HQ.out _).mono ?_; rintro e w' ⟨rfl, rfl⟩)
                go_ret
                exact ⟨rfl, HB.out⟩
            · obtain rfl : Q = false := by
                cases Q with
                | false => rfl
                | true => have := hQ.1 rfl; first | (exact absurd this.2.1 (by decide)) | omega
              clear hQ
              have HQ := Lib.hid hq
              clear hq
              go_enter Try.func41, Try.ntmps41
              go_wp2_with (go_at_call 65; refine (repoch_fix p true HQ.out _).mono ?_; rintro e w' ⟨rfl, rfl⟩)
              go_ret
              exact ⟨rfl, HB.out⟩
          · obtain rfl : Q = false := by
              cases Q with
              | false => rfl
              | true => have := hQ.1 rfl; first | (exact absurd this.2.1 (by decide)) | omega
            clear hQ
            have HQ := Lib.hid hq
            clear hq
            go_enter Try.func41, Try.ntmps41
            go_wp2_with (go_at_call 65; refine (repoch_fix p true HQ.out _).mono ?_; rintro e w' ⟨rfl, rfl⟩)
            go_ret
            exact ⟨rfl, HB.out⟩
        · obtain rfl : Q = false := by
            cases Q with
            | false => rfl
            | true => have := hQ.1 rfl; first | (exact absurd this.2.1 (by decide)) | omega
          clear hQ
          have HQ := Lib.hid hq
          clear hq
          go_enter Try.func41, Try.ntmps41
          go_wp2_with (go_at_call 65; refine (repoch_fix p true HQ.out _).mono ?_; rintro e w' ⟨rfl, rfl⟩)
          go_ret
          exact ⟨rfl, HB.out⟩
    · obtain rfl : Q = false := by
        cases Q with
        | false => rfl
        | true => have := hQ.1 rfl; first | (exact absurd this.2.1 (by decide)) | omega
      clear hQ
      have HQ := Lib.hid hq
      clear hq
      go_enter Try.func41, Try.ntmps41
      go_wp2_with fail
      go_ret
      exact ⟨rfl, HB.out⟩
  · obtain rfl : Q = false := by
      cases Q with
      | false => rfl
      | true => have := hQ.1 rfl; first | (exact absurd this.2.1 (by decide)) | omega
    clear hQ
    have HQ := Lib.hid hq
    clear hq
    go_enter Try.func41, Try.ntmps41
    go_wp2_with fail
    go_ret
    exact ⟨rfl, HB.out⟩
end Go.Proofs.Yticjeknadddhoaa

