/- Acks: in memory, as arguments; which one is right; '==' of them. No conditions. -/
import Derived.Test.YtcddicaebecneaaGrw
import Derived.Test.YtcddicaebecneaaRint
import Derived.Test.YtcddicaebecneaaFrm
import Derived.Laws.StructEq
namespace Go.Proofs.Ytcddicaebecneaa
set_option maxRecDepth 100000
open Go.RowKit Go.WideShapes Go.ChangeShapes

def EpOk (n : Int) : Prop := 0 ≤ n ∧ n ≤ 4294967295
instance (n : Int) : Decidable (EpOk n) := by unfold EpOk; infer_instance
theorem repoch_fix (n : Int) (q : Bool) (hq : q = true ↔ EpOk n) (w : World) : Calls Try.prog 28 #[.int .i64 n] w fun e w' => e = .returned (.bool q) ∧ w = w' := by
  unfold EpOk at hq
  by_cases h1 : 0 ≤ n
  · by_cases h2 : n ≤ 4294967295
    · obtain rfl : q = true := hq.2 ⟨h1, h2⟩
      clear hq
      go_enter Try.func28, Try.ntmps28
      go_wp2
      go_ret
      exact ⟨rfl, rfl⟩
    · obtain rfl : q = false := by cases q with
        | false => rfl
        | true => exact absurd (hq.1 rfl).2 h2
      clear hq
      go_enter Try.func28, Try.ntmps28
      go_wp2
      go_ret
      exact ⟨rfl, rfl⟩
  · obtain rfl : q = false := by cases q with
      | false => rfl
      | true => exact absurd (hq.1 rfl).1 h1
    clear hq
    go_enter Try.func28, Try.ntmps28
    go_wp2
    go_ret
    exact ⟨rfl, rfl⟩
def AkOne (y : Int × Int × Int × Int) : Prop := (0 ≤ y.1 ∧ y.1 < 64) ∧ EpOk y.2.1 ∧ (0 ≤ y.2.2.1 ∧ y.2.2.1 ≤ 65535) ∧ (0 ≤ y.2.2.2 ∧ y.2.2.2 ≤ 65535)
instance (y : Int × Int × Int × Int) : Decidable (AkOne y) := by unfold AkOne; infer_instance
end Go.Proofs.Ytcddicaebecneaa

