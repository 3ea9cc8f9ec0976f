/- Levels as numbers; their order turned round. No conditions. -/
import Derived.Test.YtkgckmlphfafjaaFrm
import Derived.WalkLawsBesides
import Derived.WalkKit
import Derived.ProofKit
import Derived.OpenShut
import Derived.ShutString
import Derived.ChangeOld
import Derived.Below
namespace Go.Proofs.Ytkgckmlphfafjaa.heightOrder
open Go.ChangeShapes Go.WideShapes Go.ChangeAt Go.RowKit
open Go.ChangeMaps (open_string shut_string)
set_option linter.unusedVariables false

theorem own : ownKnob Try.prog.godebug = none := by kernel_rfl
theorem laidOut : laidOutB Try.prog = true := by kernel_rfl

def lv (b : Bool) (x : Int) : Int := if b then x else 0
theorem lev_any (n : Bool) (t o r d i : Int) (w : World) : Calls Try.prog 16 #[.agg #[.bool n, .int .i64 t, .int .i64 o, .int .i64 r, .int .i64 d, .int .i64 i]] w fun e w' => e = .returned (.agg #[.int .i64 (lv (told n t o r d i) t), .int .i64 (lv (told n t o r d i) o), .int .i64 (lv (told n t o r d i) r)]) ∧ Below w.heap.size w w' := by
  have h := level_any n t o r d i w
  unfold levV at h
  cases ht : told n t o r d i with
  | true => rw [ht, if_pos rfl] at h; exact h
  | false => rw [ht, if_neg (by decide)] at h; exact h
theorem cmpL_neg : ∀ (xs ys : List Int), cmpL ys xs = - cmpL xs ys
  | [], [] => rfl
  | [], _ :: _ => rfl
  | _ :: _, [] => rfl
  | x :: xs, y :: ys => by
    have ih := cmpL_neg xs ys
    simp only [cmpL]
    by_cases h1 : x < y
    · have h2 : ¬ y < x := by omega
      simp [h1, h2]
    · by_cases h2 : y < x
      · simp [h1, h2]
      · simp only [h1, h2, if_false]; exact ih
theorem ord_neg (t o r t' o' r' : Int) : ordL t o r t' o' r' = - ordL t' o' r' t o r := cmpL_neg _ _
#print axioms ord_neg
end Go.Proofs.Ytkgckmlphfafjaa.heightOrder
