/- The contracts of what makes bytes. No conditions. -/
import Derived.Test.YtmimgpnogjgliaaRead
import Derived.WalkSpells
namespace Go.Proofs.Ytmimgpnogjgliaa
set_option maxRecDepth 100000
open Go.RowKit

/-- n bytes by their places. -/
def row (F : Nat → Int) (n : Nat) : List Value := (List.range n).map fun i => Value.int .u8 (F i)

/-- Put's answer: the bytes, the error. -/
def PutOk (v n : Int) : Prop := 1 ≤ n ∧ n ≤ 7 ∧ 0 ≤ v ∧ v < pow256 n.toNat
instance (v n : Int) : Decidable (PutOk v n) := by unfold PutOk; infer_instance
end Go.Proofs.Ytmimgpnogjgliaa

