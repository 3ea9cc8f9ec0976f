/- Batches: the reference's Right and Bytes; a batch as an argument. No conditions but on lengths. -/
import Derived.Test.YticjeknadddhoaaOsi
import Derived.Test.YticjeknadddhoaaOpd
import Derived.Test.YticjeknadddhoaaPsd
namespace Go.Proofs.Yticjeknadddhoaa
set_option maxRecDepth 100000
open Go.RowKit Go.Sort Go.WideShapes Go.ChangeShapes

/-- A batch that is right. -/
def BtOk (N : Int) (ys : List Ob) : Prop := (0 ≤ N ∧ N ≤ 65535) ∧ (1 ≤ ys.length ∧ ys.length ≤ 32) ∧ AllOk ys ∧ 3 + osz ys ≤ 512
instance (N : Int) (ys : List Ob) : Decidable (BtOk N ys) := by unfold BtOk; infer_instance
theorem Os.alloc {w : World} {v : Value} {ys : List Ob} (h : Os w v ys) (O : Obj) : Os (w.alloc O) v ys := h.below ((Below.refl _ _).alloc (Nat.le_refl _) O)
end Go.Proofs.Yticjeknadddhoaa

