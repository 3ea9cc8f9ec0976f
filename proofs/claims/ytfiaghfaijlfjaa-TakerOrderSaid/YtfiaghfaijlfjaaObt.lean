/- Batches: the reference's Right and Bytes; a batch as an argument. No conditions but on lengths. -/
import Derived.Test.YtfiaghfaijlfjaaOsi
import Derived.Test.YtfiaghfaijlfjaaOpd
import Derived.Test.YtfiaghfaijlfjaaRdr
namespace Go.Proofs.Ytfiaghfaijlfjaa
set_option maxRecDepth 100000
open Go.RowKit Go.Sort Go.WideShapes Go.ChangeShapes

/-- A batch that is right. -/
def BtOk (N : Int) (ys : List Ob) : Prop := (0 ≤ N ∧ N ≤ 65535) ∧ (1 ≤ ys.length ∧ ys.length ≤ 32) ∧ AllOk ys ∧ 3 + osz ys ≤ 512
instance (N : Int) (ys : List Ob) : Decidable (BtOk N ys) := by unfold BtOk; infer_instance
theorem Os.alloc {w : World} {v : Value} {ys : List Ob} (h : Os w v ys) (O : Obj) : Os (w.alloc O) v ys := h.below ((Below.refl _ _).alloc (Nat.le_refl _) O)
def btc (N : Int) (ys : List Ob) : Int := if BtOk N ys then 0 else 1
theorem underBT : Try.prog.underlying 27 = some (.struct (Try.prog.fieldsOf 27)) := by kernel_rfl
theorem array2' {cs : Array Value} (h : cs.size = 2) : ∃ a b, cs = #[a, b] := by
  obtain ⟨l⟩ := cs
  match l, h with
  | [a, b], _ => exact ⟨a, b, rfl⟩
end Go.Proofs.Ytfiaghfaijlfjaa

