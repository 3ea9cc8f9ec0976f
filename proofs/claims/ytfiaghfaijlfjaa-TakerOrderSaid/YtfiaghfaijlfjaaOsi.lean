/- Rows of objects: how many bytes a batch of them has, by the reference's size. No conditions but on lengths. -/
import Derived.Test.YtfiaghfaijlfjaaOsa
namespace Go.Proofs.Ytfiaghfaijlfjaa
set_option maxRecDepth 100000
open Go.RowKit Go.Sort

/-- How many bytes these objects have. -/
def osz (ys : List Ob) : Nat := (ys.map fun y => y.bs.length).sum
def AllOk (ys : List Ob) : Prop := ∀ i, i < ys.length → (ys.getD i z12).Ok
instance (ys : List Ob) : Decidable (AllOk ys) := by unfold AllOk; infer_instance
theorem osz_succ (ys : List Ob) (k : Nat) (h : k < ys.length) : osz (ys.take (k + 1)) = osz (ys.take k) + (ys.getD k z12).bs.length := by
  unfold osz
  rw [List.take_succ_eq_append_getElem h, List.map_append, List.sum_append]
  simp [List.getD, h]
theorem bs_le (y : Ob) : y.bs.length ≤ 40 := by
  unfold Ob.bs obBs
  split
  · have h := htB_le y.n y.t y.o y.r y.d y.i
    unfold obB
    split
    · simp
    · split
      · simp; omega
      · split
        · simp [i8_len]
        · simp; omega
  · simp
theorem osz_le : ∀ ys : List Ob, osz ys ≤ 40 * ys.length
  | [] => by simp [osz]
  | y :: ys => by
    have h1 := osz_le ys
    have h2 := bs_le y
    simp only [osz, List.map_cons, List.sum_cons, List.length_cons] at *
    omega
end Go.Proofs.Ytfiaghfaijlfjaa

