/- Objects as batches: the reference's Pack. No conditions but on lengths. -/
import Derived.Test.YtfiaghfaijlfjaaOpk
namespace Go.Proofs.Ytfiaghfaijlfjaa
set_option maxRecDepth 100000
open Go.RowKit Go.Sort

def lft (n : Int) : Int := n % 65536
def nxt (n : Int) : Int := (n % 65536 + 1) % 65536
/-- One more object fits. -/
def Fit1 (most : Int) (ys : List Ob) (A t : Nat) : Prop := t < ys.length ∧ t - A < 32 ∧ 3 + (osz ((ys.drop A).take (t + 1 - A)) : Int) ≤ most
instance (most : Int) (ys : List Ob) (A t : Nat) : Decidable (Fit1 most ys A t) := by unfold Fit1; infer_instance
def cutF (most : Int) (ys : List Ob) (A : Nat) : Nat → Nat → Nat
  | 0, t => t
  | f + 1, t => if Fit1 most ys A t then cutF most ys A f (t + 1) else t
def cutTo (most : Int) (ys : List Ob) (A : Nat) : Nat := cutF most ys A ys.length (A + 1)
def packF (most : Int) (ys : List Ob) : Nat → Nat → Int → List (Int × List Ob)
  | 0, _, _ => []
  | f + 1, A, n => if A < ys.length then (n, (ys.drop A).take (cutTo most ys A - A)) :: packF most ys f (cutTo most ys A) (nxt n) else []
def packL (most : Int) (ys : List Ob) (first : Int) : List (Int × List Ob) := packF most ys ys.length 0 (lft first)
theorem sub_ok {ys : List Ob} (h : AllOk ys) (A m : Nat) : AllOk ((ys.drop A).take m) := fun i hi => by
  have hl : i < m ∧ A + i < ys.length := by rw [List.length_take, List.length_drop] at hi; omega
  have e : ((ys.drop A).take m).getD i z12 = ys.getD (A + i) z12 := by simp [List.getD, hl.1]
  rw [e]; exact h (A + i) hl.2
end Go.Proofs.Ytfiaghfaijlfjaa

