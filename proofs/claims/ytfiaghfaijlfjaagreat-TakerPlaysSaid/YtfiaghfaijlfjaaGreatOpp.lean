/- Objects as batches: the reference's Pack. No conditions but on lengths. -/
import Derived.Test.YtfiaghfaijlfjaaGreatOpk
namespace Go.Proofs.YtfiaghfaijlfjaaGreat
set_option maxRecDepth 100000
open Go.RowKit Go.Sort

def lft (n : Int) : Int := n % 65536
def nxt (n : Int) : Int := (n % 65536 + 1) % 65536
theorem own_mono {w : World} {base B size n : Nat} {e : TypeId} {v : Value} {xs : List Value} (h : w.ownsRow base e size v n xs) (hB : B ≤ base) : w.ownsRow B e size v n xs := by
  rcases h.2 with h2 | ⟨g, cap, cur, h2, h3, h4⟩
  · exact ⟨h.1, .inl h2⟩
  · exact ⟨h.1, .inr ⟨g, cap, cur, h2, Nat.le_trans hB h3, h4⟩⟩
theorem own_form {w : World} {base size n : Nat} {e : TypeId} {v : Value} {xs : List Value} (h : w.ownsRow base e size v n xs) : ∃ a c, v = .slice a n c := by
  rcases h.2 with ⟨rfl, rfl⟩ | ⟨g, cap, cur, rfl, _⟩
  · exact ⟨none, 0, rfl⟩
  · exact ⟨_, _, rfl⟩
theorem own_one {w : World} {base size n : Nat} {e : TypeId} {v : Value} {xs : List Value} (h : w.ownsRow base e size v n xs) : v.oneCell' = true := by
  rcases h.2 with ⟨rfl, _⟩ | ⟨g, cap, cur, rfl, _⟩ <;> rfl
/-- One more object fits. -/
def Fit1 (most : Int) (ys : List Ob) (A t : Nat) : Prop := t < ys.length ∧ t - A < 32 ∧ 3 + (osz ((ys.drop A).take (t + 1 - A)) : Int) ≤ most
instance (most : Int) (ys : List Ob) (A t : Nat) : Decidable (Fit1 most ys A t) := by unfold Fit1; infer_instance
def cutF (most : Int) (ys : List Ob) (A : Nat) : Nat → Nat → Nat
  | 0, t => t
  | f + 1, t => if Fit1 most ys A t then cutF most ys A f (t + 1) else t
def cutTo (most : Int) (ys : List Ob) (A : Nat) : Nat := cutF most ys A ys.length (A + 1)
theorem cutF_eq {most : Int} {ys : List Ob} {A T : Nat} (hT : ¬ Fit1 most ys A T) : ∀ (f t : Nat), t ≤ T → T ≤ t + f → (∀ s, t ≤ s → s < T → Fit1 most ys A s) → cutF most ys A f t = T
  | 0, t, h1, h2, _ => by rw [cutF]; omega
  | f + 1, t, h1, h2, h3 => by
    rw [cutF]
    by_cases h : t = T
    · subst h; rw [if_neg hT]
    · rw [if_pos (h3 t (Nat.le_refl _) (by omega))]
      exact cutF_eq hT f (t + 1) (by omega) (by omega) fun s hs => h3 s (by omega)
def packF (most : Int) (ys : List Ob) : Nat → Nat → Int → List (Int × List Ob)
  | 0, _, _ => []
  | f + 1, A, n => if A < ys.length then (n, (ys.drop A).take (cutTo most ys A - A)) :: packF most ys f (cutTo most ys A) (nxt n) else []
def packL (most : Int) (ys : List Ob) (first : Int) : List (Int × List Ob) := packF most ys ys.length 0 (lft first)
theorem sub_ok {ys : List Ob} (h : AllOk ys) (A m : Nat) : AllOk ((ys.drop A).take m) := fun i hi => by
  have hl : i < m ∧ A + i < ys.length := by rw [List.length_take, List.length_drop] at hi; omega
  have e : ((ys.drop A).take m).getD i z12 = ys.getD (A + i) z12 := by simp [List.getD, hl.1]
  rw [e]; exact h (A + i) hl.2
end Go.Proofs.YtfiaghfaijlfjaaGreat

