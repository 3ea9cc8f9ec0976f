/- Texts Obt, Opk, Opp of this proof, in one. No conditions but on lengths. -/
import Derived.Test.YtdigjklhfimnbaaGreatRows
import Derived.Test.YtdigjklhfimnbaaGreatU09
import Derived.Test.YtdigjklhfimnbaaGreatU15
import Derived.Below
import Derived.BigQuiet
import Derived.Calls
import Derived.ChangeArms
import Derived.ChangeOld
import Derived.Deep.QuietTactic
import Derived.Deep.RegionWith
import Derived.Deep.Slices
import Derived.Laws.AppendOwnNone
import Derived.Laws.BytesArg
import Derived.Laws.StructEq
import Derived.Lib.Hide
import Derived.Lib.QuietBelow
import Derived.LoopTactic
import Derived.OpenShut
import Derived.Orders
import Derived.Outline
import Derived.ProofKit
import Derived.ShutString
import Derived.WalkKit
import Derived.WalkSpells
import Derived.WideShapes
namespace Go.Proofs.YtdigjklhfimnbaaGreat
set_option maxRecDepth 100000
open Go.RowKit Go.Sort Go.WideShapes Go.ChangeShapes

/-- A batch that is right. -/
def BtOk (N : Int) (ys : List Ob) : Prop := (0 ≤ N ∧ N ≤ 65535) ∧ (1 ≤ ys.length ∧ ys.length ≤ 32) ∧ AllOk ys ∧ 3 + osz ys ≤ 512
instance (N : Int) (ys : List Ob) : Decidable (BtOk N ys) := by unfold BtOk; infer_instance
theorem Os.alloc {w : World} {v : Value} {ys : List Ob} (h : Os w v ys) (O : Obj) : Os (w.alloc O) v ys := h.below ((Below.refl _ _).alloc (Nat.le_refl _) O)
/-- A batch's bytes. -/
def btB (N : Int) (ys : List Ob) : List Int := [N / 256, N % 256, (ys.length : Int)] ++ (ys.map Ob.bs).flatten
theorem array2' {cs : Array Value} (h : cs.size = 2) : ∃ a b, cs = #[a, b] := by
  obtain ⟨l⟩ := cs
  match l, h with
  | [a, b], _ => exact ⟨a, b, rfl⟩
end Go.Proofs.YtdigjklhfimnbaaGreat
namespace Go.Proofs.YtdigjklhfimnbaaGreat
set_option maxRecDepth 100000
open Go.RowKit Go.Sort

theorem add_spot (b off k : Nat) : (⟨b, off, none⟩ : Addr).add k = ⟨b, off + k, none⟩ := by unfold Addr.add; split <;> simp_all
/-- The two cells of a batch. -/
def c2 (p : Int × Value) : List Value := [.int .i64 p.1, p.2]
def flat2 (vs : List (Int × Value)) : List Value := vs.flatMap c2
theorem flat2_len (vs : List (Int × Value)) : (flat2 vs).length = vs.length * 2 := by
  induction vs with
  | nil => rfl
  | cons y ys ih => simp only [flat2, List.flatMap_cons, List.length_append, List.length_cons, c2, List.length_nil] at *; omega
theorem flat2_app (xs ys : List (Int × Value)) : flat2 (xs ++ ys) = flat2 xs ++ flat2 ys := by simp [flat2]
def zb : Int × List Ob := (0, [])
def zv : Int × Value := (0, .slice none 0 0)
/-- A row of batches of the call's own, whose objects lie in rows of its own, too. -/
def RowB (w : World) (base : Nat) (v : Value) (bs : List (Int × List Ob)) : Prop :=
  ∃ vs : List (Int × Value), vs.length = bs.length ∧ w.ownsRow base 143 2 v bs.length (flat2 vs) ∧
    ∀ i, i < bs.length → (vs.getD i zv).1 = (bs.getD i zb).1 ∧ w.ownsRow base 41 12 (vs.getD i zv).2 (bs.getD i zb).2.length (flat (bs.getD i zb).2)
theorem RowB_nil (w : World) (base : Nat) : RowB w base (.slice none 0 0) [] := ⟨[], rfl, ⟨rfl, .inl ⟨rfl, rfl⟩⟩, fun i h => by simp at h⟩
theorem RowB.below {w w' : World} {base : Nat} {v : Value} {bs : List (Int × List Ob)} (h : RowB w base v bs) (hb : Below w.heap.size w w') : RowB w' base v bs := by
  obtain ⟨vs, h1, h2, h3⟩ := h
  exact ⟨vs, h1, own_below h2 hb, fun i hi => ⟨(h3 i hi).1, own_below (h3 i hi).2 hb⟩⟩
theorem apart2 {w : World} {b1 b2 n1 n2 : Nat} {u v : Value} {xs ys : List Value} (h1 : w.ownsRow b1 41 12 u n1 xs) (h2 : w.ownsRow b2 143 2 v n2 ys) : u.ownBlock = none ∨ u.ownBlock ≠ v.ownBlock := by
  rcases h1.2 with ⟨rfl, _⟩ | ⟨g, cap, cur, rfl, _, hg, _, _, _, _⟩
  · exact .inl rfl
  · right
    rcases h2.2 with ⟨rfl, _⟩ | ⟨g', cap', cur', rfl, _, hg', _, _, _, _⟩
    · simp [Value.ownBlock]
    · intro h
      simp only [Value.ownBlock, Option.some.injEq] at h
      subst h
      rw [hg] at hg'
      simp at hg'
theorem underBS : Tryz.prog.underlying 103 = some (.slice 143) := by kernel_rfl
theorem infoBT : (Tryz.prog.info? 143).map (fun i => (i.zero, i.size, i.bytes)) = some (some (.agg #[.int .i64 0, .slice none 0 0]), 2, 32) := by kernel_rfl
end Go.Proofs.YtdigjklhfimnbaaGreat
namespace Go.Proofs.YtdigjklhfimnbaaGreat
set_option maxRecDepth 100000
open Go.RowKit Go.Sort

def lft (n : Int) : Int := n % 65536
def nxt (n : Int) : Int := (n % 65536 + 1) % 65536
theorem own_mono {w : World} {base B size n : Nat} {e : TypeId} {v : Value} {xs : List Value} (h : w.ownsRow base e size v n xs) (hB : B ≤ base) : w.ownsRow B e size v n xs := by
  rcases h.2 with h2 | ⟨g, cap, cur, h2, h3, h4⟩
  · exact ⟨h.1, .inl h2⟩
  · exact ⟨h.1, .inr ⟨g, cap, cur, h2, Nat.le_trans hB h3, h4⟩⟩
theorem own_form {w : World} {base size n : Nat} {e : TypeId} {v : Value} {xs : List Value} (h : w.ownsRow base e size v n xs) : ∃ a c, v = .slice a n c := by
  rcases h.2 with ⟨rfl, rfl⟩ | ⟨g, cap, cur, rfl, _⟩
  · exact ⟨none, 0, rfl⟩
  · exact ⟨_, _, rfl⟩
theorem own_one {w : World} {base size n : Nat} {e : TypeId} {v : Value} {xs : List Value} (h : w.ownsRow base e size v n xs) : v.oneCell' = true := by
  rcases h.2 with ⟨rfl, _⟩ | ⟨g, cap, cur, rfl, _⟩ <;> rfl
/-- One more object fits. -/
def Fit1 (most : Int) (ys : List Ob) (A t : Nat) : Prop := t < ys.length ∧ t - A < 32 ∧ 3 + (osz ((ys.drop A).take (t + 1 - A)) : Int) ≤ most
instance (most : Int) (ys : List Ob) (A t : Nat) : Decidable (Fit1 most ys A t) := by unfold Fit1; infer_instance
def cutF (most : Int) (ys : List Ob) (A : Nat) : Nat → Nat → Nat
  | 0, t => t
  | f + 1, t => if Fit1 most ys A t then cutF most ys A f (t + 1) else t
def cutTo (most : Int) (ys : List Ob) (A : Nat) : Nat := cutF most ys A ys.length (A + 1)
theorem cutF_eq {most : Int} {ys : List Ob} {A T : Nat} (hT : ¬ Fit1 most ys A T) : ∀ (f t : Nat), t ≤ T → T ≤ t + f → (∀ s, t ≤ s → s < T → Fit1 most ys A s) → cutF most ys A f t = T
  | 0, t, h1, h2, _ => by rw [cutF]; omega
  | f + 1, t, h1, h2, h3 => by
    rw [cutF]
    by_cases h : t = T
    · subst h; rw [if_neg hT]
    · rw [if_pos (h3 t (Nat.le_refl _) (by omega))]
      exact cutF_eq hT f (t + 1) (by omega) (by omega) fun s hs => h3 s (by omega)
def packF (most : Int) (ys : List Ob) : Nat → Nat → Int → List (Int × List Ob)
  | 0, _, _ => []
  | f + 1, A, n => if A < ys.length then (n, (ys.drop A).take (cutTo most ys A - A)) :: packF most ys f (cutTo most ys A) (nxt n) else []
def packL (most : Int) (ys : List Ob) (first : Int) : List (Int × List Ob) := packF most ys ys.length 0 (lft first)
theorem sub_ok {ys : List Ob} (h : AllOk ys) (A m : Nat) : AllOk ((ys.drop A).take m) := fun i hi => by
  have hl : i < m ∧ A + i < ys.length := by rw [List.length_take, List.length_drop] at hi; omega
  have e : ((ys.drop A).take m).getD i z12 = ys.getD (A + i) z12 := by simp [List.getD, hl.1]
  rw [e]; exact h (A + i) hl.2
end Go.Proofs.YtdigjklhfimnbaaGreat
