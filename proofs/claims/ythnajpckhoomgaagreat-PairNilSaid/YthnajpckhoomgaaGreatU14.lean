/- Texts Osi, Opk of this proof, in one. No conditions but on lengths. -/
import Derived.Test.YthnajpckhoomgaaGreatRows
import Derived.Test.YthnajpckhoomgaaGreatU10
import Derived.Test.YthnajpckhoomgaaGreatU13
import Derived.Below
import Derived.BigQuiet
import Derived.Calls
import Derived.ChangeArms
import Derived.ChangeOld
import Derived.Deep.QuietTactic
import Derived.Deep.RegionWith
import Derived.Deep.Slices
import Derived.Laws.AppendOwnNone
import Derived.Laws.BytesArg
import Derived.Laws.StructEq
import Derived.Lib.Hide
import Derived.Lib.QuietBelow
import Derived.LoopTactic
import Derived.OpenShut
import Derived.Orders
import Derived.Outline
import Derived.ProofKit
import Derived.ShutString
import Derived.WalkKit
import Derived.WalkSpells
import Derived.WideShapes
namespace Go.Proofs.YthnajpckhoomgaaGreat
set_option maxRecDepth 100000
open Go.RowKit Go.Sort

/-- How many bytes these objects have. -/
def osz (ys : List Ob) : Nat := (ys.map fun y => y.bs.length).sum
def AllOk (ys : List Ob) : Prop := ∀ i, i < ys.length → (ys.getD i z12).Ok
instance (ys : List Ob) : Decidable (AllOk ys) := by unfold AllOk; infer_instance
theorem osz_succ (ys : List Ob) (k : Nat) (h : k < ys.length) : osz (ys.take (k + 1)) = osz (ys.take k) + (ys.getD k z12).bs.length := by
  unfold osz
  rw [List.take_succ_eq_append_getElem h, List.map_append, List.sum_append]
  simp [List.getD, h]
theorem bs_le (y : Ob) : y.bs.length ≤ 40 := by
  unfold Ob.bs obBs
  split
  · have h := htB_le y.n y.t y.o y.r y.d y.i
    unfold obB
    split
    · simp
    · split
      · simp; omega
      · split
        · simp [i8_len]
        · simp; omega
  · simp
theorem osz_le : ∀ ys : List Ob, osz ys ≤ 40 * ys.length
  | [] => by simp [osz]
  | y :: ys => by
    have h1 := osz_le ys
    have h2 := bs_le y
    simp only [osz, List.map_cons, List.sum_cons, List.length_cons] at *
    omega
end Go.Proofs.YthnajpckhoomgaaGreat
namespace Go.Proofs.YthnajpckhoomgaaGreat
set_option maxRecDepth 100000
open Go.RowKit Go.Sort

theorem add_spot (b off k : Nat) : (⟨b, off, none⟩ : Addr).add k = ⟨b, off + k, none⟩ := by unfold Addr.add; split <;> simp_all
/-- The two cells of a batch. -/
def c2 (p : Int × Value) : List Value := [.int .i64 p.1, p.2]
def flat2 (vs : List (Int × Value)) : List Value := vs.flatMap c2
theorem flat2_len (vs : List (Int × Value)) : (flat2 vs).length = vs.length * 2 := by
  induction vs with
  | nil => rfl
  | cons y ys ih => simp only [flat2, List.flatMap_cons, List.length_append, List.length_cons, c2, List.length_nil] at *; omega
theorem flat2_app (xs ys : List (Int × Value)) : flat2 (xs ++ ys) = flat2 xs ++ flat2 ys := by simp [flat2]
def zb : Int × List Ob := (0, [])
def zv : Int × Value := (0, .slice none 0 0)
/-- A row of batches of the call's own, whose objects lie in rows of its own, too. -/
def RowB (w : World) (base : Nat) (v : Value) (bs : List (Int × List Ob)) : Prop :=
  ∃ vs : List (Int × Value), vs.length = bs.length ∧ w.ownsRow base 69 2 v bs.length (flat2 vs) ∧
    ∀ i, i < bs.length → (vs.getD i zv).1 = (bs.getD i zb).1 ∧ w.ownsRow base 39 12 (vs.getD i zv).2 (bs.getD i zb).2.length (flat (bs.getD i zb).2)
theorem RowB_nil (w : World) (base : Nat) : RowB w base (.slice none 0 0) [] := ⟨[], rfl, ⟨rfl, .inl ⟨rfl, rfl⟩⟩, fun i h => by simp at h⟩
theorem RowB.below {w w' : World} {base : Nat} {v : Value} {bs : List (Int × List Ob)} (h : RowB w base v bs) (hb : Below w.heap.size w w') : RowB w' base v bs := by
  obtain ⟨vs, h1, h2, h3⟩ := h
  exact ⟨vs, h1, own_below h2 hb, fun i hi => ⟨(h3 i hi).1, own_below (h3 i hi).2 hb⟩⟩
theorem apart2 {w : World} {b1 b2 n1 n2 : Nat} {u v : Value} {xs ys : List Value} (h1 : w.ownsRow b1 39 12 u n1 xs) (h2 : w.ownsRow b2 69 2 v n2 ys) : u.ownBlock = none ∨ u.ownBlock ≠ v.ownBlock := by
  rcases h1.2 with ⟨rfl, _⟩ | ⟨g, cap, cur, rfl, _, hg, _, _, _, _⟩
  · exact .inl rfl
  · right
    rcases h2.2 with ⟨rfl, _⟩ | ⟨g', cap', cur', rfl, _, hg', _, _, _, _⟩
    · simp [Value.ownBlock]
    · intro h
      simp only [Value.ownBlock, Option.some.injEq] at h
      subst h
      rw [hg] at hg'
      simp at hg'
theorem underBS : Tryz.prog.underlying 93 = some (.slice 69) := by kernel_rfl
theorem infoBT : (Tryz.prog.info? 69).map (fun i => (i.zero, i.size, i.bytes)) = some (some (.agg #[.int .i64 0, .slice none 0 0]), 2, 32) := by kernel_rfl
end Go.Proofs.YthnajpckhoomgaaGreat
