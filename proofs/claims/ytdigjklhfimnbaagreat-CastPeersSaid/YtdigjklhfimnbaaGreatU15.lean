/- Texts Opd, Ako of this proof, in one. No conditions but on lengths. -/
import Derived.Test.YtdigjklhfimnbaaGreatRows
import Derived.Test.YtdigjklhfimnbaaGreatU07
import Derived.Test.YtdigjklhfimnbaaGreatU08
import Derived.Test.YtdigjklhfimnbaaGreatU12
import Derived.ArgAppend
import Derived.Below
import Derived.BigQuiet
import Derived.Calls
import Derived.ChangeArms
import Derived.ChangeOld
import Derived.Deep.QuietTactic
import Derived.Deep.RegionLaw
import Derived.Deep.RegionWith
import Derived.Deep.Slices
import Derived.Laws.AppendOwnNone
import Derived.Laws.BytesArg
import Derived.Laws.OwnMore
import Derived.Laws.StructEq
import Derived.Lib.Hide
import Derived.Lib.QuietBelow
import Derived.LoopTactic
import Derived.Maps.AppendAt
import Derived.OpenShut
import Derived.Orders
import Derived.Outline
import Derived.ProofKit
import Derived.ShutString
import Derived.StillTail
import Derived.WalkKit
import Derived.WalkSpells
import Derived.WideShapes
namespace Go.Proofs.YtdigjklhfimnbaaGreat
set_option maxRecDepth 100000
open Go.RowKit Go.Sort

/-- An object lies there, and may be written. -/
def Own12 (w : World) (b : Nat) (k x : Int) (n : Bool) (t o r d i p q s m : Int) : Prop := Cells12 w b k x n t o r d i p q s m ∧ ∀ j, w.frozen? ⟨b, j, none⟩ = false
theorem Own12.below {w w' : World} {b : Nat} {k x : Int} {n : Bool} {t o r d i p q s m : Int} (h : Own12 w b k x n t o r d i p q s m) (hb : Below w.heap.size w w') : Own12 w' b k x n t o r d i p q s m :=
  ⟨h.1.below hb, fun j => (hb.frozen (p := ⟨b, j, none⟩) (show b < w.heap.size from World.block_lt_of_cell? w _ h.1.1)).trans (h.2 j)⟩
theorem Own12.lt {w : World} {b : Nat} {k x : Int} {n : Bool} {t o r d i p q s m : Int} (h : Own12 w b k x n t o r d i p q s m) : b < w.heap.size := World.block_lt_of_cell? w _ h.1.1
theorem Cells4.lt {w : World} {b : Nat} {a0 a1 a2 a3 : Bool} (h : Cells4 w b a0 a1 a2 a3) : b < w.heap.size := World.block_lt_of_cell? w _ h.1
end Go.Proofs.YtdigjklhfimnbaaGreat
namespace Go.Proofs.YtdigjklhfimnbaaGreat
set_option maxRecDepth 100000
open Go.RowKit

/-- A variable of an ack. -/
def OwnA (w : World) (b : Nat) (y : Int × Int × Int × Int) : Prop := (w.cell? ⟨b, 0, none⟩ = some (.int .i64 y.1) ∧ w.cell? ⟨b, 1, none⟩ = some (.int .i64 y.2.1) ∧ w.cell? ⟨b, 2, none⟩ = some (.int .i64 y.2.2.1) ∧ w.cell? ⟨b, 3, none⟩ = some (.int .i64 y.2.2.2)) ∧ ∀ j, w.frozen? ⟨b, j, none⟩ = false
theorem owna_alloc (w : World) (i p x m : Int) (T : TypeId) (g : Nat) (hg : g = w.heap.size) : OwnA (w.alloc (.cells #[.int .i64 i, .int .i64 p, .int .i64 x, .int .i64 m] T)) g (i, p, x, m) := by
  subst hg
  refine ⟨⟨by simp, by simp, by simp, by simp⟩, fun j => by simp⟩
theorem OwnA.lt {w : World} {b : Nat} {y : Int × Int × Int × Int} (h : OwnA w b y) : b < w.heap.size := World.block_lt_of_cell? w _ h.1.1
theorem OwnA.low {w w' : World} {b S : Nat} {y : Int × Int × Int × Int} (h : OwnA w b y) (hb : b < S) (hB : Below S w w') : OwnA w' b y :=
  ⟨⟨(hB.cell (p := ⟨b, 0, none⟩) hb).trans h.1.1, (hB.cell (p := ⟨b, 1, none⟩) hb).trans h.1.2.1, (hB.cell (p := ⟨b, 2, none⟩) hb).trans h.1.2.2.1, (hB.cell (p := ⟨b, 3, none⟩) hb).trans h.1.2.2.2⟩, fun j => (hB.frozen (p := ⟨b, j, none⟩) hb).trans (h.2 j)⟩
theorem OwnA.below {w w' : World} {b : Nat} {y : Int × Int × Int × Int} (h : OwnA w b y) (hb : Below w.heap.size w w') : OwnA w' b y := h.low h.lt hb
/-- Whether a number came that is k + 1 behind. -/
def hit (x : Int) (cs : List Int) (k : Nat) : Bool := cs.any fun c => far x c == (k : Int) + 1
/-- The mask of what came. -/
def mk (x : Int) (cs : List Int) : Nat → Int
  | 0 => 0
  | k + 1 => mk x cs k + if hit x cs k then pow2 k else 0
theorem mk_bd (x : Int) (cs : List Int) (k : Nat) : 0 ≤ mk x cs k ∧ mk x cs k < pow2 k := by
  induction k with
  | zero => exact ⟨Int.le_refl _, Int.zero_lt_one⟩
  | succ k ih =>
    have := pow2_pos k
    simp only [mk, pow2]
    split <;> omega
theorem OwnA.set3 {w : World} {b : Nat} {i p x m : Int} (h : OwnA w b (i, p, x, m)) (m' : Int) : OwnA (w.setCell ⟨b, 3, none⟩ (.int .i64 m')) b (i, p, x, m') := by
  obtain ⟨⟨h0, h1, h2, h3⟩, hf⟩ := h
  refine ⟨⟨?_, ?_, ?_, ?_⟩, fun j => ?_⟩ <;> simp [go_sem, hf, h0, h1, h2, h3]
theorem OwnA.apart {w : World} {b b' : Nat} {y : Int × Int × Int × Int} {u : Value} (h : OwnA w b y) (hb : b ≠ b') (j : Nat) : OwnA (w.setCell ⟨b', j, none⟩ u) b y := by
  have e : ∀ i, (w.setCell ⟨b', j, none⟩ u).cell? ⟨b, i, none⟩ = w.cell? ⟨b, i, none⟩ := fun i => World.cell?_of_block (Below.heap_setCell w ⟨b', j, none⟩ u b hb)
  have f : ∀ i, (w.setCell ⟨b', j, none⟩ u).frozen? ⟨b, i, none⟩ = w.frozen? ⟨b, i, none⟩ := fun i => World.frozen?_of_block (Below.heap_setCell w ⟨b', j, none⟩ u b hb)
  exact ⟨⟨(e 0).trans h.1.1, (e 1).trans h.1.2.1, (e 2).trans h.1.2.2.1, (e 3).trans h.1.2.2.2⟩, fun i => (f i).trans (h.2 i)⟩
/-- An ack laid into a variable. -/
def put4 (w : World) (b : Nat) (i p x m : Int) : World := (((w.setCell ⟨b, 0, none⟩ (.int .i64 i)).setCell ⟨b, 1, none⟩ (.int .i64 p)).setCell ⟨b, 2, none⟩ (.int .i64 x)).setCell ⟨b, 3, none⟩ (.int .i64 m)
theorem OwnA.set {w : World} {b : Nat} {y : Int × Int × Int × Int} (h : OwnA w b y) (i p x m : Int) : OwnA (put4 w b i p x m) b (i, p, x, m) := by
  obtain ⟨⟨h0, h1, h2, h3⟩, hf⟩ := h
  unfold put4
  refine ⟨⟨?_, ?_, ?_, ?_⟩, fun j => ?_⟩ <;> simp [go_sem, hf, h0, h1, h2, h3]
theorem bel_put4 {B : Nat} {u w : World} {b : Nat} (h : Below B u w) (hB : B ≤ b) (i p x m : Int) : Below B u (put4 w b i p x m) :=
  (((h.setCell (p := ⟨b, 0, none⟩) hB _).setCell (p := ⟨b, 1, none⟩) hB _).setCell (p := ⟨b, 2, none⟩) hB _).setCell (p := ⟨b, 3, none⟩) hB _
end Go.Proofs.YtdigjklhfimnbaaGreat
