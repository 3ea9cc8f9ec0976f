/- Texts Akt of this proof, in one. No conditions but on lengths. -/
import Derived.Test.YtdigjklhfimnbaaGreatRows
import Derived.Test.YtdigjklhfimnbaaGreatU06
import Derived.ArgAppend
import Derived.Below
import Derived.BigQuiet
import Derived.Calls
import Derived.ChangeArms
import Derived.ChangeOld
import Derived.Deep.QuietTactic
import Derived.Deep.RegionLaw
import Derived.Deep.Slices
import Derived.Laws.AppendOwnNone
import Derived.Laws.BytesArg
import Derived.Laws.OwnMore
import Derived.Laws.StructEq
import Derived.Lib.Hide
import Derived.Lib.QuietBelow
import Derived.LoopTactic
import Derived.Maps.AppendAt
import Derived.OpenShut
import Derived.Orders
import Derived.Outline
import Derived.ProofKit
import Derived.ShutString
import Derived.StillTail
import Derived.WalkKit
import Derived.WalkSpells
import Derived.WideShapes
namespace Go.Proofs.YtdigjklhfimnbaaGreat
set_option maxRecDepth 100000
open Go.RowKit Go.WideShapes Go.ChangeShapes

/-- An ack: whose, of which epoch, what is next, which came. -/
def ak (y : Int × Int × Int × Int) : List Value := [.int .i64 y.1, .int .i64 y.2.1, .int .i64 y.2.2.1, .int .i64 y.2.2.2]
theorem infoAK : (Tryz.prog.info? 212).map (fun i => (i.zero, i.size, i.bytes)) = some (some (.agg #[.int .i64 0, .int .i64 0, .int .i64 0, .int .i64 0]), 4, 32) := by kernel_rfl
theorem underAS : Tryz.prog.underlying 144 = some (.slice 212) := by kernel_rfl
theorem cellsAK : Tryz.prog.cellsOf 212 = 4 := by kernel_rfl
theorem ak_ones (y : Int × Int × Int × Int) : ∀ u ∈ ak y, u.oneCell' = true := by
  intro u hu
  simp only [ak, List.mem_cons, List.not_mem_nil, or_false] at hu
  rcases hu with rfl | rfl | rfl | rfl <;> rfl
/-- Rows of acks. -/
noncomputable def RA : RowT where
  α := Int × Int × Int × Int
  d := (0, 0, 0, 0)
  cl := ak
  K := 4
  T := 212
  SL := 144
  zero := .agg #[.int .i64 0, .int .i64 0, .int .i64 0, .int .i64 0]
  bytes := 32
  hcl := fun _ => rfl
  hK := by decide
  hone := ak_ones
  hSL := underAS
  hinfo := infoAK
  hz := rfl
  hb := by decide
  hc := cellsAK
/-- A slice of acks that reads as ys. -/
def As (w : World) (v : Value) (ys : List (Int × Int × Int × Int)) : Prop := Gs RA w v ys
def aflat (ys : List (Int × Int × Int × Int)) : List Value := ys.flatMap ak
theorem As.below {w w' : World} {v : Value} {ys : List (Int × Int × Int × Int)} (h : As w v ys) (hb : Below w.heap.size w w') : As w' v ys := Gs.below (R := RA) h hb
theorem As.alloc {w : World} {v : Value} {ys : List (Int × Int × Int × Int)} (h : As w v ys) (O : Obj) : As (w.alloc O) v ys := Gs.alloc (R := RA) h O
theorem As.form {w : World} {v : Value} {ys : List (Int × Int × Int × Int)} (h : As w v ys) : ∃ a c, v = .slice a ys.length c := Gs.form (R := RA) h
/-- The four cells of an ack. -/
def Cells4a (w : World) (b o : Nat) (y : Int × Int × Int × Int) : Prop := w.cell? ⟨b, o, none⟩ = some (.int .i64 y.1) ∧ w.cell? ⟨b, o + 1, none⟩ = some (.int .i64 y.2.1) ∧ w.cell? ⟨b, o + 2, none⟩ = some (.int .i64 y.2.2.1) ∧ w.cell? ⟨b, o + 3, none⟩ = some (.int .i64 y.2.2.2)
theorem ak_of {w : World} {b o : Nat} {y : Int × Int × Int × Int} (h : GC RA w b o y) : Cells4a w b o y := ⟨h 0 (by decide), h 1 (by decide), h 2 (by decide), h 3 (by decide)⟩
theorem Cells4a.below {w w' : World} {b o : Nat} {y : Int × Int × Int × Int} (h : Cells4a w b o y) (hb : Below w.heap.size w w') : Cells4a w' b o y := by
  obtain ⟨h0, h1, h2, h3⟩ := h
  exact ⟨by rw [hb.cell (World.block_lt_of_cell? w _ h0)]; exact h0, by rw [hb.cell (World.block_lt_of_cell? w _ h1)]; exact h1, by rw [hb.cell (World.block_lt_of_cell? w _ h2)]; exact h2, by rw [hb.cell (World.block_lt_of_cell? w _ h3)]; exact h3⟩
theorem As.at {w : World} {a : Option Addr} {c : Nat} {ys : List (Int × Int × Int × Int)} (h : As w (.slice a ys.length c) ys) {i : Nat} (hi : i < ys.length) : ∃ b off, a = some ⟨b, off, none⟩ ∧ b < w.heap.size ∧ Cells4a w b (off + i * 4) (ys.getD i (0, 0, 0, 0)) := by
  obtain ⟨b, off, h1, h2, h3⟩ := Gs.at (R := RA) h hi
  exact ⟨b, off, h1, h2, ak_of h3⟩
theorem As.all {w : World} {b off c : Nat} {ys : List (Int × Int × Int × Int)} (h : As w (.slice (some ⟨b, off, none⟩) ys.length c) ys) {i : Nat} (hi : i < ys.length) : b < w.heap.size ∧ Cells4a w b (off + i * 4) (ys.getD i (0, 0, 0, 0)) := by
  obtain ⟨h2, h3⟩ := Gs.all (R := RA) h hi
  exact ⟨h2, ak_of h3⟩
theorem As_of_own {w : World} {base n : Nat} {v : Value} {ys : List (Int × Int × Int × Int)} (h : w.ownsRow base 212 4 v n (aflat ys)) : As w v ys ∧ n = ys.length := Gs_of_own (R := RA) h
def EpOk (n : Int) : Prop := 0 ≤ n ∧ n ≤ 4294967295
instance (n : Int) : Decidable (EpOk n) := by unfold EpOk; infer_instance
def AkOne (y : Int × Int × Int × Int) : Prop := (0 ≤ y.1 ∧ y.1 < 64) ∧ EpOk y.2.1 ∧ (0 ≤ y.2.2.1 ∧ y.2.2.1 ≤ 65535) ∧ (0 ≤ y.2.2.2 ∧ y.2.2.2 ≤ 65535)
instance (y : Int × Int × Int × Int) : Decidable (AkOne y) := by unfold AkOne; infer_instance
end Go.Proofs.YtdigjklhfimnbaaGreat
