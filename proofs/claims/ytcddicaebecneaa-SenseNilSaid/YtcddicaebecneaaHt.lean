/- Heights: which are right. No conditions. -/
import Derived.Test.YtcddicaebecneaaRint
import Derived.BigQuiet
import Derived.Deep.QuietTactic
import Derived.Lib.QuietBelow
namespace Go.Proofs.Ytcddicaebecneaa
set_option maxRecDepth 100000
open Go.RowKit Go.Sort

def NodeOk (i : Int) : Prop := 0 ≤ i ∧ i < 64
instance (i : Int) : Decidable (NodeOk i) := by unfold NodeOk; infer_instance
/-- All but the Id of a height that is not Null is within its bounds. -/
def RowOk (t o r d : Int) : Prop := 0 ≤ t ∧ t ≤ 4611686018427387903 ∧ NodeOk o ∧ (r = 0 ∨ r = 1) ∧ -1099511627776 ≤ d ∧ d ≤ 1099511627776
instance (t o r d : Int) : Decidable (RowOk t o r d) := by unfold RowOk; infer_instance
def NullOk (t o r d : Int) : Prop := t = 0 ∧ o = 0 ∧ r = 0 ∧ d = 0
instance (t o r d : Int) : Decidable (NullOk t o r d) := by unfold NullOk; infer_instance
def HtOk (n : Bool) (t o r d i : Int) : Prop := NodeOk i ∧ (n = true ∧ NullOk t o r d ∨ n = false ∧ RowOk t o r d)
instance (n : Bool) (t o r d i : Int) : Decidable (HtOk n t o r d i) := by unfold HtOk; infer_instance
/-- The six cells of a height. -/
def Cells6 (w : World) (b : Nat) (n : Bool) (t o r d i : Int) : Prop :=
  w.cell? ⟨b, 0, none⟩ = some (.bool n) ∧ w.cell? ⟨b, 1, none⟩ = some (.int .i64 t) ∧ w.cell? ⟨b, 2, none⟩ = some (.int .i64 o) ∧
  w.cell? ⟨b, 3, none⟩ = some (.int .i64 r) ∧ w.cell? ⟨b, 4, none⟩ = some (.int .i64 d) ∧ w.cell? ⟨b, 5, none⟩ = some (.int .i64 i)
theorem Cells6.below {w w' : World} {b : Nat} {n : Bool} {t o r d i : Int} (h : Cells6 w b n t o r d i) (hb : Below w.heap.size w w') : Cells6 w' b n t o r d i := by
  obtain ⟨h0, h1, h2, h3, h4, h5⟩ := h
  have k : ∀ {a : Addr} {v : Value}, w.cell? a = some v → w'.cell? a = some v := fun h => by rw [hb.cell (World.block_lt_of_cell? w _ h)]; exact h
  exact ⟨k h0, k h1, k h2, k h3, k h4, k h5⟩
end Go.Proofs.Ytcddicaebecneaa

