/- Levels, and which height is less. No conditions. -/
import Derived.Test.YtcddicaebecneaaCmp
import Derived.Test.YtcddicaebecneaaTyped
namespace Go.Proofs.Ytcddicaebecneaa
set_option maxRecDepth 100000
open Go.RowKit Go.Sort

def Cells3 (w : World) (b : Nat) (t o r : Int) : Prop :=
  w.cell? ⟨b, 0, none⟩ = some (.int .i64 t) ∧ w.cell? ⟨b, 1, none⟩ = some (.int .i64 o) ∧ w.cell? ⟨b, 2, none⟩ = some (.int .i64 r)
theorem Cells3.below {w w' : World} {b : Nat} {t o r : Int} (h : Cells3 w b t o r) (hb : Below w.heap.size w w') : Cells3 w' b t o r := by
  obtain ⟨h0, h1, h2⟩ := h
  have k : ∀ {a : Addr} {v : Value}, w.cell? a = some v → w'.cell? a = some v := fun h => by rw [hb.cell (World.block_lt_of_cell? w _ h)]; exact h
  exact ⟨k h0, k h1, k h2⟩
/-- The cells of a variable that may be written. -/
def Own3 (w : World) (b : Nat) (x y z : Int) : Prop := Cells3 w b x y z ∧ ∀ k, w.frozen? ⟨b, k, none⟩ = false
def Own6 (w : World) (b : Nat) (n : Bool) (t o r d i : Int) : Prop := Cells6 w b n t o r d i ∧ ∀ k, w.frozen? ⟨b, k, none⟩ = false
theorem Own3.below {W w' : World} {b : Nat} {x y z : Int} (h : Own3 W b x y z) (hb : Below W.heap.size W w') : Own3 w' b x y z :=
  ⟨h.1.below hb, fun k => (hb.frozen (p := ⟨b, k, none⟩) (by have hl := World.block_lt_of_cell? W _ h.1.1; exact hl)).trans (h.2 k)⟩
theorem Own6.below {W w' : World} {b : Nat} {n : Bool} {t o r d i : Int} (h : Own6 W b n t o r d i) (hb : Below W.heap.size W w') : Own6 w' b n t o r d i :=
  ⟨h.1.below hb, fun k => (hb.frozen (p := ⟨b, k, none⟩) (by have hl := World.block_lt_of_cell? W _ h.1.1; exact hl)).trans (h.2 k)⟩
end Go.Proofs.Ytcddicaebecneaa

