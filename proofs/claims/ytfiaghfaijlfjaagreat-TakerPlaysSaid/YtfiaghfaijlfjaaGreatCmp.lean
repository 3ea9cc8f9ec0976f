/- Numbers one behind the other: cmp.Compare, cmp.Or, the reference's compare. No conditions. -/
import Derived.Test.YtfiaghfaijlfjaaGreatHt
namespace Go.Proofs.YtfiaghfaijlfjaaGreat
set_option maxRecDepth 100000
open Go.RowKit Go.Sort

/-- A slice of numbers that reads as xs. -/
def Ints (w : World) (v : Value) (xs : List Int) : Prop :=
  ∃ b, v = .slice (some ⟨b, 0, none⟩) xs.length xs.length ∧ xs.length ≤ 1000 ∧ ∀ i, i < xs.length → w.cell? ⟨b, i, none⟩ = some (.int .i64 (xs.getD i 0))
theorem Ints.below {w w' : World} {v : Value} {xs : List Int} (h : Ints w v xs) (hb : Below w.heap.size w w') : Ints w' v xs := by
  obtain ⟨b, h1, h2, h3⟩ := h
  exact ⟨b, h1, h2, fun i hi => by rw [hb.cell (World.block_lt_of_cell? w _ (h3 i hi))]; exact h3 i hi⟩
end Go.Proofs.YtfiaghfaijlfjaaGreat

