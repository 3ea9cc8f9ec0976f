/- The reference's Int, and rows joined: their contracts. No conditions. -/
import Derived.Test.YtcddicaebecneaaPut
import Derived.Laws.AppendOwnNone
namespace Go.Proofs.Ytcddicaebecneaa
open Go.RowKit
set_option maxRecDepth 20000

theorem Bs_below {w w' : World} {v : Value} {xs : List Int} (h : Bs w v xs) (hb : Below w.heap.size w w') : Bs w' v xs := by
  obtain ⟨h1, h2, h3 | ⟨b, off, cap, h4, h5, h6⟩⟩ := h
  · exact ⟨h1, h2, .inl h3⟩
  · refine ⟨h1, h2, .inr ⟨b, off, cap, h4, h5, fun i hi => ?_⟩⟩
    have hc := h6 i hi
    rw [hb.cell (World.block_lt_of_cell? w _ hc)]
    exact hc
theorem ones (xs : List Int) : ∀ u ∈ xs.map (Value.int .u8), u.oneCell' = true := by
  intro u hu
  obtain ⟨_, _, rfl⟩ := List.mem_map.1 hu
  rfl
end Go.Proofs.Ytcddicaebecneaa

