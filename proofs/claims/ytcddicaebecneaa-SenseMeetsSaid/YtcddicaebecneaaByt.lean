/- A height as bytes. No conditions. -/
import Derived.Test.YtcddicaebecneaaLev
namespace Go.Proofs.Ytcddicaebecneaa
set_option maxRecDepth 100000
open Go.RowKit

theorem own_below {w w' : World} {base size n : Nat} {e : TypeId} {v : Value} {xs : List Value} (h : w.ownsRow base e size v n xs) (hb : Below w.heap.size w w') : w'.ownsRow base e size v n xs := by
  obtain ⟨h1, h2 | ⟨g, cap, cur, h2, h3, h4, h5⟩⟩ := h
  · exact ⟨h1, .inl h2⟩
  · refine ⟨h1, .inr ⟨g, cap, cur, h2, h3, ?_, h5⟩⟩
    rw [hb.block g (Array.getElem?_eq_some_iff.1 h4).1]; exact h4
def Rows (w : World) (v : Value) (xss : List (List Int)) : Prop :=
  ∃ (g : Nat) (vs : List Value), v = .slice (some ⟨g, 0, none⟩) vs.length vs.length ∧ vs.length = xss.length ∧ (∀ i, i < vs.length → w.cell? ⟨g, i, none⟩ = some (vs.getD i undef)) ∧ ∀ i, i < vs.length → Bs w (vs.getD i undef) (xss.getD i [])
theorem Rows.below {w w' : World} {v : Value} {xss : List (List Int)} (h : Rows w v xss) (hb : Below w.heap.size w w') : Rows w' v xss := by
  obtain ⟨g, vs, h1, h2, h3, h4⟩ := h
  exact ⟨g, vs, h1, h2, fun i hi => by rw [hb.cell (World.block_lt_of_cell? w _ (h3 i hi))]; exact h3 i hi, fun i hi => Bs_below (h4 i hi) hb⟩
end Go.Proofs.Ytcddicaebecneaa

