/- Beacons: the reference's Same and Own; '==' of echoes. No conditions but on lengths. -/
import Derived.Test.YtmimgpnogjgliaaGrw
import Derived.Test.YtmimgpnogjgliaaPut
import Derived.Test.YtmimgpnogjgliaaFrm
namespace Go.Proofs.Ytmimgpnogjgliaa
set_option maxRecDepth 100000
open Go.RowKit

/-- What is laid into a variable leaves rows in other blocks as they are. -/
theorem gown_apart {w : World} {b S size n : Nat} {e : TypeId} {v u : Value} {xs : List Value} (h : w.ownsRow S e size v n xs) (hb : b < S) (j : Nat) : (w.setCell ⟨b, j, none⟩ u).ownsRow S e size v n xs := by
  refine ⟨h.1, ?_⟩
  rcases h.2 with h2 | ⟨g, cap, cur, rfl, h3, hg, rest⟩
  · exact .inl h2
  · exact .inr ⟨g, cap, cur, rfl, h3, (Below.heap_setCell w ⟨b, j, none⟩ u g (by show g ≠ b; omega)).trans hg, rest⟩
end Go.Proofs.Ytmimgpnogjgliaa

