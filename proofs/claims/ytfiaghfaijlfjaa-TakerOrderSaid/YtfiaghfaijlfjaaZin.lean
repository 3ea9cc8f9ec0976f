/- The reference's Ints and Row; append to a row of the call's own. No conditions. -/
import Derived.Test.YtfiaghfaijlfjaaZfa
import Derived.Deep.QuietTactic
import Derived.BigQuiet
import Derived.Laws.AppendOwnNone
namespace Go.Proofs.Ytfiaghfaijlfjaa
set_option maxRecDepth 100000
open Go.RowKit

theorem Zs_open {w : World} {v : Value} {xs : List Int} (h : Zs w v xs) : ∃ a cap, v = .slice a xs.length cap ∧ (a = none → cap = 0) ∧ xs.length ≤ cap ∧ ∀ i, i < xs.length → ∃ b off, a = some ⟨b, off, none⟩ ∧ w.cell? ⟨b, off + i, none⟩ = some (.int .i64 (xs.getD i 0)) := by
  obtain ⟨hl, ⟨a, cap, rfl, hz, rfl⟩ | ⟨b, off, cap, rfl, hcap, hc⟩⟩ := h
  · exact ⟨a, cap, rfl, hz, Nat.zero_le _, fun i hi => absurd hi (Nat.not_lt_zero _)⟩
  · exact ⟨some ⟨b, off, none⟩, cap, rfl, (by intro h; cases h), hcap, fun i hi => ⟨b, off, rfl, hc i hi⟩⟩
end Go.Proofs.Ytfiaghfaijlfjaa

