/- The reference's Ints and Row; append to a row of the call's own. No conditions. -/
import Derived.Test.YticjeknadddhoaaZfa
import Derived.Deep.QuietTactic
import Derived.BigQuiet
import Derived.Laws.AppendOwnNone
namespace Go.Proofs.Yticjeknadddhoaa
set_option maxRecDepth 100000
open Go.RowKit

theorem z_bel_drewN {B : Nat} {a w : World} (h : Below B a w) (n : Nat) : Below B a (w.drewN n) := ⟨h.os, h.tape, h.output, h.size, h.block⟩
theorem Zs_open {w : World} {v : Value} {xs : List Int} (h : Zs w v xs) : ∃ a cap, v = .slice a xs.length cap ∧ (a = none → cap = 0) ∧ xs.length ≤ cap ∧ ∀ i, i < xs.length → ∃ b off, a = some ⟨b, off, none⟩ ∧ w.cell? ⟨b, off + i, none⟩ = some (.int .i64 (xs.getD i 0)) := by
  obtain ⟨hl, ⟨a, cap, rfl, hz, rfl⟩ | ⟨b, off, cap, rfl, hcap, hc⟩⟩ := h
  · exact ⟨a, cap, rfl, hz, Nat.zero_le _, fun i hi => absurd hi (Nat.not_lt_zero _)⟩
  · exact ⟨some ⟨b, off, none⟩, cap, rfl, (by intro h; cases h), hcap, fun i hi => ⟨b, off, rfl, hc i hi⟩⟩
theorem z_take_ne {xs ys : List Int} (k : Nat) (hne : xs.getD k 0 ≠ ys.getD k 0) : decide (xs = ys) = false :=
  decide_eq_false fun e => hne (by rw [e])
theorem z_take_next {xs ys : List Int} (k : Nat) (h : k < xs.length) (h' : k < ys.length) (he : xs.getD k 0 = ys.getD k 0) (ht : xs.take k = ys.take k) : xs.take (k + 1) = ys.take (k + 1) := by
  rw [List.take_succ_eq_append_getElem h, List.take_succ_eq_append_getElem h', ht]
  simp [List.getD, h, h'] at he
  rw [he]
end Go.Proofs.Yticjeknadddhoaa

