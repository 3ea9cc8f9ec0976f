/- An element of a row of batches. No conditions. -/
import Derived.Test.YtfdjaodnmjkpcaaBaw
namespace Go.Proofs.Ytfdjaodnmjkpcaa
set_option maxRecDepth 100000
open Go.RowKit Go.Sort

theorem bts_some {w : World} {a : Option Addr} {c : Nat} {bs : List (Int × List Ob)} (h : Bts w (.slice a bs.length c) bs) (hp : 0 < bs.length) : ∃ b off, a = some ⟨b, off, none⟩ := by
  obtain ⟨b, off, h1, _⟩ := h.at hp
  exact ⟨b, off, h1⟩
theorem bts_at {w : World} {b off c : Nat} {bs : List (Int × List Ob)} (h : Bts w (.slice (some ⟨b, off, none⟩) bs.length c) bs) {i : Nat} (hi : i < bs.length) : w.cell? ⟨b, off + i * 2, none⟩ = some (.int .i64 (bs.getD i zb).1) ∧ ∃ s, w.cell? ⟨b, off + i * 2 + 1, none⟩ = some s ∧ Os w s (bs.getD i zb).2 := by
  obtain ⟨b', off', h1, h2⟩ := h.at hi
  simp only [Option.some.injEq, Addr.mk.injEq, and_true] at h1
  obtain ⟨rfl, rfl⟩ := h1
  exact h2
theorem bts_slice {w : World} {b off c : Nat} {bs : List (Int × List Ob)} (h : Bts w (.slice (some ⟨b, off, none⟩) bs.length c) bs) {i : Nat} (hi : i < bs.length) : w.cell? ⟨b, off + i * 2, none⟩ = some (.int .i64 (bs.getD i zb).1) ∧ ∃ a' c', w.cell? ⟨b, off + i * 2 + 1, none⟩ = some (.slice a' (bs.getD i zb).2.length c') ∧ Os w (.slice a' (bs.getD i zb).2.length c') (bs.getD i zb).2 := by
  obtain ⟨h1, s, h2, h3⟩ := bts_at h hi
  obtain ⟨a', c', rfl⟩ := h3.form
  exact ⟨h1, a', c', h2, h3⟩

#print axioms bts_slice
end Go.Proofs.Ytfdjaodnmjkpcaa
