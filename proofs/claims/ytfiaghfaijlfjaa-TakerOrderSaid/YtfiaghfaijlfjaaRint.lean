/- The reference's Int, and rows joined: their contracts. No conditions. -/
import Derived.Test.YtfiaghfaijlfjaaPut
import Derived.Laws.AppendOwnNone
namespace Go.Proofs.Ytfiaghfaijlfjaa
open Go.RowKit
set_option maxRecDepth 20000

theorem Bs_below {w w' : World} {v : Value} {xs : List Int} (h : Bs w v xs) (hb : Below w.heap.size w w') : Bs w' v xs := by
  obtain ⟨h1, h2, h3 | ⟨b, off, cap, h4, h5, h6⟩⟩ := h
  · exact ⟨h1, h2, .inl h3⟩
  · refine ⟨h1, h2, .inr ⟨b, off, cap, h4, h5, fun i hi => ?_⟩⟩
    have hc := h6 i hi
    rw [hb.cell (World.block_lt_of_cell? w _ hc)]
    exact hc
theorem Bs_of_own {w : World} {base n : Nat} {v : Value} {xs : List Int} (h : w.ownsRow base 5 1 v n (xs.map (Value.int .u8))) (hx : ∀ x ∈ xs, 0 ≤ x ∧ x < 256) (hn : xs.length ≤ 9223372036854775807) : Bs w v xs := by
  have hl : xs.length = n := by simpa using h.1
  refine ⟨hx, hn, ?_⟩
  rcases h.2 with ⟨h1, h2⟩ | ⟨g, cap, cur, rfl, _, hg, hnc, _, _, htake⟩
  · left; exact ⟨none, 0, h1, fun _ => rfl, List.length_eq_zero_iff.1 (by omega)⟩
  · right
    refine ⟨g, 0, cap, by rw [hl], by omega, fun i hi => ?_⟩
    rw [Nat.zero_add, h.cellAt i (by omega)]
    simp [List.getD, hi]
theorem news_of {w : World} {b off : Nat} {xs : List Int} (hc : ∀ i, i < xs.length → w.cell? ⟨b, off + i, none⟩ = some (.int .u8 (xs.getD i 0))) : ∀ j u, (xs.map (Value.int .u8))[j]? = some u → w.cell? ((⟨b, off, none⟩ : Addr).add j) = some u := by
  intro j u h
  have hj : j < xs.length := by
    rcases Nat.lt_or_ge j xs.length with h' | h'
    · exact h'
    · rw [List.getElem?_eq_none (by simpa using h')] at h; cases h
  have hadd : (⟨b, off, none⟩ : Addr).add j = ⟨b, off + j, none⟩ := by unfold Addr.add; split <;> simp_all
  rw [hadd, hc j hj]
  simp [hj] at h
  simp [List.getD, hj, h]
theorem ones (xs : List Int) : ∀ u ∈ xs.map (Value.int .u8), u.oneCell' = true := by
  intro u hu
  obtain ⟨_, _, rfl⟩ := List.mem_map.1 hu
  rfl
end Go.Proofs.Ytfiaghfaijlfjaa

