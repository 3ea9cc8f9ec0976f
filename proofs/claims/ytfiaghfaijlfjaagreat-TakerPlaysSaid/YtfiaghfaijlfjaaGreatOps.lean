/- Objects as batches: the reference's Pack whole; rows of batches that are compared. No conditions but on lengths. -/
import Derived.Test.YtfiaghfaijlfjaaGreatOpp
import Derived.Test.YtfiaghfaijlfjaaGreatTyped
import Derived.Test.YtfiaghfaijlfjaaGreatTyp2
namespace Go.Proofs.YtfiaghfaijlfjaaGreat
set_option maxRecDepth 100000
open Go.RowKit Go.Sort

/-- What Pack answers. -/
def packE (ys : List Ob) (most : Int) : Int := if 40 ≤ most ∧ most ≤ 512 ∧ AllOk ys then (if 1024 < ys.length then 2 else 0) else 1
def packB (ys : List Ob) (first most : Int) : List (Int × List Ob) := if packE ys most = 0 then packL most ys first else []
/-- A slice of batches that reads as bs. -/
def Bts (w : World) (v : Value) (bs : List (Int × List Ob)) : Prop :=
  (∃ a cap, v = .slice a 0 cap ∧ bs = []) ∨
  ∃ b off cap, v = .slice (some ⟨b, off, none⟩) bs.length cap ∧ ∀ i, i < bs.length → w.cell? ⟨b, off + i * 2, none⟩ = some (.int .i64 (bs.getD i zb).1) ∧ ∃ s, w.cell? ⟨b, off + i * 2 + 1, none⟩ = some s ∧ Os w s (bs.getD i zb).2
theorem Bts.below {w w' : World} {v : Value} {bs : List (Int × List Ob)} (h : Bts w v bs) (hb : Below w.heap.size w w') : Bts w' v bs := by
  rcases h with h | ⟨b, off, cap, h1, h2⟩
  · exact .inl h
  · refine .inr ⟨b, off, cap, h1, fun i hi => ?_⟩
    obtain ⟨k1, s, k2, k3⟩ := h2 i hi
    exact ⟨by rw [hb.cell (World.block_lt_of_cell? w _ k1)]; exact k1, s, by rw [hb.cell (World.block_lt_of_cell? w _ k2)]; exact k2, k3.below hb⟩
theorem Bts.form {w : World} {v : Value} {bs : List (Int × List Ob)} (h : Bts w v bs) : ∃ a c, v = .slice a bs.length c := by
  rcases h with ⟨a, cap, h1, rfl⟩ | ⟨b, off, cap, h1, _⟩
  · exact ⟨a, cap, h1⟩
  · exact ⟨_, _, h1⟩
theorem Bts.at {w : World} {a : Option Addr} {c : Nat} {bs : List (Int × List Ob)} (h : Bts w (.slice a bs.length c) bs) {i : Nat} (hi : i < bs.length) : ∃ b off, a = some ⟨b, off, none⟩ ∧ w.cell? ⟨b, off + i * 2, none⟩ = some (.int .i64 (bs.getD i zb).1) ∧ ∃ s, w.cell? ⟨b, off + i * 2 + 1, none⟩ = some s ∧ Os w s (bs.getD i zb).2 := by
  rcases h with ⟨a', cap, hv, rfl⟩ | ⟨b, off, cap, hv, h2⟩
  · simp at hi
  · simp only [Value.slice.injEq] at hv
    exact ⟨b, off, hv.1, h2 i hi⟩
end Go.Proofs.YtfiaghfaijlfjaaGreat

