/- The echoes of others: the program's others. No conditions but on lengths. -/
import Derived.Test.YtmimgpnogjgliaaHeq
import Derived.Test.YtmimgpnogjgliaaGrw
import Derived.Test.YtmimgpnogjgliaaPut
import Derived.Test.YtmimgpnogjgliaaFrm
import Derived.Test.YtmimgpnogjgliaaBes
import Derived.Test.YtmimgpnogjgliaaTyp2
import Derived.Test.YtmimgpnogjgliaaRfn
namespace Go.Proofs.Ytmimgpnogjgliaa
set_option maxRecDepth 100000
open Go.RowKit
attribute [local go_sem] Oper.semAt_some

section
variable (R : RowT)
/-- One element more: the row is the elder one's block, or a new one. -/
theorem run_gapp2 (w : World) (ty : TypeId) (S : Nat) (v : Value) (xs : List R.α) (hown : w.ownsRow S R.T R.K v xs.length (gflat R xs)) (b : Nat) (y : R.α) (hy : GC R w b 0 y) (hl : xs.length ≤ 3000) (hS : S ≤ w.heap.size) :
    ∃ g cap w', (Builtin.append_ #[R.SL, R.SL] ty #[v, .slice (some ⟨b, 0, none⟩) 1 1]).run Try.prog w = .ok (.slice (some ⟨g, 0, none⟩) (xs.length + 1) cap) w' ∧ w'.ownsRow S R.T R.K (.slice (some ⟨g, 0, none⟩) (xs.length + 1) cap) (xs ++ [y]).length (gflat R (xs ++ [y])) ∧ w.grownBy w' v.ownBlock ∧ (v.ownBlock = some g ∨ w.heap.size ≤ g) := by
  obtain ⟨i0, hi, hz0, hz1, hz2⟩ := info_parts R.hinfo
  have hzs := R.hz
  have hbb := R.hb
  have hpos := R.hK
  have e : gflat R (xs ++ [y]) = gflat R xs ++ R.cl y := by rw [gflat_app, gflat_one]
  have e2 : (xs ++ [y]).length = xs.length + 1 := by simp
  have hnews : ∀ j u, (R.cl y)[j]? = some u → w.cell? ((⟨b, 0, none⟩ : Addr).add j) = some u := fun j u hj => by
    have := (List.getElem?_eq_some_iff.1 hj).1
    rw [R.hcl] at this
    rw [add_spot', hy j this]; exact hj
  have hone : ∀ u ∈ R.cl y, u.oneCell' = true := R.hone y
  have hfl := gflat_len R xs
  have hcl1 : (R.cl y).length = 1 * R.K := by rw [R.hcl, Nat.one_mul]
  have hby : (xs.length + 1) * R.bytes ≤ 140737488355328 := Nat.le_trans (Nat.mul_le_mul (show xs.length + 1 ≤ 3001 by omega) hbb) (by decide)
  have new : ∀ {w' : World} {v' : Value} {n : Nat} {zs : List Value}, w'.ownsRow w.heap.size R.T R.K v' (n + 1) zs → ∃ g cap, v' = .slice (some ⟨g, 0, none⟩) (n + 1) cap ∧ w.heap.size ≤ g := fun h => by
    rcases h.2 with ⟨_, h0⟩ | ⟨g, cap, _, rfl, hg, _⟩
    · omega
    · exact ⟨g, cap, rfl, hg⟩
  rw [e, e2]
  rcases hown.2 with ⟨rfl, h0⟩ | ⟨g, cap, cur, rfl, hg1, hg2, _⟩
  · obtain ⟨v', w', hr, h2, h3, _, _⟩ := run_append_own_at (P := Try.prog) w w.heap.size R.SL ty R.T i0 R.zero R.K R.bytes R.hSL hi hz0 hz1 hz2 hzs hpos (.slice none 0 0) xs.length (gflat R xs) ⟨hown.1, .inl ⟨rfl, h0⟩⟩ ⟨b, 0, none⟩ 1 1 (R.cl y) hcl1 hnews hone (by unfold maxLen; omega) hby (Nat.le_refl _)
    obtain ⟨g, cap, rfl, hg⟩ := new h2
    exact ⟨g, cap, w', hr, gown_mono h2 hS, h3, .inr hg⟩
  · by_cases hroom : xs.length + 1 ≤ cap
    · obtain ⟨w', hr, h2, h3⟩ := run_append_fits (P := Try.prog) w S R.SL ty R.T i0 R.K R.hSL hi hz1 g xs.length cap (gflat R xs) hown ⟨b, 0, none⟩ 1 1 (R.cl y) hcl1 hnews hone hroom
      exact ⟨g, cap, w', hr, h2, h3, .inl rfl⟩
    · obtain ⟨v', w', hr, h2, h3⟩ := run_append_arg_grows (P := Try.prog) w R.SL ty R.T i0 R.zero R.K R.bytes R.hSL hi hz0 hz1 hz2 hzs hpos ⟨g, 0, none⟩ xs.length cap (gflat R xs) hfl (hown.cells rfl) ⟨b, 0, none⟩ 1 1 (R.cl y) hcl1 hnews (by omega) (by unfold maxLen; omega) hby
      obtain ⟨g', cap', rfl, hg⟩ := new h2
      exact ⟨g', cap', w', hr, gown_mono h2 hS, ⟨h3.os, h3.tape, h3.output, h3.size, fun k hk _ => h3.block k hk (by simp)⟩, .inr hg⟩
end

end Go.Proofs.Ytmimgpnogjgliaa

