/- A whole row of structs behind a row of the call's own, at the level of the append's run; those below and above an id. No conditions but on lengths. -/
import Derived.Test.YtmimgpnogjgliaaOth
import Derived.Test.YtmimgpnogjgliaaBes
import Derived.Test.YtmimgpnogjgliaaTyp2
namespace Go.Proofs.Ytmimgpnogjgliaa
set_option maxRecDepth 100000
open Go.RowKit

section
variable (R : RowT)
theorem run_gapps2 (w : World) (ty : TypeId) (S : Nat) (v : Value) (xs : List R.α) (hown : w.ownsRow S R.T R.K v xs.length (gflat R xs)) (S' : Nat) (u : Value) (ys : List R.α) (hu : w.ownsRow S' R.T R.K u ys.length (gflat R ys)) (hl : xs.length + ys.length ≤ 3000) (hS : S ≤ w.heap.size) :
    ∃ r w', (Builtin.append_ #[R.SL, R.SL] ty #[v, u]).run Try.prog w = .ok r w' ∧ w'.ownsRow S R.T R.K r (xs ++ ys).length (gflat R (xs ++ ys)) ∧ w.grownBy w' v.ownBlock ∧ w'.ownsRow S R.T R.K v xs.length (gflat R xs) ∧
      ∀ a c, w.ownsRow S R.T R.K (.slice a (xs ++ ys).length c) (xs ++ ys).length (gflat R (xs ++ ys)) → w'.ownsRow S R.T R.K (.slice a (xs ++ ys).length c) (xs ++ ys).length (gflat R (xs ++ ys)) := by
  obtain ⟨i0, hi, hz0, hz1, hz2⟩ := info_parts R.hinfo
  have hzs := R.hz
  have hbb := R.hb
  have hpos := R.hK
  have e : gflat R (xs ++ ys) = gflat R xs ++ gflat R ys := gflat_app R xs ys
  have e2 : (xs ++ ys).length = xs.length + ys.length := by simp
  have hfl := gflat_len R xs
  have hfy := gflat_len R ys
  have hby : (xs.length + ys.length) * R.bytes ≤ 140737488355328 := Nat.le_trans (Nat.mul_le_mul hl hbb) (by decide)
  have same : ∀ row, w.grownBy w row := fun _ => ⟨rfl, rfl, rfl, Nat.le_refl _, fun _ _ _ => rfl⟩
  rcases hu.2 with ⟨rfl, h0⟩ | ⟨b, c, cur2, rfl, _, _, hyc, _⟩
  · have hy : ys = [] := List.length_eq_zero_iff.1 h0
    subst hy
    refine ⟨v, w, run_append_owned_none (P := Try.prog) (w := w) S R.SL ty R.T i0 R.K R.hSL hi v xs.length (gflat R xs) hown, ?_, same _, hown, fun _ _ h => h⟩
    rw [List.append_nil]; exact hown
  · have hnews : ∀ j q, (gflat R ys)[j]? = some q → w.cell? ((⟨b, 0, none⟩ : Addr).add j) = some q := fun j q hj => by
      have h1 := (List.getElem?_eq_some_iff.1 hj).1
      rw [hfy] at h1
      rw [add_spot', Nat.zero_add, gown_cell hu j h1]; exact hj
    have hone := gflat_ones R ys
    rw [e, e2]
    rcases hown.2 with ⟨rfl, h0⟩ | ⟨g, cap, cur, rfl, hg1, hg2, hrest⟩
    · obtain ⟨v', w', hr, h2, h3, _, _⟩ := run_append_own_at (P := Try.prog) w S R.SL ty R.T i0 R.zero R.K R.bytes R.hSL hi hz0 hz1 hz2 hzs hpos (.slice none 0 0) xs.length (gflat R xs) hown ⟨b, 0, none⟩ ys.length c (gflat R ys) hfy hnews hone (by unfold maxLen; omega) hby hS
      exact ⟨v', w', hr, h2, h3, ⟨hown.1, .inl ⟨rfl, h0⟩⟩, fun a c h => h.kept h3 (by cases hq : (Value.slice a (xs.length + ys.length) c).ownBlock with | none => exact .inl rfl | some b => exact .inr (fun e => by cases e))⟩
    · have hcsz : cur.size = cap * R.K := by
        obtain ⟨_, _, h, _⟩ := hrest
        exact h
      by_cases hroom : xs.length + ys.length ≤ cap
      · obtain ⟨w', hr, h2, h3⟩ := run_append_fits (P := Try.prog) w S R.SL ty R.T i0 R.K R.hSL hi hz1 g xs.length cap (gflat R xs) hown ⟨b, 0, none⟩ ys.length c (gflat R ys) hfy hnews hone hroom
        refine ⟨_, w', hr, h2, h3, gown_prefix h2 hfl, fun a c h => ?_⟩
        rcases h.2 with ⟨h5, h6⟩ | ⟨g', cap', cur', h5, h6, h7, h8, h9, h10, h11⟩
        · exact ⟨h.1, .inl ⟨h5, h6⟩⟩
        · simp only [Value.slice.injEq] at h5
          obtain ⟨rfl, _, rfl⟩ := h5
          by_cases hgg : g' = g
          · subst hgg
            rw [hg2] at h7
            simp only [Option.some.injEq, Obj.cells.injEq] at h7
            obtain ⟨rfl, _⟩ := h7
            have h12 : c = cap := Nat.eq_of_mul_eq_mul_right hpos (h10.symm.trans hcsz)
            subst h12
            exact h2
          · exact h.kept h3 (.inr (by simpa [Value.ownBlock] using hgg))
      · obtain ⟨v', w', hr, h2, h3⟩ := run_append_arg_grows (P := Try.prog) w R.SL ty R.T i0 R.zero R.K R.bytes R.hSL hi hz0 hz1 hz2 hzs hpos ⟨g, 0, none⟩ xs.length cap (gflat R xs) hfl (hown.cells rfl) ⟨b, 0, none⟩ ys.length c (gflat R ys) hfy hnews (by omega) (by unfold maxLen; omega) hby
        exact ⟨v', w', hr, gown_mono h2 hS, ⟨h3.os, h3.tape, h3.output, h3.size, fun k hk _ => h3.block k hk (by simp)⟩, hown.kept h3 (.inr (by simp [Value.ownBlock])), fun a c h => h.kept h3 (by cases hq : (Value.slice a (xs.length + ys.length) c).ownBlock with | none => exact .inl rfl | some b => exact .inr (fun e => by cases e))⟩
end

end Go.Proofs.Ytmimgpnogjgliaa

