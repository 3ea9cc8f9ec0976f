/- Objects as arguments: what their values are. No conditions. -/
import Derived.Test.YtmimgpnogjgliaaFrm
namespace Go.Proofs.Ytmimgpnogjgliaa
set_option maxRecDepth 100000
open Go.RowKit Go.WideShapes Go.ChangeShapes

theorem part_form {H : Type} {enc : TypeId × Value → H} {P : Program} {w : World} {base n : Nat} {spare : Nat → Bool} {held : Bool} {fs : Array Field} {cs : List Value} {xs : List (DataW H × List MemPlace)} (hl : xs.length = fs.size)
    (h : ∀ (i : Nat) (f : Field), fs[i]? = some f → DataW.trod enc P w base spare held n f.type ((cs.drop f.offset).take (P.cellsOf f.type)) = xs[i]?)
    {j T O K : Nat} (hf : (fs[j]?).map (fun f => (f.type, f.offset)) = some (T, O)) (hc : P.cellsOf T = K) : ∃ y, DataW.trod enc P w base spare held n T ((cs.drop O).take K) = some y := by
  cases hg : fs[j]? with
  | none => rw [hg] at hf; cases hf
  | some f =>
    rw [hg] at hf
    simp only [Option.map_some, Option.some.injEq, Prod.mk.injEq] at hf
    have h1 := h j f hg
    rw [hf.1, hf.2, hc] at h1
    have hj : j < xs.length := by rw [hl]; exact (Array.getElem?_eq_some_iff.1 hg).1
    rw [List.getElem?_eq_getElem hj] at h1
    exact ⟨_, h1⟩
end Go.Proofs.Ytmimgpnogjgliaa

