/- One more step of a typed walk: what hangs on something that was shut out itself. No conditions. -/
import Derived.Test.YtmimgpnogjgliaaTyped
namespace Go.Proofs.Ytmimgpnogjgliaa
set_option maxRecDepth 100000
variable {P : Program} {ops : Array Oper} {C : World → Prop} {X : World → World → Prop} {a0 : Act}
theorem w_skipU {o : Oper} {rest : List Oper} {E : Tmp → Option Ty} {K : (Tmp → Option Ty) → Prop} {g : Nat} {d : Tmp} {want : Bool} (h1 : o.guard = some (g, want)) (h2 : (ops[g]?).bind (·.dst) = some d) (h3 : Known E a0 d undef)
    (hw : WalkT P ops C X a0 rest (push o (Is undef) E) K) : WalkT P ops C X a0 (o :: rest) E K :=
  ⟨Is undef, fun _ _ _ h _ => h, fun a w hC hf => by
    have hv := h3 a w (hf d (by simp [Oper.looksAt, h1, h2]))
    have hy : yielded ops a.tmps g = none := by
      unfold yielded
      rw [h2]
      simp only [Act.eval] at hv
      rcases Nat.lt_or_ge d a.tmps.size with h | h
      · simp [h] at hv
        simp [h, hv, undef]
      · simp [Array.getElem?_eq_none h]
    rw [if_neg (by simp [Region.wanted, h1, hy])]
    rfl, hw⟩
end Go.Proofs.Ytmimgpnogjgliaa

