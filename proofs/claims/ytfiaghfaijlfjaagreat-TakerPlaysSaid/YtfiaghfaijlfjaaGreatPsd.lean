/- What parsing a height answers, and how a height lies in memory while it is parsed. No conditions. -/
import Derived.Test.YtfiaghfaijlfjaaGreatRdr
namespace Go.Proofs.YtfiaghfaijlfjaaGreat
set_option maxRecDepth 100000
open Go.RowKit Go.Sort

theorem Own6.set {w : World} {g : Nat} {m : Bool} {x1 x2 x3 x4 x5 : Int} (h : Own6 w g m x1 x2 x3 x4 x5) (n : Bool) (t o r d i : Int) : Own6 ((((((w.setCell ⟨g, 0, none⟩ (.bool n)).setCell ⟨g, 1, none⟩ (.int .i64 t)).setCell ⟨g, 2, none⟩ (.int .i64 o)).setCell ⟨g, 3, none⟩ (.int .i64 r)).setCell ⟨g, 4, none⟩ (.int .i64 d)).setCell ⟨g, 5, none⟩ (.int .i64 i)) g n t o r d i :=
  ⟨set6 h.1 n t o r d i, fun k => by simp [go_sem, h.2]⟩
end Go.Proofs.YtfiaghfaijlfjaaGreat

