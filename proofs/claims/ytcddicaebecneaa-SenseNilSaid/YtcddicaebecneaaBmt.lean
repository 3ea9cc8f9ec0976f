/- Mathematics of beacons: right ones are sorted; With and Without as filters. No conditions. -/
import Derived.Test.YtcddicaebecneaaBeq
namespace Go.Proofs.Ytcddicaebecneaa
set_option maxRecDepth 100000

theorem BeOk.mono {M : Int} {ys : List (Int × Int)} (h : BeOk M ys) {i j : Nat} (hij : i < j) (hj : j < ys.length) : (ys.getD i (0, 0)).1 < (ys.getD j (0, 0)).1 := by
  induction j with
  | zero => omega
  | succ j ih =>
    have h2 := (h.1 (j + 1) hj).2.1 (by omega)
    rw [Nat.add_sub_cancel] at h2
    by_cases e : i = j
    · subst e; exact h2
    · exact Int.lt_trans (ih (by omega) (by omega)) h2
end Go.Proofs.Ytcddicaebecneaa

