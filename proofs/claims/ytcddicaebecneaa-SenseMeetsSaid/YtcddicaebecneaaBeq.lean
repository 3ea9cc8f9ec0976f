/- Beacons with an echo: the reference's With. No conditions but on lengths. -/
import Derived.Test.YtcddicaebecneaaBew
import Derived.Deep.Cut
namespace Go.Proofs.Ytcddicaebecneaa
set_option maxRecDepth 100000
open Go.RowKit

/-- What the reference's loop holds after k rounds: the echoes, whether the new one stands. -/
def wkF (ys : List (Int × Int)) (id ep : Int) : Nat → List (Int × Int) × Bool
  | 0 => ([], false)
  | k + 1 =>
    let r := wkF ys id ep k
    let y := ys.getD k (0, 0)
    let hit := !r.2 && decide (id ≤ y.1)
    ((r.1 ++ (if hit then [(id, ep)] else [])) ++ (if y.1 ≠ id then [y] else []), r.2 || hit)
/-- The echoes, and a new one. -/
def winF (ys : List (Int × Int)) (id ep : Int) : List (Int × Int) :=
  (wkF ys id ep ys.length).1 ++ (if (wkF ys id ep ys.length).2 then [] else [(id, ep)])
variable {ys : List (Int × Int)} {id ep : Int} {k : Nat}
end Go.Proofs.Ytcddicaebecneaa

