/- What each function answers of a beacon, in one form; the document's example. No conditions but on lengths. -/
import Derived.Test.YtcddicaebecneaaWit
import Derived.Test.YtcddicaebecneaaGsp
import Derived.Test.YtcddicaebecneaaByr
import Derived.Test.YtcddicaebecneaaFrm
import Derived.Test.YtcddicaebecneaaLev
import Derived.Test.YtcddicaebecneaaByt
import Derived.Test.YtcddicaebecneaaBeq
import Derived.Test.YtcddicaebecneaaRead
import Derived.Test.YtcddicaebecneaaTyped
import Derived.Test.YtcddicaebecneaaTyp2
import Derived.Test.YtcddicaebecneaaTyp4
import Derived.Test.YtcddicaebecneaaZba
import Derived.Test.YtcddicaebecneaaRint
namespace Go.Proofs.Ytcddicaebecneaa
set_option maxRecDepth 100000
open Go.RowKit

def WiOk (M : Int) (ys : List (Int × Int)) (id ep : Int) : Prop := BeOk M ys ∧ BeOk M (winF ys id ep)
instance (M : Int) (ys : List (Int × Int)) (id ep : Int) : Decidable (WiOk M ys id ep) := by unfold WiOk; infer_instance
theorem rsame_true (M : Int) (v u : Value) (ys : List (Int × Int)) (w : World) (hy : Es w v ys) (hz : Es w u ys) (hl : ys.length ≤ 3000) :
    Calls Try.prog 18 #[.agg #[.int .i64 M, v], .agg #[.int .i64 M, u]] w fun e w' => e = .returned (.bool true) ∧ Below w.heap.size w w' :=
  (rsame_any M M v u ys ys w hy hz hl).mono fun e w' ⟨⟨b, h1, h2⟩, h3⟩ => ⟨by rw [h1, h2.2 ⟨rfl, rfl⟩], h3⟩
end Go.Proofs.Ytcddicaebecneaa

