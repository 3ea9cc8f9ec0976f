/- The document's examples of layer 2: awake answers true. No conditions. -/
import Derived.Test.YtfdjaodnmjkpcaaByt
import Derived.Test.YtfdjaodnmjkpcaaLes
import Derived.Test.YtfdjaodnmjkpcaaPlain
namespace Go.Proofs.Ytfdjaodnmjkpcaa
open Go.RowKit Go.Sort

end Go.Proofs.Ytfdjaodnmjkpcaa
