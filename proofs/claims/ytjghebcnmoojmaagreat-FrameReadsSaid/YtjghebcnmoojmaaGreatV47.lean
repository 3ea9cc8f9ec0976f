/- Whether a part has something of other kinds than its own: -/
import Derived.Test.YtjghebcnmoojmaaGreatV43
import Derived.Test.YtjghebcnmoojmaaGreatV44
import Derived.Test.YtjghebcnmoojmaaGreatV45
import Derived.Test.YtjghebcnmoojmaaGreatV46
set_option maxRecDepth 100000
set_option maxHeartbeats 32000000
namespace Go.Proofs.YtjghebcnmoojmaaGreat
open Go.RowKit MX MR
theorem zly (r:RPt)(x1 y1 x2 y2 b3 b4 Q:Bool)(h1:(r.be !=0)=x1)(h2:((r.l1:Int) !=0)=y1)(h3:(r.bn !=0)=x2)(h4:((r.l2:Int) !=0)=y2)(h5:((r.l3:Int) !=0)=b3)(h6:(!eqK r.s r.d r.t r.n r.x 0 0 0 0 ⟨#[]⟩)=b4)
  (hQ:Q=true↔Imp9 (x1||y1) (r.k=1)∧Imp9 (x2||y2) (r.k=2)∧Imp9 b3 (r.k=3)∧Imp9 b4 (r.k=4)) (w:World):
  Calls Tryz.prog 64 #[.agg (xR r)] w fun e w'=>e=.returned (.bool Q)∧Below w.heap.size w w':=by
 cases x1 with
 | true=>
  cases x2 with
  | true=>exact zpm r b3 b4 Q h1 h3 h5 h6 hQ w
  | false=>exact zpg r y2 b3 b4 Q h1 h3 h4 h5 h6 hQ w
 | false=>
  cases x2 with
  | true=>exact zoV r y1 b3 b4 Q h1 h2 h3 h5 h6 hQ w
  | false=>exact zo5 r y1 y2 b3 b4 Q h1 h2 h3 h4 h5 h6 hQ w
end Go.Proofs.YtjghebcnmoojmaaGreat
