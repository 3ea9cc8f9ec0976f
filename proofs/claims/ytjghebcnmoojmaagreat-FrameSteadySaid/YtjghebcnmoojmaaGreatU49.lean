/- Whether a part has something of other kinds than its own: the program's areOthersNoughts. No conditions. -/
import Derived.Test.YtjghebcnmoojmaaGreatU45
import Derived.Test.YtjghebcnmoojmaaGreatU46
import Derived.Test.YtjghebcnmoojmaaGreatU47
import Derived.Test.YtjghebcnmoojmaaGreatU48
namespace Go.Proofs.YtjghebcnmoojmaaGreat
set_option maxRecDepth 100000
open Go.RowKit
theorem goth_fix (r : RPt) (x1 y1 x2 y2 b3 b4 Q : Bool) (h1 : (r.be != 0) = x1) (h2 : ((r.l1 : Int) != 0) = y1) (h3 : (r.bn != 0) = x2) (h4 : ((r.l2 : Int) != 0) = y2) (h5 : ((r.l3 : Int) != 0) = b3) (h6 : (!eqK r.s r.d r.t r.n r.x 0 0 0 0 ⟨#[]⟩) = b4)
  (hQ : Q = true ↔ Imp9 (x1 || y1) (r.k = 1) ∧ Imp9 (x2 || y2) (r.k = 2) ∧ Imp9 b3 (r.k = 3) ∧ Imp9 b4 (r.k = 4)) (w : World) :
  Calls Tryz.prog 64 #[.agg #[.int .i64 r.k, .int .i64 r.be, .slice r.a1 r.l1 r.c1, .int .i64 r.bn, .slice r.a2 r.l2 r.c2, .slice r.a3 r.l3 r.c3, .int .i64 r.s, .int .i64 r.d, .int .i64 r.t, .int .i64 r.n, .string r.x]] w fun e w' => e = .returned (.bool Q) ∧ Below w.heap.size w w' := by
 cases x1 with
 | true =>
  cases x2 with
  | true => exact goth_0 r b3 b4 Q h1 h3 h5 h6 hQ w
  | false => exact goth_1 r y2 b3 b4 Q h1 h3 h4 h5 h6 hQ w
 | false =>
  cases x2 with
  | true => exact goth_2 r y1 b3 b4 Q h1 h2 h3 h5 h6 hQ w
  | false => exact goth_3 r y1 y2 b3 b4 Q h1 h2 h3 h4 h5 h6 hQ w
end Go.Proofs.YtjghebcnmoojmaaGreat
