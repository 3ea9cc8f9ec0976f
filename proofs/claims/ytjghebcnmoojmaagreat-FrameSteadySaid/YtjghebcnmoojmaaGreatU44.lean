/- Whether a part has something of other kinds than its own: the program's areOthersNoughts. No conditions. -/
import Derived.Test.YtjghebcnmoojmaaGreatU34
import Derived.Test.YtjghebcnmoojmaaGreatU35
import Derived.BigRegion
namespace Go.Proofs.YtjghebcnmoojmaaGreat
set_option maxRecDepth 100000
open Go.RowKit

def Imp9 (b : Bool) (P : Prop) : Prop := b = true → P
theorem idx5_0 (b1 b2 b3 b4 : Bool) (w : World) : (Instr.index 129 (.agg #[.bool false, .bool b1, .bool b2, .bool b3, .bool b4]) (.int .i64 0)).run Tryz.prog w = .ok (.bool false) w := by kernel_rfl
theorem idx5_1 (b1 b2 b3 b4 : Bool) (w : World) : (Instr.index 129 (.agg #[.bool false, .bool b1, .bool b2, .bool b3, .bool b4]) (.int .i64 1)).run Tryz.prog w = .ok (.bool b1) w := by kernel_rfl
theorem idx5_2 (b1 b2 b3 b4 : Bool) (w : World) : (Instr.index 129 (.agg #[.bool false, .bool b1, .bool b2, .bool b3, .bool b4]) (.int .i64 2)).run Tryz.prog w = .ok (.bool b2) w := by kernel_rfl
theorem idx5_3 (b1 b2 b3 b4 : Bool) (w : World) : (Instr.index 129 (.agg #[.bool false, .bool b1, .bool b2, .bool b3, .bool b4]) (.int .i64 3)).run Tryz.prog w = .ok (.bool b3) w := by kernel_rfl
theorem idx5_4 (b1 b2 b3 b4 : Bool) (w : World) : (Instr.index 129 (.agg #[.bool false, .bool b1, .bool b2, .bool b3, .bool b4]) (.int .i64 4)).run Tryz.prog w = .ok (.bool b4) w := by kernel_rfl
end Go.Proofs.YtjghebcnmoojmaaGreat
