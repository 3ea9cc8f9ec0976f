/- The document's examples of objects: awake answers true. No conditions. -/
import Derived.Test.YthfbahpnjbngiaaObb
import Derived.Test.YthfbahpnjbngiaaAwake
namespace Go.Proofs.Ythfbahpnjbngiaa
open Go.RowKit Go.Sort

set_option maxHeartbeats 4000000 in
theorem oawake_any (w : World) : Calls Try.prog 15 #[] w fun e w' => e = .returned (.bool true) ∧ Below w.heap.size w w' := by
  have cA : ∀ w, Calls Try.prog 13 #[.agg #[.int .i64 1, .int .i64 5, .bool false, .int .i64 0, .int .i64 0, .int .i64 0, .int .i64 0, .int .i64 0, .int .i64 0, .int .i64 0, .int .i64 0, .int .i64 0]] w (RetB [1, 5] 0 w) := fun w => obytes_1 5 false 0 0 0 0 0 0 0 0 0 w (by decide)
  have cB : ∀ w, Calls Try.prog 13 #[.agg #[.int .i64 2, .int .i64 5, .bool true, .int .i64 0, .int .i64 0, .int .i64 0, .int .i64 0, .int .i64 2, .int .i64 0, .int .i64 0, .int .i64 0, .int .i64 0]] w (RetB [2, 5, 0, 2] 0 w) := fun w => obytes_2 5 true 0 0 0 0 2 0 0 0 0 w (by decide)
  go_enter Try.func15, Try.ntmps15
  go_wp2_with fail
  refine (cA _).mono ?_
  rintro e w1 ⟨r1, rfl, hr1, hb1⟩
  have R1 : Hid (Bs w1 r1 [1, 5]) := hr1
  have H1 : Hid (Below w.heap.size w w1) := hb1
  clear hr1 hb1 cA
  go_wp2_with fail
  refine (cB _).mono ?_
  rintro e w2 ⟨r2, rfl, hr2, hb2⟩
  have hc1 : (convert 24 9 r1).run Try.prog w2 = .ok (.string { data := #[1, 5] }) w2 := Bs_conv (Bs_below R1.out hb2)
  have hc2 : (convert 24 9 r2).run Try.prog w2 = .ok (.string { data := #[2, 5, 0, 2] }) w2 := Bs_conv hr2
  have H2 : Hid (Below w.heap.size w w2) := H1.out.trans (hb2.mono H1.out.size)
  clear hr2 hb2 cB
  go_wp2_with fail
  go_ret
  exact ⟨rfl, H2.out⟩
#print axioms oawake_any
end Go.Proofs.Ythfbahpnjbngiaa
