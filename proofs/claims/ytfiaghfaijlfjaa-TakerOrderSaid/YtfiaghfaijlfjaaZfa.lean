/- Next, Far, Less, Within: the program's and the reference's. No conditions. -/
import Derived.Test.YtfiaghfaijlfjaaZba
namespace Go.Proofs.Ytfiaghfaijlfjaa
set_option maxRecDepth 100000
open Go.RowKit

def far (a b : Int) : Int := (b - a) % 65536
def z_nxt (a : Int) : Int := (a + 1) % 65536
theorem z_next_any (a : Int) (w : World) : Calls Try.prog 29 #[.int .i64 a] w fun e w' => e = .returned (.int .i64 (z_nxt a)) ∧ Below w.heap.size w w' := by
  go_enter Try.func29, Try.ntmps29
  go_wp2_with (go_at_call 34; refine (and_any 1 _ [a] _ (by omega) (by omega) (is_lit w [a] 3 _ 1 rfl rfl (by simp) _ rfl)).mono ?_; rintro e w' ⟨rfl, rfl⟩)
  go_ret
  exact ⟨z_ret_int (by simp [z_nxt]; omega), (Below.refl _ w).alloc (Nat.le_refl _) _⟩
theorem far_any (a b : Int) (w : World) : Calls Try.prog 26 #[.int .i64 a, .int .i64 b] w fun e w' => e = .returned (.int .i64 (far a b)) ∧ Below w.heap.size w w' := by
  go_enter Try.func26, Try.ntmps26
  go_wp2_with (go_at_call 34; refine (and_any 0 _ [b, wrap64 (-a)] _ (by omega) (by omega) (is_lit w [b, wrap64 (-a)] 3 _ 2 rfl rfl (by simp) _ rfl)).mono ?_; rintro e w' ⟨rfl, rfl⟩)
  go_ret
  exact ⟨z_ret_int (by unfold far wrap64; omega), (Below.refl _ w).alloc (Nat.le_refl _) _⟩
def left (a : Int) : Int := a % 65536
end Go.Proofs.Ytfiaghfaijlfjaa

