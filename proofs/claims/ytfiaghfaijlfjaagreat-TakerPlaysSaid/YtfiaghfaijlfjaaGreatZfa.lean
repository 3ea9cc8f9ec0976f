/- Next, Far, Less, Within: the program's and the reference's. No conditions. -/
import Derived.Test.YtfiaghfaijlfjaaGreatZba
namespace Go.Proofs.YtfiaghfaijlfjaaGreat
set_option maxRecDepth 100000
open Go.RowKit

def far (a b : Int) : Int := (b - a) % 65536
def z_nxt (a : Int) : Int := (a + 1) % 65536
def withB (a f s : Int) : Bool := decide (far f a < s)
theorem far_bd (a b : Int) : 0 ≤ far a b ∧ far a b < 65536 := by unfold far; omega
theorem nxt_bd (a : Int) : 0 ≤ z_nxt a ∧ z_nxt a < 65536 := by unfold z_nxt; omega
theorem z_next_any (a : Int) (w : World) : Calls Tryz.prog 52 #[.int .i64 a] w fun e w' => e = .returned (.int .i64 (z_nxt a)) ∧ Below w.heap.size w w' := by
  go_enter Tryz.func52, Tryz.ntmps52
  go_wp2_with (go_at_call 60; refine (and_any 1 _ [a] _ (by omega) (by omega) (is_lit w [a] 3 _ 1 rfl rfl (by simp) _ rfl)).mono ?_; rintro e w' ⟨rfl, rfl⟩)
  go_ret
  exact ⟨z_ret_int (by simp [z_nxt]; omega), (Below.refl _ w).alloc (Nat.le_refl _) _⟩
theorem far_any (a b : Int) (w : World) : Calls Tryz.prog 45 #[.int .i64 a, .int .i64 b] w fun e w' => e = .returned (.int .i64 (far a b)) ∧ Below w.heap.size w w' := by
  go_enter Tryz.func45, Tryz.ntmps45
  go_wp2_with (go_at_call 60; refine (and_any 0 _ [b, wrap64 (-a)] _ (by omega) (by omega) (is_lit w [b, wrap64 (-a)] 3 _ 2 rfl rfl (by simp) _ rfl)).mono ?_; rintro e w' ⟨rfl, rfl⟩)
  go_ret
  exact ⟨z_ret_int (by unfold far wrap64; omega), (Below.refl _ w).alloc (Nat.le_refl _) _⟩
theorem within_any (a f s : Int) (w : World) : Calls Tryz.prog 40 #[.int .i64 a, .int .i64 f, .int .i64 s] w fun e w' => e = .returned (.bool (withB a f s)) ∧ Below w.heap.size w w' := by
  unfold withB
  generalize hc : far f a = c
  have HC := Lib.hid hc
  clear hc
  go_enter Tryz.func40, Tryz.ntmps40
  go_wp2_with (go_at_call 45; refine (far_any f a _).mono ?_; rintro e w' ⟨rfl, hb⟩; rw [HC.out])
  go_ret
  exact ⟨rfl, hb⟩
def left (a : Int) : Int := a % 65536
theorem z_left_any (a : Int) (w : World) : Calls Tryz.prog 54 #[.int .i64 a] w fun e w' => e = .returned (.int .i64 (left a)) ∧ w = w' := by
  have h1 : -65536 < a.tmod 65536 ∧ a.tmod 65536 < 65536 := by
    rcases Int.lt_or_le a 0 with h | h
    · have := Int.neg_tmod (-a) 65536
      have h2 := Int.tmod_eq_emod_of_nonneg (a := -a) (b := 65536) (by omega)
      rw [Int.neg_neg] at this
      omega
    · rw [Int.tmod_eq_emod_of_nonneg h]; omega
  have h2 : left a = if a.tmod 65536 < 0 then a.tmod 65536 + 65536 else a.tmod 65536 := by
    have h3 := Int.mul_tdiv_add_tmod a 65536
    unfold left
    generalize a.tmod 65536 = m at *
    generalize a.tdiv 65536 = q at *
    split <;> omega
  rw [h2]
  clear h2
  by_cases hm : a.tmod 65536 < 0
  · rw [if_pos hm]
    go_enter Tryz.func54, Tryz.ntmps54
    go_wp2
    go_ret
    exact ⟨rfl, rfl⟩
  · rw [if_neg hm]
    have hm' : decide (a.tmod 65536 < 0) = false := decide_eq_false hm
    go_enter Tryz.func54, Tryz.ntmps54
    go_wp2
    go_ret
    exact ⟨rfl, rfl⟩
theorem left_bd (a : Int) : 0 ≤ left a ∧ left a < 65536 := by unfold left; omega
theorem rnext_any (a : Int) (w : World) : Calls Tryz.prog 30 #[.int .i64 a] w fun e w' => e = .returned (.int .i64 (z_nxt a)) ∧ w = w' := by
  have h2 : (left a + 1).tmod 65536 = z_nxt a := by
    have := left_bd a
    rw [Int.tmod_eq_emod_of_nonneg (by omega)]
    unfold left z_nxt; omega
  have hb := left_bd a
  have h3 : wrap64 (left a + 1) = left a + 1 := by unfold wrap64; omega
  have h4 := nxt_bd a
  go_enter Tryz.func30, Tryz.ntmps30
  go_wp2_with (go_at_call 54; refine (z_left_any a _).mono ?_; rintro e w' ⟨rfl, rfl⟩)
  go_ret
  exact ⟨z_ret_int (by first | assumption | (unfold wrap64; omega) | omega), rfl⟩
theorem left_far (a b : Int) : left (left b - left a) = far a b := by unfold left far; omega
theorem rfar_any (a b : Int) (w : World) : Calls Tryz.prog 28 #[.int .i64 a, .int .i64 b] w fun e w' => e = .returned (.int .i64 (far a b)) ∧ w = w' := by
  have ha := left_bd a
  have hb := left_bd b
  go_enter Tryz.func28, Tryz.ntmps28
  go_wp2_with (go_at_call 54; refine (z_left_any _ _).mono ?_; rintro e w' ⟨rfl, rfl⟩)
  go_ret
  exact ⟨z_ret_int (by first | exact left_far a b | (rw [← left_far]; congr 1; unfold wrap64; omega)), rfl⟩
end Go.Proofs.YtfiaghfaijlfjaaGreat

