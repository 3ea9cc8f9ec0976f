/- The document's example of a batch: awake answers true. Facts for the laws. No conditions but on lengths. -/
import Derived.Test.YtfdjaodnmjkpcaaBby
import Derived.Test.YtfdjaodnmjkpcaaBpg
import Derived.Test.YtfdjaodnmjkpcaaOpt
import Derived.Test.YtfdjaodnmjkpcaaObf
import Derived.Test.YtfdjaodnmjkpcaaAwake
namespace Go.Proofs.Ytfdjaodnmjkpcaa
set_option maxRecDepth 100000
open Go.RowKit Go.Sort

def o5 : Ob := ⟨1, 5, false, 0, 0, 0, 0, 0, 0, 0, 0, 0⟩
def o6 : Ob := ⟨1, 6, false, 0, 0, 0, 0, 0, 0, 0, 0, 0⟩
theorem lit56 (w : World) (g : Nat) (hg : g = w.heap.size) : Os (w.alloc (.cells #[.int .i64 1, .int .i64 5, .bool false, .int .i64 0, .int .i64 0, .int .i64 0, .int .i64 0, .int .i64 0, .int .i64 0, .int .i64 0, .int .i64 0, .int .i64 0, .int .i64 1, .int .i64 6, .bool false, .int .i64 0, .int .i64 0, .int .i64 0, .int .i64 0, .int .i64 0, .int .i64 0, .int .i64 0, .int .i64 0, .int .i64 0] 52)) (.slice (some ⟨g, 0, none⟩) 2 2) [o5, o6] := by
  subst hg
  refine .inr ⟨w.heap.size, 0, 2, rfl, Nat.le_refl _, by simp, fun i hi j hj => ?_⟩
  rw [cell_of_row _ _ _ _ _ _ (heap_alloc_new w _)]
  have h1 : i = 0 ∨ i = 1 := by simp at hi; omega
  have h2 : j = 0 ∨ j = 1 ∨ j = 2 ∨ j = 3 ∨ j = 4 ∨ j = 5 ∨ j = 6 ∨ j = 7 ∨ j = 8 ∨ j = 9 ∨ j = 10 ∨ j = 11 := by omega
  rcases h1 with rfl | rfl <;> rcases h2 with rfl | rfl | rfl | rfl | rfl | rfl | rfl | rfl | rfl | rfl | rfl | rfl <;> rfl
theorem bt56 : BtOk 7 [o5, o6] := by decide
theorem bytes56 : btB 7 [o5, o6] = [0, 7, 2, 1, 5, 1, 6] := by decide
set_option maxHeartbeats 4000000 in
theorem bawake_any (w : World) : Calls Try.prog 11 #[] w fun e w' => e = .returned (.bool true) ∧ Below w.heap.size w w' := by
  have cA : ∀ w v, Os w v [o5, o6] → Calls Try.prog 9 #[.agg #[.int .i64 7, v]] w (RetB [0, 7, 2, 1, 5, 1, 6] 0 w) := fun w v h => by
    have hb := pbytes_ok 7 v [o5, o6] w h bt56
    rwa [bytes56] at hb
  go_enter Try.func11, Try.ntmps11
  go_wp2_with fail
  refine (cA _ _ (lit56 w _ rfl)).mono ?_
  rintro e w1 ⟨r1, rfl, hr1, hb1⟩
  have hc1 : (convert 26 9 r1).run Try.prog w1 = .ok (.string { data := #[0, 7, 2, 1, 5, 1, 6] }) w1 := Bs_conv hr1
  have H1 : Hid (Below w.heap.size w w1) := ((Below.refl _ w).alloc (Nat.le_refl _) _).trans (hb1.mono (by simp))
  clear hr1 hb1 cA
  go_wp2_with fail
  go_ret
  exact ⟨rfl, H1.out⟩
theorem same_true (v u : Value) (ys : List Ob) (w : World) (hy : Os w v ys) (hz : Os w u ys) (hl : ys.length ≤ 3000) :
    Calls Try.prog 14 #[v, u] w fun e w' => e = .returned (.bool true) ∧ Below w.heap.size w w' := same_fix v u ys ys true (by simp) w hy hz hl
theorem bsame_true (v u : Value) (xs : List (Int × List Ob)) (w : World) (hx : Bts w v xs) (hz : Bts w u xs) (hl : xs.length ≤ 3000) (hin : ∀ i, i < xs.length → (xs.getD i zb).2.length ≤ 3000) :
    Calls Try.prog 17 #[v, u] w fun e w' => e = .returned (.bool true) ∧ Below w.heap.size w w' :=
  (bsame_any v u xs xs w hx hz hl hin).mono fun e w' ⟨⟨b, h1, h2⟩, h3⟩ => ⟨by rw [h1, h2.2 rfl], h3⟩
theorem packE_ok {ys : List Ob} {most : Int} (h : packE ys most = 0) : 40 ≤ most ∧ most ≤ 512 ∧ AllOk ys ∧ ys.length ≤ 1024 := by
  unfold packE at h
  by_cases h1 : 40 ≤ most ∧ most ≤ 512 ∧ AllOk ys
  · rw [if_pos h1] at h
    by_cases h2 : 1024 < ys.length
    · rw [if_pos h2] at h; omega
    · exact ⟨h1.1, h1.2.1, h1.2.2, by omega⟩
  · rw [if_neg h1] at h; omega
theorem packB_len (ys : List Ob) (first most : Int) : (packB ys first most).length ≤ ys.length := by
  unfold packB
  by_cases h : packE ys most = 0
  · rw [if_pos h]; exact packL_le most ys first
  · rw [if_neg h]; simp
theorem packB_in (ys : List Ob) (first most : Int) (i : Nat) (hi : i < (packB ys first most).length) : ((packB ys first most).getD i zb).2.length ≤ 3000 := by
  unfold packB at hi ⊢
  by_cases h : packE ys most = 0
  · rw [if_pos h] at hi ⊢
    obtain ⟨h1, h2, h3, _⟩ := packE_ok h
    have := (packL_ok h3 ⟨h1, h2⟩ first i hi).1.2.1.2
    omega
  · rw [if_neg h] at hi; simp at hi
#print axioms bawake_any
end Go.Proofs.Ytfdjaodnmjkpcaa
