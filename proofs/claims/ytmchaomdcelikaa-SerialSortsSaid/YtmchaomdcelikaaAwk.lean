/- The chapter's examples. No conditions. -/
import Derived.Test.YtmchaomdcelikaaSor
namespace Go.Proofs.Ytmchaomdcelikaa
open Go.RowKit Go.Sort

theorem ex1 : nxt 65535 = 0 := by decide
theorem ex2 : far 65535 2 = 3 := by decide
theorem ex3 : lessB 65535 2 = true := by decide
theorem ex4 : lessB 2 65535 = false := by decide

theorem lit4 (w : World) (a b c d : Int) : Zs (w.alloc (.cells #[.int .i64 a, .int .i64 b, .int .i64 c, .int .i64 d] 3)) (.slice (some ⟨w.heap.size, 0, none⟩) 4 4) [a, b, c, d] := is_lit w [a, b, c, d] 3 _ 4 rfl rfl (by simp) _ rfl
theorem lit3 (w : World) (a b c : Int) : Zs (w.alloc (.cells #[.int .i64 a, .int .i64 b, .int .i64 c] 3)) (.slice (some ⟨w.heap.size, 0, none⟩) 3 3) [a, b, c] := is_lit w [a, b, c] 3 _ 3 rfl rfl (by simp) _ rfl

set_option maxHeartbeats 1000000 in
theorem awake_any (w : World) : Calls Try.prog 10 #[] w fun e w' => e = .returned (.bool true) ∧ Below w.heap.size w w' := by
  go_enter Try.func10, Try.ntmps10
  go_wp2_with (go_at_call 11; refine (next_any _ _).mono ?_; rintro e w1 ⟨rfl, hb⟩; rw [ex1]; have HB1 := Lib.hid hb; clear hb)
  go_wp2_with (go_at_call 13; refine (far_any _ _ _).mono ?_; rintro e w2 ⟨rfl, hb⟩; rw [ex2]; have HB2 := Lib.hid (HB1.out.trans (hb.mono HB1.out.size)); clear hb)
  go_wp2_with (go_at_call 15; refine (less_any _ _ _).mono ?_; rintro e w3 ⟨rfl, hb⟩; rw [ex3]; have HB3 := Lib.hid (HB2.out.trans (hb.mono HB2.out.size)); clear hb)
  go_wp2_with (go_at_call 15; refine (less_any _ _ _).mono ?_; rintro e w4 ⟨rfl, hb⟩; rw [ex4]; have HB4 := Lib.hid (HB3.out.trans (hb.mono HB3.out.size)); clear hb)
  have S1 := Lib.hid (sort_any _ [2, 65535, 0, 2] 65534 _ (lit4 w4 2 65535 0 2) (by simp))
  rw [ex_srt] at S1
  go_wp2_with (go_at_call 9; refine S1.out.mono ?_; rintro e w5 ⟨u, rfl, hu, hb⟩; have HU := Lib.hid hu; have HB5 := Lib.hid ((HB4.out.alloc HB4.out.size _).trans (hb.mono (Nat.le_trans HB4.out.size (by simp)))); clear hb hu)
  have S2 := Lib.hid (ints_any _ _ [65535, 0, 2] [65535, 0, 2] _ (Zs_below HU.out ((Below.refl _ w5).alloc (Nat.le_refl _) _)) (lit3 w5 65535 0 2))
  go_wp2_with (go_at_call 19; refine S2.out.mono ?_; rintro e w6 ⟨rfl, hb⟩; have HB6 := Lib.hid ((HB5.out.alloc HB5.out.size _).trans (hb.mono (Nat.le_trans HB5.out.size (by simp)))); clear hb)
  go_ret
  exact ⟨rfl, HB6.out⟩
#print axioms awake_any
end Go.Proofs.Ytmchaomdcelikaa
