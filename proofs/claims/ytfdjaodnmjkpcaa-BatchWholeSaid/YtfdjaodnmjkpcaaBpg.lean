/- Objects as batches: the program's Pack. No conditions but on lengths. -/
import Derived.Test.YtfdjaodnmjkpcaaBpt
namespace Go.Proofs.Ytfdjaodnmjkpcaa
set_option maxRecDepth 100000
open Go.RowKit Go.Sort

set_option maxHeartbeats 8000000 in
theorem ppack_any (v : Value) (ys : List Ob) (first most : Int) (w : World) (hy : Os w v ys) (hl : ys.length ≤ 3000) :
    Calls Try.prog 15 #[v, .int .i64 first, .int .i64 most] w fun e w' => ∃ r, e = .returned (.tuple #[r, .int .i64 (packE ys most)]) ∧ RowB w' w.heap.size r (packB ys first most) ∧ Below w.heap.size w w' := by
  have fin : ∀ E : Int, E ≠ 0 → packE ys most = E → packB ys first most = [] := fun E h1 h2 => by unfold packB; rw [if_neg (by omega)]
  by_cases hm : 40 ≤ most ∧ most ≤ 512
  · have hm1 : ¬ most < 40 := by omega
    have hm2 : ¬ (512 : Int) < most := by omega
    have cR := fun w' (hb : Below w.heap.size w w') => areright_any v ys w' (hy.below hb) hl
    by_cases hok : AllOk ys
    · rw [decide_eq_true hok] at cR
      by_cases h1024 : 1024 < ys.length
      · have hE : packE ys most = 2 := by unfold packE; rw [if_pos ⟨hm.1, hm.2, hok⟩, if_pos h1024]
        rw [fin 2 (by decide) hE, hE]
        have hl2 : (1024 : Int) < (ys.length : Int) := by omega
        obtain ⟨a, c, rfl⟩ := hy.form
        clear hy hok fin hE
        go_enter Try.func15, Try.ntmps15
        go_wp2_with (go_at_call 28; refine (cR _ (Below.refl _ _)).mono ?_; rintro e w1 ⟨rfl, hb⟩; have B1 := Lib.hid hb; clear hb)
        go_ret2
        exact ⟨_, rfl, RowB_nil _ _, B1.out⟩
      · have hE : packE ys most = 0 := by unfold packE; rw [if_pos ⟨hm.1, hm.2, hok⟩, if_neg h1024]
        rw [packB, if_pos hE, hE]
        have hl2 : ¬ (1024 : Int) < (ys.length : Int) := by omega
        have cP := fun w' (hb : Below w.heap.size w w') => part_any v ys (lft first) most w' (hy.below hb) (by omega) hm
        obtain ⟨a, c, rfl⟩ := hy.form
        have HY := Lib.hid hy
        clear hy hok fin hE
        go_enter Try.func15, Try.ntmps15
        go_wp2_with fail
        refine (cR _ (Below.refl _ _)).mono ?_
        rintro e w1 ⟨rfl, hb⟩
        have B1 := Lib.hid hb
        clear hb
        go_wp2_with fail
        refine (pleft_any first _).mono ?_
        rintro e w2 ⟨rfl, hb⟩
        replace B1 := Lib.hid (B1.out.trans (hb.mono B1.out.size))
        clear hb
        go_wp2_with fail
        refine (cP _ B1.out).mono ?_
        rintro e w3 ⟨r, rfl, hr, hb⟩
        have R := Lib.hid (show RowB w3 w.heap.size r (packL most ys first) from hr.base B1.out.size)
        have B2 := Lib.hid (B1.out.trans (hb.mono B1.out.size))
        obtain ⟨a3, c3, rfl⟩ := R.out.form
        clear hb hr
        go_wp2_with fail
        go_ret2
        exact ⟨_, rfl, R.out, B2.out⟩
    · rw [decide_eq_false hok] at cR
      have hE : packE ys most = 1 := by unfold packE; rw [if_neg (fun h => hok h.2.2)]
      rw [fin 1 (by decide) hE, hE]
      obtain ⟨a, c, rfl⟩ := hy.form
      clear hy hok fin hE
      go_enter Try.func15, Try.ntmps15
      go_wp2_with (go_at_call 28; refine (cR _ (Below.refl _ _)).mono ?_; rintro e w1 ⟨rfl, hb⟩; have B1 := Lib.hid hb; clear hb)
      go_ret2
      exact ⟨_, rfl, RowB_nil _ _, B1.out⟩
  · have hE : packE ys most = 1 := by unfold packE; rw [if_neg (fun h => hm ⟨h.1, h.2.1⟩)]
    rw [fin 1 (by decide) hE, hE]
    obtain ⟨a, c, rfl⟩ := hy.form
    clear hy fin hE
    by_cases h40 : most < 40
    · go_enter Try.func15, Try.ntmps15
      go_wp2_with fail
      go_ret2
      exact ⟨_, rfl, RowB_nil _ _, Below.refl _ _⟩
    · have h512 : (512 : Int) < most := by omega
      go_enter Try.func15, Try.ntmps15
      go_wp2_with fail
      go_ret2
      exact ⟨_, rfl, RowB_nil _ _, Below.refl _ _⟩
#print axioms ppack_any
end Go.Proofs.Ytfdjaodnmjkpcaa
