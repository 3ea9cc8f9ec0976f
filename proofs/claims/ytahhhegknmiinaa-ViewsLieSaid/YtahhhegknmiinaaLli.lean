/- thalweglaw12.ViewsLie: for any views, height, level and number the law answers true; no condition. -/
import Derived.Test.YtahhhegknmiinaaVaw
import Derived.Test.YtahhhegknmiinaaVpm
import Derived.WalkLawsBesides
import Derived.WalkKit
import Derived.ProofKit
import Derived.OpenShut
import Derived.ShutString
import Derived.ChangeOld
import Derived.Below
namespace Go.Proofs.Ytahhhegknmiinaa.viewsLie
open Go.ChangeShapes Go.WideShapes Go.ChangeAt Go.RowKit
open Go.ChangeMaps (open_string shut_string)
set_option linter.unusedVariables false
set_option maxRecDepth 100000

theorem own : ownKnob Try.prog.godebug = none := by kernel_rfl
theorem laidOut : laidOutB Try.prog = true := by kernel_rfl
set_option maxHeartbeats 4000000 in
theorem walk0 (hvc : Vc) (a0 : Option Addr) (cap0 : Nat) (z0 : List Vw) (x1 : Hx) (lv2 : Lv) (a3 : Int) (w : World) (r0 : Vs w (.slice a0 z0.length cap0) z0) :
    Calls Try.prog 4 #[.slice a0 z0.length cap0, hxV x1, .agg #[.int .i64 lv2.1, .int .i64 lv2.2.1, .int .i64 lv2.2.2], .int .i64 a3] w fun e w' => e = .returned (.bool true) ∧ Below w.heap.size w w' := by
  by_cases hl : 100 < z0.length
  · have hl' : (100 : Int) < (z0.length : Int) := by omega
    have hb1 : Below w.heap.size w ((w.alloc (.cells #[.bool x1.1, .int .i64 x1.2.1, .int .i64 x1.2.2.1, .int .i64 x1.2.2.2.1, .int .i64 x1.2.2.2.2.1, .int .i64 x1.2.2.2.2.2] 24)).alloc (.cells #[.int .i64 lv2.1, .int .i64 lv2.2.1, .int .i64 lv2.2.2] 38)) := ((Below.refl _ w).alloc (Nat.le_refl _) _).alloc (by simp) _
    have HB := Lib.hid hb1
    clear hb1
    go_enter Try.func4, Try.ntmps4
    go_wp2_with fail
    go_ret
    exact ⟨rfl, HB.out⟩
  · have hl' : ¬ (100 : Int) < (z0.length : Int) := by omega
    have HL : Hid (z0.length ≤ 100) := by show _ ≤ _; omega
    have H0 := Lib.hid r0
    have HB : Hid (Below w.heap.size w w) := Below.refl _ _
    clear r0 hl
    go_enter Try.func4, Try.ntmps4
    obtain ⟨W1, hW⟩ : ∃ W1, (w.alloc (.cells #[.bool x1.1, .int .i64 x1.2.1, .int .i64 x1.2.2.1, .int .i64 x1.2.2.2.1, .int .i64 x1.2.2.2.2.1, .int .i64 x1.2.2.2.2.2] 24)).alloc (.cells #[.int .i64 lv2.1, .int .i64 lv2.2.1, .int .i64 lv2.2.2] 38) = W1 := ⟨_, rfl⟩
    have hs1 : (w.alloc (.cells #[.bool x1.1, .int .i64 x1.2.1, .int .i64 x1.2.2.1, .int .i64 x1.2.2.2.1, .int .i64 x1.2.2.2.2.1, .int .i64 x1.2.2.2.2.2] 24)).heap.size = w.heap.size + 1 := by simp
    have hb : Below w.heap.size w W1 := hW ▸ ((Below.refl _ w).alloc (Nat.le_refl _) _).alloc (by simp) _
    have X1 := Lib.hid (hW ▸ (own6_alloc w x1.1 x1.2.1 x1.2.2.1 x1.2.2.2.1 x1.2.2.2.2.1 x1.2.2.2.2.2 24 w.heap.size rfl).below ((Below.refl _ _).alloc (Nat.le_refl _) _) : Own6 W1 w.heap.size x1.1 x1.2.1 x1.2.2.1 x1.2.2.2.1 x1.2.2.2.2.1 x1.2.2.2.2.2)
    have Y2 := Lib.hid (hW ▸ own3_alloc (w.alloc (.cells #[.bool x1.1, .int .i64 x1.2.1, .int .i64 x1.2.2.1, .int .i64 x1.2.2.2.1, .int .i64 x1.2.2.2.2.1, .int .i64 x1.2.2.2.2.2] 24)) lv2.1 lv2.2.1 lv2.2.2 38 (w.heap.size + 1) hs1.symm : Own3 W1 (w.heap.size + 1) lv2.1 lv2.2.1 lv2.2.2)
    have HW := Lib.hid hW
    clear hW hs1
    go_upto_region 1 with (fail)
    change Code.wp _ _ _ _ ((w.alloc (.cells #[.bool x1.1, .int .i64 x1.2.1, .int .i64 x1.2.2.1, .int .i64 x1.2.2.2.1, .int .i64 x1.2.2.2.2.1, .int .i64 x1.2.2.2.2.2] 24)).alloc (.cells #[.int .i64 lv2.1, .int .i64 lv2.2.1, .int .i64 lv2.2.2] 38))
    rw [HW.out]
    replace H0 := Lib.hid (H0.out.below hb)
    replace HB := Lib.hid (HB.out.trans (hb.mono HB.out.size))
    clear hb HW
    go_wp2_with fail
    refine (rvown_any _ z0 _ H0.out (Nat.le_trans HL.out (by decide))).mono ?_
    rintro e W2 ⟨⟨ao, co, rfl, ho⟩, hb⟩
    replace H0 := Lib.hid (H0.out.below hb)
    replace X1 := Lib.hid (X1.out.below hb)
    replace Y2 := Lib.hid (Y2.out.below hb)
    replace HB := Lib.hid (HB.out.trans (hb.mono HB.out.size))
    have HO := Lib.hid ho.vs
    clear ho hl'
    clear hb
    go_wp2_with fail
    refine (hvc.lowest _ z0 _ HO.out (Nat.le_trans HL.out (by decide))).mono ?_
    rintro e W3 ⟨rfl, hb⟩
    replace H0 := Lib.hid (H0.out.below hb)
    replace HO := Lib.hid (HO.out.below hb)
    replace X1 := Lib.hid (X1.out.below hb)
    replace Y2 := Lib.hid (Y2.out.below hb)
    replace HB := Lib.hid (HB.out.trans (hb.mono HB.out.size))
    clear hb
    obtain ⟨W4, hW⟩ : ∃ W4, W3.alloc (.cells #[.int .i64 (lowF z0).1.1, .bool (lowF z0).1.2.1, .int .i64 (lowF z0).1.2.2.1, .int .i64 (lowF z0).1.2.2.2.1, .int .i64 (lowF z0).1.2.2.2.2.1, .int .i64 (lowF z0).1.2.2.2.2.2.1, .int .i64 (lowF z0).1.2.2.2.2.2.2] 40) = W4 := ⟨_, rfl⟩
    have hb : Below W3.heap.size W3 W4 := hW ▸ (Below.refl _ W3).alloc (Nat.le_refl _) _
    have X10 := Lib.hid (hW ▸ ownV_alloc W3 (lowF z0).1 W3.heap.size rfl 40)
    have HW := Lib.hid hW
    clear hW
    go_upto_region 5 with (fail)
    change Code.wp _ _ _ _ (W3.alloc (.cells #[.int .i64 (lowF z0).1.1, .bool (lowF z0).1.2.1, .int .i64 (lowF z0).1.2.2.1, .int .i64 (lowF z0).1.2.2.2.1, .int .i64 (lowF z0).1.2.2.2.2.1, .int .i64 (lowF z0).1.2.2.2.2.2.1, .int .i64 (lowF z0).1.2.2.2.2.2.2] 40))
    rw [HW.out]
    replace H0 := Lib.hid (H0.out.below hb)
    replace HO := Lib.hid (HO.out.below hb)
    replace X1 := Lib.hid (X1.out.below hb)
    replace Y2 := Lib.hid (Y2.out.below hb)
    replace HB := Lib.hid (HB.out.trans (hb.mono HB.out.size))
    clear hb HW
    go_wp2_with fail
    refine (rvlow_any _ z0 _ H0.out (Nat.le_trans HL.out (by decide))).mono ?_
    rintro e W5 ⟨rfl, hb⟩
    replace H0 := Lib.hid (H0.out.below hb)
    replace HO := Lib.hid (HO.out.below hb)
    replace X1 := Lib.hid (X1.out.below hb)
    replace Y2 := Lib.hid (Y2.out.below hb)
    replace X10 := Lib.hid (X10.out.below hb)
    replace HB := Lib.hid (HB.out.trans (hb.mono HB.out.size))
    clear hb
    obtain ⟨W6, hW⟩ : ∃ W6, W5.alloc (.cells #[.int .i64 (lowF z0).1.1, .bool (lowF z0).1.2.1, .int .i64 (lowF z0).1.2.2.1, .int .i64 (lowF z0).1.2.2.2.1, .int .i64 (lowF z0).1.2.2.2.2.1, .int .i64 (lowF z0).1.2.2.2.2.2.1, .int .i64 (lowF z0).1.2.2.2.2.2.2] 40) = W6 := ⟨_, rfl⟩
    have hb : Below W5.heap.size W5 W6 := hW ▸ (Below.refl _ W5).alloc (Nat.le_refl _) _
    have X12 := Lib.hid (hW ▸ ownV_alloc W5 (lowF z0).1 W5.heap.size rfl 40)
    have HW := Lib.hid hW
    clear hW
    go_upto_region 6 with (fail)
    change Code.wp _ _ _ _ (W5.alloc (.cells #[.int .i64 (lowF z0).1.1, .bool (lowF z0).1.2.1, .int .i64 (lowF z0).1.2.2.1, .int .i64 (lowF z0).1.2.2.2.1, .int .i64 (lowF z0).1.2.2.2.2.1, .int .i64 (lowF z0).1.2.2.2.2.2.1, .int .i64 (lowF z0).1.2.2.2.2.2.2] 40))
    rw [HW.out]
    replace H0 := Lib.hid (H0.out.below hb)
    replace HO := Lib.hid (HO.out.below hb)
    replace X1 := Lib.hid (X1.out.below hb)
    replace Y2 := Lib.hid (Y2.out.below hb)
    replace X10 := Lib.hid (X10.out.below hb)
    replace HB := Lib.hid (HB.out.trans (hb.mono HB.out.size))
    clear hb HW
    have cB : ∀ w', Below W6.heap.size W6 w' → Calls Try.prog 23 #[.slice ao z0.length co, hxV x1] w' fun e w'' => ∃ r, e = .returned r ∧ Zs w'' r (belV z0 x1) ∧ Below w'.heap.size w' w'' := fun w' hb => hvc.below _ z0 x1 w' (HO.out.below hb) (Nat.le_trans HL.out (by decide))
    have cRB : ∀ w', Below W6.heap.size W6 w' → Calls Try.prog 24 #[.slice a0 z0.length cap0, hxV x1] w' fun e w'' => ∃ r, e = .returned r ∧ Zs w'' r (belV z0 x1) ∧ Below w'.heap.size w' w'' := fun w' hb => rbelow_fix _ z0 x1 w' (H0.out.below hb) (Nat.le_trans HL.out (by decide))
    have cA : ∀ w', Below W6.heap.size W6 w' → Calls Try.prog 25 #[.slice ao z0.length co, hxV x1] w' fun e w'' => ∃ r, e = .returned r ∧ Zs w'' r (aboV z0 x1) ∧ Below w'.heap.size w' w'' := fun w' hb => hvc.above _ z0 x1 w' (HO.out.below hb) (Nat.le_trans HL.out (by decide))
    have cRA : ∀ w', Below W6.heap.size W6 w' → Calls Try.prog 26 #[.slice a0 z0.length cap0, hxV x1] w' fun e w'' => ∃ r, e = .returned r ∧ Zs w'' r (aboV z0 x1) ∧ Below w'.heap.size w' w'' := fun w' hb => rabove_fix _ z0 x1 w' (H0.out.below hb) (Nat.le_trans HL.out (by decide))
    have kc : ∀ w', Below W6.heap.size W6 w' → Cells6 w' w.heap.size x1.1 x1.2.1 x1.2.2.1 x1.2.2.2.1 x1.2.2.2.2.1 x1.2.2.2.2.2 := fun w' hb => (X1.out.below hb).1
    simp only [Cells6] at kc
    go_upto_region 6 with (fail)
    refine wp_region_typed (C := fun w' => Below W6.heap.size W6 w') (X := fun w w' => Below w.heap.size w w') (n := 76) (by kernel_rfl) (by kernel_rfl) rfl (fun w => Below.refl _ w) (Below.refl _ _).drew ?_
    refine w_is (fun w => Below.refl _ w) _ (.inl rfl) (fun ρ w hC hc hfn hf => by have e9 : ρ (.tmp 9) = _ := hf 9 (by decide); (conv => lhs; simp [execOp, go_sem, hc, e9])) ?_
    refine w_is (fun w => Below.refl _ w) _ (.inl rfl) (fun ρ w hC hc hfn hf => by have e5 : ρ (.tmp 5) = _ := hf 5 (by decide); (conv => lhs; simp [execOp, go_sem, hc, e5, kc w hC])) ?_
    refine w_call (fun u w => Zs w u (belV z0 x1)) (fun _ _ _ h hb => Zs_low h hb) 23 (.inl rfl) (fun ρ w hC hc hfn hf => by have e30 : ρ (.tmp 30) = _ := hf 30 (by decide); have e31 : ρ (.tmp 31) = _ := hf 31 (by decide); exact ⟨_, by (conv => lhs; simp [execOp, resolve, invoke, go_sem, hc, hfn, e30, e31]), tc_some hC (cB w hC)⟩) ?_
    refine w_is (fun w => Below.refl _ w) _ (.inl rfl) (fun ρ w hC hc hfn hf => by have e0 : ρ (.tmp 0) = _ := hf 0 (by decide); (conv => lhs; simp [execOp, go_sem, hc, e0])) ?_
    refine w_is (fun w => Below.refl _ w) _ (.inl rfl) (fun ρ w hC hc hfn hf => by have e5 : ρ (.tmp 5) = _ := hf 5 (by decide); (conv => lhs; simp [execOp, go_sem, hc, e5, kc w hC])) ?_
    refine w_call (fun u w => Zs w u (belV z0 x1)) (fun _ _ _ h hb => Zs_low h hb) 24 (.inl rfl) (fun ρ w hC hc hfn hf => by have e33 : ρ (.tmp 33) = _ := hf 33 (by decide); have e34 : ρ (.tmp 34) = _ := hf 34 (by decide); exact ⟨_, by (conv => lhs; simp [execOp, resolve, invoke, go_sem, hc, hfn, e33, e34]), tc_some hC (cRB w hC)⟩) ?_
    refine w_call (Is _) (fun _ _ _ h _ => h) 22 (.inl rfl) (fun ρ w hC hc hfn hf => by have e32 := hf 32 (by decide); have e35 := hf 35 (by decide); exact ⟨_, by (conv => lhs; simp [execOp, resolve, invoke, go_sem, hc, hfn]), tc_below hC (ints_yes e32 e35)⟩) ?_
    refine w_is (fun w => Below.refl _ w) _ (.inl rfl) (fun ρ w hC hc hfn hf => by have e36 : ρ (.tmp 36) = _ := hf 36 (by decide); (conv => lhs; simp [execOp, go_sem, hc, e36])) ?_
    refine w_is (fun w => Below.refl _ w) _ (.inr ⟨7, 37, true, rfl, rfl, known_is rfl⟩) (fun ρ w hC hc hfn hf => by have e9 : ρ (.tmp 9) = _ := hf 9 (by decide); (conv => lhs; simp [execOp, go_sem, hc, e9])) ?_
    refine w_is (fun w => Below.refl _ w) _ (.inr ⟨7, 37, true, rfl, rfl, known_is rfl⟩) (fun ρ w hC hc hfn hf => by have e5 : ρ (.tmp 5) = _ := hf 5 (by decide); (conv => lhs; simp [execOp, go_sem, hc, e5, kc w hC])) ?_
    refine w_call (fun u w => Zs w u (aboV z0 x1)) (fun _ _ _ h hb => Zs_low h hb) 25 (.inr ⟨7, 37, true, rfl, rfl, known_is rfl⟩) (fun ρ w hC hc hfn hf => by have e38 : ρ (.tmp 38) = _ := hf 38 (by decide); have e39 : ρ (.tmp 39) = _ := hf 39 (by decide); exact ⟨_, by (conv => lhs; simp [execOp, resolve, invoke, go_sem, hc, hfn, e38, e39]), tc_some hC (cA w hC)⟩) ?_
    refine w_is (fun w => Below.refl _ w) _ (.inr ⟨7, 37, true, rfl, rfl, known_is rfl⟩) (fun ρ w hC hc hfn hf => by have e0 : ρ (.tmp 0) = _ := hf 0 (by decide); (conv => lhs; simp [execOp, go_sem, hc, e0])) ?_
    refine w_is (fun w => Below.refl _ w) _ (.inr ⟨7, 37, true, rfl, rfl, known_is rfl⟩) (fun ρ w hC hc hfn hf => by have e5 : ρ (.tmp 5) = _ := hf 5 (by decide); (conv => lhs; simp [execOp, go_sem, hc, e5, kc w hC])) ?_
    refine w_call (fun u w => Zs w u (aboV z0 x1)) (fun _ _ _ h hb => Zs_low h hb) 26 (.inr ⟨7, 37, true, rfl, rfl, known_is rfl⟩) (fun ρ w hC hc hfn hf => by have e41 : ρ (.tmp 41) = _ := hf 41 (by decide); have e42 : ρ (.tmp 42) = _ := hf 42 (by decide); exact ⟨_, by (conv => lhs; simp [execOp, resolve, invoke, go_sem, hc, hfn, e41, e42]), tc_some hC (cRA w hC)⟩) ?_
    refine w_call (Is _) (fun _ _ _ h _ => h) 22 (.inr ⟨7, 37, true, rfl, rfl, known_is rfl⟩) (fun ρ w hC hc hfn hf => by have e40 := hf 40 (by decide); have e43 := hf 43 (by decide); exact ⟨_, by (conv => lhs; simp [execOp, resolve, invoke, go_sem, hc, hfn]), tc_below hC (ints_yes e40 e43)⟩) ?_
    refine w_is (fun w => Below.refl _ w) _ (.inl rfl) (fun ρ w hC hc hfn hf => by have e37 : ρ (.tmp 37) = _ := hf 37 (by decide); have e44 : ρ (.tmp 44) = _ := hf 44 (by decide); (conv => lhs; simp [execOp, go_sem, hc, e37, e44])) ?_
    refine w_is (fun w => Below.refl _ w) _ (.inl rfl) (fun ρ w hC hc hfn hf => by have e45 : ρ (.tmp 45) = _ := hf 45 (by decide); (conv => lhs; simp [execOp, go_sem, hc, e45])) ?_
    intro A U6 hC hn hd hf
    have y0 : A.eval (.tmp 0) = _ := Eq.trans (hf 0) (by conv => lhs; simp [go_sem])
    have y1 : A.eval (.tmp 1) = _ := Eq.trans (hf 1) (by conv => lhs; simp [go_sem])
    have y2 : A.eval (.tmp 2) = _ := Eq.trans (hf 2) (by conv => lhs; simp [go_sem])
    have y3 : A.eval (.tmp 3) = _ := Eq.trans (hf 3) (by conv => lhs; simp [go_sem])
    have y4 : A.eval (.tmp 4) = _ := Eq.trans (hf 4) (by conv => lhs; simp [go_sem])
    have y5 : A.eval (.tmp 5) = _ := Eq.trans (hf 5) (by conv => lhs; simp [go_sem])
    have y6 : A.eval (.tmp 6) = _ := Eq.trans (hf 6) (by conv => lhs; simp [go_sem])
    have y7 : A.eval (.tmp 7) = _ := Eq.trans (hf 7) (by conv => lhs; simp [go_sem])
    have y8 : A.eval (.tmp 8) = _ := Eq.trans (hf 8) (by conv => lhs; simp [go_sem])
    have y9 : A.eval (.tmp 9) = _ := Eq.trans (hf 9) (by conv => lhs; simp [go_sem])
    have y10 : A.eval (.tmp 10) = _ := Eq.trans (hf 10) (by conv => lhs; simp [go_sem])
    have y11 : A.eval (.tmp 11) = _ := Eq.trans (hf 11) (by conv => lhs; simp [go_sem])
    have y12 : A.eval (.tmp 12) = _ := Eq.trans (hf 12) (by conv => lhs; simp [go_sem])
    have y13 : A.eval (.tmp 13) = _ := Eq.trans (hf 13) (by conv => lhs; simp [go_sem])
    have y14 : A.eval (.tmp 14) = _ := hf 14
    have y15 : A.eval (.tmp 15) = _ := Eq.trans (hf 15) (by conv => lhs; simp [go_sem])
    have y16 : A.eval (.tmp 16) = _ := Eq.trans (hf 16) (by conv => lhs; simp [go_sem])
    have y17 : A.eval (.tmp 17) = _ := Eq.trans (hf 17) (by conv => lhs; simp [go_sem])
    have y18 : A.eval (.tmp 18) = _ := Eq.trans (hf 18) (by conv => lhs; simp [go_sem])
    have y19 : A.eval (.tmp 19) = _ := Eq.trans (hf 19) (by conv => lhs; simp [go_sem])
    have y20 : A.eval (.tmp 20) = _ := Eq.trans (hf 20) (by conv => lhs; simp [go_sem])
    have y21 : A.eval (.tmp 21) = _ := Eq.trans (hf 21) (by conv => lhs; simp [go_sem])
    have y22 : A.eval (.tmp 22) = _ := Eq.trans (hf 22) (by conv => lhs; simp [go_sem])
    have y23 : A.eval (.tmp 23) = _ := Eq.trans (hf 23) (by conv => lhs; simp [go_sem])
    have y24 : A.eval (.tmp 24) = _ := Eq.trans (hf 24) (by conv => lhs; simp [go_sem])
    have y25 : A.eval (.tmp 25) = _ := Eq.trans (hf 25) (by conv => lhs; simp [go_sem])
    have y26 : A.eval (.tmp 26) = _ := Eq.trans (hf 26) (by conv => lhs; simp [go_sem])
    have y27 : A.eval (.tmp 27) = _ := Eq.trans (hf 27) (by conv => lhs; simp [go_sem])
    have y28 : A.eval (.tmp 28) = _ := Eq.trans (hf 28) (by conv => lhs; simp [go_sem])
    have y29 : A.eval (.tmp 29) = _ := Eq.trans (hf 29) (by conv => lhs; simp [go_sem])
    have y30 : A.eval (.tmp 30) = _ := hf 30
    have y31 : A.eval (.tmp 31) = _ := hf 31
    have y32 := hf 32
    have y33 : A.eval (.tmp 33) = _ := hf 33
    have y34 : A.eval (.tmp 34) = _ := hf 34
    have y35 := hf 35
    have y36 : A.eval (.tmp 36) = _ := hf 36
    have y37 : A.eval (.tmp 37) = _ := hf 37
    have y38 : A.eval (.tmp 38) = _ := hf 38
    have y39 : A.eval (.tmp 39) = _ := hf 39
    have y40 := hf 40
    have y41 : A.eval (.tmp 41) = _ := hf 41
    have y42 : A.eval (.tmp 42) = _ := hf 42
    have y43 := hf 43
    have y44 : A.eval (.tmp 44) = _ := hf 44
    have y45 : A.eval (.tmp 45) = _ := hf 45
    have y46 : A.eval (.tmp 46) = _ := Eq.trans (hf 46) (by conv => lhs; simp [go_sem])
    have y47 : A.eval (.tmp 47) = _ := Eq.trans (hf 47) (by conv => lhs; simp [go_sem])
    have y48 : A.eval (.tmp 48) = _ := Eq.trans (hf 48) (by conv => lhs; simp [go_sem])
    have y49 : A.eval (.tmp 49) = _ := Eq.trans (hf 49) (by conv => lhs; simp [go_sem])
    have y50 : A.eval (.tmp 50) = _ := Eq.trans (hf 50) (by conv => lhs; simp [go_sem])
    have y51 : A.eval (.tmp 51) = _ := Eq.trans (hf 51) (by conv => lhs; simp [go_sem])
    have y52 : A.eval (.tmp 52) = _ := Eq.trans (hf 52) (by conv => lhs; simp [go_sem])
    have y53 : A.eval (.tmp 53) = _ := Eq.trans (hf 53) (by conv => lhs; simp [go_sem])
    have y54 : A.eval (.tmp 54) = _ := Eq.trans (hf 54) (by conv => lhs; simp [go_sem])
    have y55 : A.eval (.tmp 55) = _ := Eq.trans (hf 55) (by conv => lhs; simp [go_sem])
    have y56 : A.eval (.tmp 56) = _ := Eq.trans (hf 56) (by conv => lhs; simp [go_sem])
    have y57 : A.eval (.tmp 57) = _ := Eq.trans (hf 57) (by conv => lhs; simp [go_sem])
    have y58 : A.eval (.tmp 58) = _ := Eq.trans (hf 58) (by conv => lhs; simp [go_sem])
    have y59 : A.eval (.tmp 59) = _ := Eq.trans (hf 59) (by conv => lhs; simp [go_sem])
    have y60 : A.eval (.tmp 60) = _ := Eq.trans (hf 60) (by conv => lhs; simp [go_sem])
    have y61 : A.eval (.tmp 61) = _ := Eq.trans (hf 61) (by conv => lhs; simp [go_sem])
    have y62 : A.eval (.tmp 62) = _ := Eq.trans (hf 62) (by conv => lhs; simp [go_sem])
    have y63 : A.eval (.tmp 63) = _ := Eq.trans (hf 63) (by conv => lhs; simp [go_sem])
    have y64 : A.eval (.tmp 64) = _ := Eq.trans (hf 64) (by conv => lhs; simp [go_sem])
    have y65 : A.eval (.tmp 65) = _ := Eq.trans (hf 65) (by conv => lhs; simp [go_sem])
    have y66 : A.eval (.tmp 66) = _ := Eq.trans (hf 66) (by conv => lhs; simp [go_sem])
    have y67 : A.eval (.tmp 67) = _ := Eq.trans (hf 67) (by conv => lhs; simp [go_sem])
    have y68 : A.eval (.tmp 68) = _ := Eq.trans (hf 68) (by conv => lhs; simp [go_sem])
    have y69 : A.eval (.tmp 69) = _ := Eq.trans (hf 69) (by conv => lhs; simp [go_sem])
    have y70 : A.eval (.tmp 70) = _ := Eq.trans (hf 70) (by conv => lhs; simp [go_sem])
    have y71 : A.eval (.tmp 71) = _ := Eq.trans (hf 71) (by conv => lhs; simp [go_sem])
    have y72 : A.eval (.tmp 72) = _ := Eq.trans (hf 72) (by conv => lhs; simp [go_sem])
    have y73 : A.eval (.tmp 73) = _ := Eq.trans (hf 73) (by conv => lhs; simp [go_sem])
    have y74 : A.eval (.tmp 74) = _ := Eq.trans (hf 74) (by conv => lhs; simp [go_sem])
    have y75 : A.eval (.tmp 75) = _ := Eq.trans (hf 75) (by conv => lhs; simp [go_sem])
    clear hf
    have hA := frame_eq hn
    rw [show List.range 76 = [0, 1, 2, 3, 4, 5, 6, 7, 8, 9, 10, 11, 12, 13, 14, 15, 16, 17, 18, 19, 20, 21, 22, 23, 24, 25, 26, 27, 28, 29, 30, 31, 32, 33, 34, 35, 36, 37, 38, 39, 40, 41, 42, 43, 44, 45, 46, 47, 48, 49, 50, 51, 52, 53, 54, 55, 56, 57, 58, 59, 60, 61, 62, 63, 64, 65, 66, 67, 68, 69, 70, 71, 72, 73, 74, 75] from rfl, hd] at hA
    simp only [List.map_cons, List.map_nil, y0, y1, y2, y3, y4, y5, y6, y7, y8, y9, y10, y11, y12, y13, y14, y15, y16, y17, y18, y19, y20, y21, y22, y23, y24, y25, y26, y27, y28, y29, y30, y31, y33, y34, y36, y37, y38, y39, y41, y42, y44, y45, y46, y47, y48, y49, y50, y51, y52, y53, y54, y55, y56, y57, y58, y59, y60, y61, y62, y63, y64, y65, y66, y67, y68, y69, y70, y71, y72, y73, y74, y75] at hA
    change (fun u w => Zs w u (belV z0 x1)) (A.eval (.tmp 32)) U6 at y32
    change (fun u w => Zs w u (belV z0 x1)) (A.eval (.tmp 35)) U6 at y35
    change (fun u w => Zs w u (aboV z0 x1)) (A.eval (.tmp 40)) U6 at y40
    change (fun u w => Zs w u (aboV z0 x1)) (A.eval (.tmp 43)) U6 at y43
    clear y0 y1 y2 y3 y4 y5 y6 y7 y8 y9 y10 y11 y12 y13 y14 y15 y16 y17 y18 y19 y20 y21 y22 y23 y24 y25 y26 y27 y28 y29 y30 y31 y33 y34 y36 y37 y38 y39 y41 y42 y44 y45 y46 y47 y48 y49 y50 y51 y52 y53 y54 y55 y56 y57 y58 y59 y60 y61 y62 y63 y64 y65 y66 y67 y68 y69 y70 y71 y72 y73 y74 y75
    generalize A.eval (.tmp 32) = v32 at *
    generalize A.eval (.tmp 35) = v35 at *
    generalize A.eval (.tmp 40) = v40 at *
    generalize A.eval (.tmp 43) = v43 at *
    clear hn hd
    subst hA
    clear kc cB cRB cA cRA
    replace H0 := Lib.hid (H0.out.below hC)
    replace HO := Lib.hid (HO.out.below hC)
    replace X1 := Lib.hid (X1.out.below hC)
    replace Y2 := Lib.hid (Y2.out.below hC)
    replace X10 := Lib.hid (X10.out.below hC)
    replace X12 := Lib.hid (X12.out.below hC)
    replace HB := Lib.hid (HB.out.trans (hC.mono HB.out.size))
    clear hC
    have cF : ∀ w', Below U6.heap.size U6 w' → Calls Try.prog 27 #[.slice ao z0.length co, .agg #[.int .i64 lv2.1, .int .i64 lv2.2.1, .int .i64 lv2.2.2], .int .i64 a3] w' fun e w'' => ∃ r, e = .returned r ∧ Vs w'' r (forL z0 lv2 a3) ∧ Below w'.heap.size w' w'' := fun w' hb => hvc.forget _ z0 lv2 a3 w' (HO.out.below hb) (Nat.le_trans HL.out (by decide))
    have cRF : ∀ w', Below U6.heap.size U6 w' → Calls Try.prog 28 #[.slice a0 z0.length cap0, .agg #[.int .i64 lv2.1, .int .i64 lv2.2.1, .int .i64 lv2.2.2], .int .i64 a3] w' fun e w'' => ∃ r, e = .returned r ∧ Vs w'' r (forL z0 lv2 a3) ∧ Below w'.heap.size w' w'' := fun w' hb => rforget_fix _ z0 lv2 a3 w' (H0.out.below hb) (Nat.le_trans HL.out (by decide))
    have hfl : (forL z0 lv2 a3).length ≤ 3000 := by unfold forL; rw [List.length_map]; exact (Nat.le_trans HL.out (by decide))
    obtain ⟨g10, hg10⟩ : ∃ g10, W3.heap.size = g10 := ⟨_, rfl⟩
    obtain ⟨g12, hg12⟩ : ∃ g12, W5.heap.size = g12 := ⟨_, rfl⟩
    rw [hg10] at X10 ⊢
    rw [hg12] at X12 ⊢
    have kc : ∀ w', Below U6.heap.size U6 w' → Cells3 w' (w.heap.size + 1) lv2.1 lv2.2.1 lv2.2.2 ∧ C7 w' g10 0 (lowF z0).1 ∧ C7 w' g12 0 (lowF z0).1 := fun w' hb => ⟨(Y2.out.below hb).1, (X10.out.below hb).1, (X12.out.below hb).1⟩
    simp only [Cells3, C7, Nat.zero_add] at kc
    have hEq := fun W => eqlVW (lowF z0).1 (lowF z0).1 W
    rw [show eqVw (lowF z0).1 (lowF z0).1 = true from eqVw_iff.2 rfl] at hEq
    clear hg10 hg12
    go_upto_region 7 with (fail)
    refine wp_region_typed (C := fun w' => Below U6.heap.size U6 w') (X := fun w w' => Below w.heap.size w w') (n := 76) (by kernel_rfl) (by kernel_rfl) rfl (fun w => Below.refl _ w) (Below.refl _ _).drew ?_
    refine w_call (Is _) (fun _ _ _ h _ => h) 18 (.inl rfl) (fun ρ w hC hc hfn hf => by exact ⟨_, by (conv => lhs; simp [execOp, resolve, invoke, go_sem, hc, hfn]), tc_below hC (awake12 hvc w)⟩) ?_
    refine w_is (fun w => Below.refl _ w) _ (.inl rfl) (fun ρ w hC hc hfn hf => by have e46 : ρ (.tmp 46) = _ := hf 46 (by decide); (conv => lhs; simp [execOp, go_sem, hc, e46])) ?_
    refine w_is (fun w => Below.refl _ w) _ (.inr ⟨1, 47, true, rfl, rfl, known_is rfl⟩) (fun ρ w hC hc hfn hf => by have e14 : ρ (.tmp 14) = _ := hf 14 (by decide); (conv => lhs; simp [execOp, go_sem, hc, e14])) ?_
    refine w_is (fun w => Below.refl _ w) _ (.inl rfl) (fun ρ w hC hc hfn hf => by have e47 : ρ (.tmp 47) = _ := hf 47 (by decide); have e48 : ρ (.tmp 48) = _ := hf 48 (by decide); (conv => lhs; simp [execOp, go_sem, hc, e47, e48])) ?_
    refine w_is (fun w => Below.refl _ w) _ (.inl rfl) (fun ρ w hC hc hfn hf => by have e49 : ρ (.tmp 49) = _ := hf 49 (by decide); (conv => lhs; simp [execOp, go_sem, hc, e49])) ?_
    refine w_is (fun w => Below.refl _ w) _ (.inr ⟨4, 50, true, rfl, rfl, known_is rfl⟩) (fun ρ w hC hc hfn hf => by have e9 : ρ (.tmp 9) = _ := hf 9 (by decide); (conv => lhs; simp [execOp, go_sem, hc, e9])) ?_
    refine w_is (fun w => Below.refl _ w) _ (.inr ⟨4, 50, true, rfl, rfl, known_is rfl⟩) (fun ρ w hC hc hfn hf => by have e6 : ρ (.tmp 6) = _ := hf 6 (by decide); (conv => lhs; simp [execOp, go_sem, hc, e6, kc w hC])) ?_
    refine w_is (fun w => Below.refl _ w) _ (.inr ⟨4, 50, true, rfl, rfl, known_is rfl⟩) (fun ρ w hC hc hfn hf => by have e3 : ρ (.tmp 3) = _ := hf 3 (by decide); (conv => lhs; simp [execOp, go_sem, hc, e3])) ?_
    refine w_call (fun u w => Vs w u (forL z0 lv2 a3)) (fun _ _ _ h hb => Vs.below h hb) 27 (.inr ⟨4, 50, true, rfl, rfl, known_is rfl⟩) (fun ρ w hC hc hfn hf => by have e51 : ρ (.tmp 51) = _ := hf 51 (by decide); have e52 : ρ (.tmp 52) = _ := hf 52 (by decide); have e53 : ρ (.tmp 53) = _ := hf 53 (by decide); exact ⟨_, by (conv => lhs; simp [execOp, resolve, invoke, go_sem, hc, hfn, e51, e52, e53]), tc_some hC (cF w hC)⟩) ?_
    refine w_is (fun w => Below.refl _ w) _ (.inr ⟨4, 50, true, rfl, rfl, known_is rfl⟩) (fun ρ w hC hc hfn hf => by have e0 : ρ (.tmp 0) = _ := hf 0 (by decide); (conv => lhs; simp [execOp, go_sem, hc, e0])) ?_
    refine w_is (fun w => Below.refl _ w) _ (.inr ⟨4, 50, true, rfl, rfl, known_is rfl⟩) (fun ρ w hC hc hfn hf => by have e6 : ρ (.tmp 6) = _ := hf 6 (by decide); (conv => lhs; simp [execOp, go_sem, hc, e6, kc w hC])) ?_
    refine w_is (fun w => Below.refl _ w) _ (.inr ⟨4, 50, true, rfl, rfl, known_is rfl⟩) (fun ρ w hC hc hfn hf => by have e3 : ρ (.tmp 3) = _ := hf 3 (by decide); (conv => lhs; simp [execOp, go_sem, hc, e3])) ?_
    refine w_call (fun u w => Vs w u (forL z0 lv2 a3)) (fun _ _ _ h hb => Vs.below h hb) 28 (.inr ⟨4, 50, true, rfl, rfl, known_is rfl⟩) (fun ρ w hC hc hfn hf => by have e55 : ρ (.tmp 55) = _ := hf 55 (by decide); have e56 : ρ (.tmp 56) = _ := hf 56 (by decide); have e57 : ρ (.tmp 57) = _ := hf 57 (by decide); exact ⟨_, by (conv => lhs; simp [execOp, resolve, invoke, go_sem, hc, hfn, e55, e56, e57]), tc_some hC (cRF w hC)⟩) ?_
    refine w_call (Is _) (fun _ _ _ h _ => h) 19 (.inr ⟨4, 50, true, rfl, rfl, known_is rfl⟩) (fun ρ w hC hc hfn hf => by have e54 := hf 54 (by decide); have e58 := hf 58 (by decide); exact ⟨_, by (conv => lhs; simp [execOp, resolve, invoke, go_sem, hc, hfn]), tc_below hC (vsame_yes e54 e58 hfl)⟩) ?_
    refine w_is (fun w => Below.refl _ w) _ (.inl rfl) (fun ρ w hC hc hfn hf => by have e50 : ρ (.tmp 50) = _ := hf 50 (by decide); have e59 : ρ (.tmp 59) = _ := hf 59 (by decide); (conv => lhs; simp [execOp, go_sem, hc, e50, e59])) ?_
    refine w_is (fun w => Below.refl _ w) _ (.inl rfl) (fun ρ w hC hc hfn hf => by have e60 : ρ (.tmp 60) = _ := hf 60 (by decide); (conv => lhs; simp [execOp, go_sem, hc, e60])) ?_
    refine w_is (fun w => Below.refl _ w) _ (.inr ⟨15, 61, true, rfl, rfl, known_is rfl⟩) (fun ρ w hC hc hfn hf => by have e10 : ρ (.tmp 10) = _ := hf 10 (by decide); (conv => lhs; simp [execOp, go_sem, hc, e10, kc w hC])) ?_
    refine w_is (fun w => Below.refl _ w) _ (.inr ⟨15, 61, true, rfl, rfl, known_is rfl⟩) (fun ρ w hC hc hfn hf => by have e12 : ρ (.tmp 12) = _ := hf 12 (by decide); (conv => lhs; simp [execOp, go_sem, hc, e12, kc w hC])) ?_
    refine w_is (fun w => Below.refl _ w) _ (.inr ⟨15, 61, true, rfl, rfl, known_is rfl⟩) (fun ρ w hC hc hfn hf => by have e62 : ρ (.tmp 62) = _ := hf 62 (by decide); have e63 : ρ (.tmp 63) = _ := hf 63 (by decide); (conv => lhs; simp [execOp, go_sem, hc, e62, e63, hEq w, guardVW])) ?_
    refine w_is (fun w => Below.refl _ w) _ (.inl rfl) (fun ρ w hC hc hfn hf => by have e61 : ρ (.tmp 61) = _ := hf 61 (by decide); have e64 : ρ (.tmp 64) = _ := hf 64 (by decide); (conv => lhs; simp [execOp, go_sem, hc, e61, e64])) ?_
    refine w_is (fun w => Below.refl _ w) _ (.inl rfl) (fun ρ w hC hc hfn hf => by have e65 : ρ (.tmp 65) = _ := hf 65 (by decide); (conv => lhs; simp [execOp, go_sem, hc, e65])) ?_
    refine w_is (fun w => Below.refl _ w) _ (.inr ⟨20, 66, true, rfl, rfl, known_is rfl⟩) (fun ρ w hC hc hfn hf => by have e11 : ρ (.tmp 11) = _ := hf 11 (by decide); (conv => lhs; simp [execOp, go_sem, hc, e11])) ?_
    refine w_is (fun w => Below.refl _ w) _ (.inr ⟨20, 66, true, rfl, rfl, known_is rfl⟩) (fun ρ w hC hc hfn hf => by have e13 : ρ (.tmp 13) = _ := hf 13 (by decide); (conv => lhs; simp [execOp, go_sem, hc, e13])) ?_
    refine w_is (fun w => Below.refl _ w) _ (.inr ⟨20, 66, true, rfl, rfl, known_is rfl⟩) (fun ρ w hC hc hfn hf => by have e67 : ρ (.tmp 67) = _ := hf 67 (by decide); have e68 : ρ (.tmp 68) = _ := hf 68 (by decide); (conv => lhs; simp [execOp, go_sem, hc, e67, e68])) ?_
    refine w_is (fun w => Below.refl _ w) _ (.inl rfl) (fun ρ w hC hc hfn hf => by have e66 : ρ (.tmp 66) = _ := hf 66 (by decide); have e69 : ρ (.tmp 69) = _ := hf 69 (by decide); (conv => lhs; simp [execOp, go_sem, hc, e66, e69])) ?_
    refine w_is (fun w => Below.refl _ w) _ (.inl rfl) (fun ρ w hC hc hfn hf => by have e70 : ρ (.tmp 70) = _ := hf 70 (by decide); (conv => lhs; simp [execOp, go_sem, hc, e70])) ?_
    refine w_is (fun w => Below.refl _ w) _ (.inr ⟨25, 71, true, rfl, rfl, known_is rfl⟩) (fun ρ w hC hc hfn hf => by have e9 : ρ (.tmp 9) = _ := hf 9 (by decide); (conv => lhs; simp [execOp, go_sem, hc, e9])) ?_
    refine w_is (fun w => Below.refl _ w) _ (.inr ⟨25, 71, true, rfl, rfl, known_is rfl⟩) (fun ρ w hC hc hfn hf => by have e0 : ρ (.tmp 0) = _ := hf 0 (by decide); (conv => lhs; simp [execOp, go_sem, hc, e0])) ?_
    refine w_call (Is _) (fun _ _ _ h _ => h) 19 (.inr ⟨25, 71, true, rfl, rfl, known_is rfl⟩) (fun ρ w hC hc hfn hf => by have e72 : ρ (.tmp 72) = _ := hf 72 (by decide); have e73 : ρ (.tmp 73) = _ := hf 73 (by decide); exact ⟨_, by (conv => lhs; simp [execOp, resolve, invoke, go_sem, hc, hfn, e72, e73]), tc_below hC (vsame_yes (HO.out.below hC) (H0.out.below hC) (Nat.le_trans HL.out (by decide)))⟩) ?_
    refine w_is (fun w => Below.refl _ w) _ (.inl rfl) (fun ρ w hC hc hfn hf => by have e71 : ρ (.tmp 71) = _ := hf 71 (by decide); have e74 : ρ (.tmp 74) = _ := hf 74 (by decide); (conv => lhs; simp [execOp, go_sem, hc, e71, e74])) ?_
    refine w_is (fun w => Below.refl _ w) _ (.inl rfl) (fun ρ w hC hc hfn hf => by have e75 : ρ (.tmp 75) = _ := hf 75 (by decide); (conv => lhs; simp [execOp, go_sem, hc, e75])) ?_
    intro A U7 hC hn hd hf
    have y0 : A.eval (.tmp 0) = _ := Eq.trans (hf 0) (by conv => lhs; simp [go_sem])
    have y1 : A.eval (.tmp 1) = _ := Eq.trans (hf 1) (by conv => lhs; simp [go_sem])
    have y2 : A.eval (.tmp 2) = _ := Eq.trans (hf 2) (by conv => lhs; simp [go_sem])
    have y3 : A.eval (.tmp 3) = _ := Eq.trans (hf 3) (by conv => lhs; simp [go_sem])
    have y4 : A.eval (.tmp 4) = _ := Eq.trans (hf 4) (by conv => lhs; simp [go_sem])
    have y5 : A.eval (.tmp 5) = _ := Eq.trans (hf 5) (by conv => lhs; simp [go_sem])
    have y6 : A.eval (.tmp 6) = _ := Eq.trans (hf 6) (by conv => lhs; simp [go_sem])
    have y7 : A.eval (.tmp 7) = _ := Eq.trans (hf 7) (by conv => lhs; simp [go_sem])
    have y8 : A.eval (.tmp 8) = _ := hf 8
    have y9 : A.eval (.tmp 9) = _ := Eq.trans (hf 9) (by conv => lhs; simp [go_sem])
    have y10 : A.eval (.tmp 10) = _ := Eq.trans (hf 10) (by conv => lhs; simp [go_sem])
    have y11 : A.eval (.tmp 11) = _ := Eq.trans (hf 11) (by conv => lhs; simp [go_sem])
    have y12 : A.eval (.tmp 12) = _ := Eq.trans (hf 12) (by conv => lhs; simp [go_sem])
    have y13 : A.eval (.tmp 13) = _ := Eq.trans (hf 13) (by conv => lhs; simp [go_sem])
    have y14 : A.eval (.tmp 14) = _ := Eq.trans (hf 14) (by conv => lhs; simp [go_sem])
    have y15 : A.eval (.tmp 15) = _ := Eq.trans (hf 15) (by conv => lhs; simp [go_sem])
    have y16 : A.eval (.tmp 16) = _ := Eq.trans (hf 16) (by conv => lhs; simp [go_sem])
    have y17 : A.eval (.tmp 17) = _ := Eq.trans (hf 17) (by conv => lhs; simp [go_sem])
    have y18 : A.eval (.tmp 18) = _ := Eq.trans (hf 18) (by conv => lhs; simp [go_sem])
    have y19 : A.eval (.tmp 19) = _ := Eq.trans (hf 19) (by conv => lhs; simp [go_sem])
    have y20 : A.eval (.tmp 20) = _ := Eq.trans (hf 20) (by conv => lhs; simp [go_sem])
    have y21 : A.eval (.tmp 21) = _ := Eq.trans (hf 21) (by conv => lhs; simp [go_sem])
    have y22 : A.eval (.tmp 22) = _ := Eq.trans (hf 22) (by conv => lhs; simp [go_sem])
    have y23 : A.eval (.tmp 23) = _ := Eq.trans (hf 23) (by conv => lhs; simp [go_sem])
    have y24 : A.eval (.tmp 24) = _ := Eq.trans (hf 24) (by conv => lhs; simp [go_sem])
    have y25 : A.eval (.tmp 25) = _ := Eq.trans (hf 25) (by conv => lhs; simp [go_sem])
    have y26 : A.eval (.tmp 26) = _ := Eq.trans (hf 26) (by conv => lhs; simp [go_sem])
    have y27 : A.eval (.tmp 27) = _ := Eq.trans (hf 27) (by conv => lhs; simp [go_sem])
    have y28 : A.eval (.tmp 28) = _ := Eq.trans (hf 28) (by conv => lhs; simp [go_sem])
    have y29 : A.eval (.tmp 29) = _ := Eq.trans (hf 29) (by conv => lhs; simp [go_sem])
    have y30 : A.eval (.tmp 30) = _ := Eq.trans (hf 30) (by conv => lhs; simp [go_sem])
    have y31 : A.eval (.tmp 31) = _ := Eq.trans (hf 31) (by conv => lhs; simp [go_sem])
    have y32 : A.eval (.tmp 32) = _ := Eq.trans (hf 32) (by conv => lhs; simp [go_sem])
    have y33 : A.eval (.tmp 33) = _ := Eq.trans (hf 33) (by conv => lhs; simp [go_sem])
    have y34 : A.eval (.tmp 34) = _ := Eq.trans (hf 34) (by conv => lhs; simp [go_sem])
    have y35 : A.eval (.tmp 35) = _ := Eq.trans (hf 35) (by conv => lhs; simp [go_sem])
    have y36 : A.eval (.tmp 36) = _ := Eq.trans (hf 36) (by conv => lhs; simp [go_sem])
    have y37 : A.eval (.tmp 37) = _ := Eq.trans (hf 37) (by conv => lhs; simp [go_sem])
    have y38 : A.eval (.tmp 38) = _ := Eq.trans (hf 38) (by conv => lhs; simp [go_sem])
    have y39 : A.eval (.tmp 39) = _ := Eq.trans (hf 39) (by conv => lhs; simp [go_sem])
    have y40 : A.eval (.tmp 40) = _ := Eq.trans (hf 40) (by conv => lhs; simp [go_sem])
    have y41 : A.eval (.tmp 41) = _ := Eq.trans (hf 41) (by conv => lhs; simp [go_sem])
    have y42 : A.eval (.tmp 42) = _ := Eq.trans (hf 42) (by conv => lhs; simp [go_sem])
    have y43 : A.eval (.tmp 43) = _ := Eq.trans (hf 43) (by conv => lhs; simp [go_sem])
    have y44 : A.eval (.tmp 44) = _ := Eq.trans (hf 44) (by conv => lhs; simp [go_sem])
    have y45 : A.eval (.tmp 45) = _ := Eq.trans (hf 45) (by conv => lhs; simp [go_sem])
    have y46 : A.eval (.tmp 46) = _ := hf 46
    have y47 : A.eval (.tmp 47) = _ := hf 47
    have y48 : A.eval (.tmp 48) = _ := hf 48
    have y49 : A.eval (.tmp 49) = _ := hf 49
    have y50 : A.eval (.tmp 50) = _ := hf 50
    have y51 : A.eval (.tmp 51) = _ := hf 51
    have y52 : A.eval (.tmp 52) = _ := hf 52
    have y53 : A.eval (.tmp 53) = _ := hf 53
    have y54 := hf 54
    have y55 : A.eval (.tmp 55) = _ := hf 55
    have y56 : A.eval (.tmp 56) = _ := hf 56
    have y57 : A.eval (.tmp 57) = _ := hf 57
    have y58 := hf 58
    have y59 : A.eval (.tmp 59) = _ := hf 59
    have y60 : A.eval (.tmp 60) = _ := hf 60
    have y61 : A.eval (.tmp 61) = _ := hf 61
    have y62 : A.eval (.tmp 62) = _ := hf 62
    have y63 : A.eval (.tmp 63) = _ := hf 63
    have y64 : A.eval (.tmp 64) = _ := hf 64
    have y65 : A.eval (.tmp 65) = _ := hf 65
    have y66 : A.eval (.tmp 66) = _ := hf 66
    have y67 : A.eval (.tmp 67) = _ := hf 67
    have y68 : A.eval (.tmp 68) = _ := hf 68
    have y69 : A.eval (.tmp 69) = _ := hf 69
    have y70 : A.eval (.tmp 70) = _ := hf 70
    have y71 : A.eval (.tmp 71) = _ := hf 71
    have y72 : A.eval (.tmp 72) = _ := hf 72
    have y73 : A.eval (.tmp 73) = _ := hf 73
    have y74 : A.eval (.tmp 74) = _ := hf 74
    have y75 : A.eval (.tmp 75) = _ := hf 75
    clear hf
    have hA := frame_eq hn
    rw [show List.range 76 = [0, 1, 2, 3, 4, 5, 6, 7, 8, 9, 10, 11, 12, 13, 14, 15, 16, 17, 18, 19, 20, 21, 22, 23, 24, 25, 26, 27, 28, 29, 30, 31, 32, 33, 34, 35, 36, 37, 38, 39, 40, 41, 42, 43, 44, 45, 46, 47, 48, 49, 50, 51, 52, 53, 54, 55, 56, 57, 58, 59, 60, 61, 62, 63, 64, 65, 66, 67, 68, 69, 70, 71, 72, 73, 74, 75] from rfl, hd] at hA
    simp only [List.map_cons, List.map_nil, y0, y1, y2, y3, y4, y5, y6, y7, y8, y9, y10, y11, y12, y13, y14, y15, y16, y17, y18, y19, y20, y21, y22, y23, y24, y25, y26, y27, y28, y29, y30, y31, y32, y33, y34, y35, y36, y37, y38, y39, y40, y41, y42, y43, y44, y45, y46, y47, y48, y49, y50, y51, y52, y53, y55, y56, y57, y59, y60, y61, y62, y63, y64, y65, y66, y67, y68, y69, y70, y71, y72, y73, y74, y75] at hA
    change (fun u w => Vs w u (forL z0 lv2 a3)) (A.eval (.tmp 54)) U7 at y54
    change (fun u w => Vs w u (forL z0 lv2 a3)) (A.eval (.tmp 58)) U7 at y58
    clear y0 y1 y2 y3 y4 y5 y6 y7 y8 y9 y10 y11 y12 y13 y14 y15 y16 y17 y18 y19 y20 y21 y22 y23 y24 y25 y26 y27 y28 y29 y30 y31 y32 y33 y34 y35 y36 y37 y38 y39 y40 y41 y42 y43 y44 y45 y46 y47 y48 y49 y50 y51 y52 y53 y55 y56 y57 y59 y60 y61 y62 y63 y64 y65 y66 y67 y68 y69 y70 y71 y72 y73 y74 y75
    generalize A.eval (.tmp 54) = v54 at *
    generalize A.eval (.tmp 58) = v58 at *
    clear hn hd
    subst hA
    go_wp2_with fail
    go_ret
    exact ⟨rfl, HB.out.trans (hC.mono HB.out.size)⟩
theorem walk (hvc : Vc) (a0 : Option Addr) (cap0 : Nat) (z0 : List Vw) (n1 : Bool) (t1 o1 r1 d1 i1 : Int) (w1 : I64 t1 ∧ I64 o1 ∧ I64 r1 ∧ I64 d1 ∧ I64 i1) (t2 o2 r2 : Int) (w2 : I64 t2 ∧ I64 o2 ∧ I64 r2) (a3 : Int) (w3 : I64 a3) (w : World) (r0 : Vs w (.slice a0 z0.length cap0) z0) :
    Calls Try.prog 4 #[.slice a0 z0.length cap0, .agg #[.bool n1, .int .i64 t1, .int .i64 o1, .int .i64 r1, .int .i64 d1, .int .i64 i1], .agg #[.int .i64 t2, .int .i64 o2, .int .i64 r2], .int .i64 a3] w fun e w' => e = .returned (.bool true) ∧ Below w.heap.size w w' := walk0 hvc a0 cap0 z0 (n1, t1, o1, r1, d1, i1) (t2, o2, r2) a3 w r0

set_option maxRecDepth 100000 in
theorem lifted (os : _root_.Go.Os) (started : os.Started) (H : Type) (enc : TypeId × Value → H) :
    ReturnsInHanded {} Try.checked os 4 .any (Rows.viewsLieSpec.pre6 enc Try.prog Try.f4 Rows.viewsLieRow.domain false) (Rows.viewsLieSpec.post enc Try.prog Try.f4 false true false false) := by
  refine returnsInHanded_of_change (C := Try.checked) own started (by kernel_rfl) Try.func4
    (ChangeSpec.witness6 (enc := enc) (C := Try.checked) false ⟨#[], #[.slice none 0 0, .agg #[.bool false, .int .i64 0, .int .i64 0, .int .i64 0, .int .i64 0, .int .i64 0], .agg #[.int .i64 0, .int .i64 0, .int .i64 0], .int .i64 0], []⟩ 16 (by kernel_rfl) (by kernel_rfl) (by kernel_rfl) (by kernel_rfl)) ?_
  intro W base args ds gs before hval0 hW hcnd _
  have hval : ∀ (j : Nat) t v, Try.f4.params[j]? = some t → args[j]? = some v → Value.okWide Try.prog W .any base t v := hval0
  have hW' := hW
  obtain ⟨p, q, hA0, hV, rfl, hfz, hnd⟩ := hW
  have hA : DataW.TrodAll enc Try.prog W 0 (fun _ => true) true Try.f4.params.toList args.toList ds p := hA0
  rw [Try.params4] at hA hval
  obtain ⟨v0, vs0, e0, ds0, p0, q0, hargs, rfl, rfl, h0, x0⟩ := trodAll_cons hA
  obtain ⟨v1, vs1, e1, ds1, p1, q1, rfl, rfl, rfl, h1, x1⟩ := trodAll_cons x0
  obtain ⟨v2, vs2, e2, ds2, p2, q2, rfl, rfl, rfl, h2, x2⟩ := trodAll_cons x1
  obtain ⟨v3, vs3, e3, ds3, p3, q3, rfl, rfl, rfl, h3, x3⟩ := trodAll_cons x2
  obtain ⟨rfl, rfl, rfl⟩ := trodAll_nil x3
  obtain rfl : args = #[v0, v1, v2, v3] := by cases args; simp_all
  obtain ⟨rfl, rfl⟩ := trodVars_none hV
  have k0 := h0
  have lt0 : ∀ x ∈ p0, x.block < W.heap.size := by obtain ⟨m, hm⟩ := k0; exact DataW.trod_lt m _ _ _ hm
  have k1 := h1
  have lt1 : ∀ x ∈ p1, x.block < W.heap.size := by obtain ⟨m, hm⟩ := k1; exact DataW.trod_lt m _ _ _ hm
  obtain ⟨n1, t1, o1, r1, d1, i1, rfl, w1⟩ := ht_form (hval 1 24 v1 rfl rfl) h1
  have k2 := h2
  have lt2 : ∀ x ∈ p2, x.block < W.heap.size := by obtain ⟨m, hm⟩ := k2; exact DataW.trod_lt m _ _ _ hm
  obtain ⟨t2, o2, r2, rfl, w2⟩ := lev_form (hval 2 38 v2 rfl rfl) h2
  have k3 := h3
  have lt3 : ∀ x ∈ p3, x.block < W.heap.size := by obtain ⟨m, hm⟩ := k3; exact DataW.trod_lt m _ _ _ hm
  obtain ⟨a3, rfl, _, _, w3⟩ := open_int Try.underlying3 (hval 3 3 v3 rfl rfl) h3
  obtain ⟨a0, len0, cap0, rfl⟩ := okWide_slice underVS (hval 0 22 v0 rfl rfl)
  obtain ⟨z0, hz0, w0, hm0⟩ := vs_form h0
  subst hz0
  clear hA0 hval0
  refine (walk vc a0 cap0 z0 n1 t1 o1 r1 d1 i1 w1 t2 o2 r2 w2 a3 (i64_wf w3) W w0).mono fun e W' ⟨he, bel⟩ => ?_
  subst he
  exact ⟨_, rfl, _, _, _, [], _, [], hW', trodAll_mk1 (shut_bool Try.underlying4 _), (trodAll_cons_mk (Below.trod laidOut (by kernel_rfl) (of_decide_eq_true (by kernel_rfl)) k0 bel lt0) (trodAll_cons_mk (Below.trod laidOut (by kernel_rfl) (of_decide_eq_true (by kernel_rfl)) k1 bel lt1) (trodAll_cons_mk (Below.trod laidOut (by kernel_rfl) (of_decide_eq_true (by kernel_rfl)) k2 bel lt2) (trodAll_cons_mk (Below.trod laidOut (by kernel_rfl) (of_decide_eq_true (by kernel_rfl)) k3 bel lt3) trodAll_mk0)))), rfl, bel.frame _, fun h => by cases h⟩

theorem over : Rows.viewsLieRow.holds Try.pinned (OpenSpec.ofChange Rows.viewsLieSpec) :=
  OpenClaim.holds_of_wide 4 Try.f4 rfl rfl rfl rfl rfl rfl rfl ⟨rfl, rfl, rfl, rfl, rfl⟩ rfl rfl rfl rfl rfl (by kernel_rfl) Try.func4 (by kernel_rfl)
    (of_decide_eq_true (by kernel_rfl)) (by unfold Func.isWrapper; first | (rw [if_pos (by decide +kernel)]; kernel_rfl) | (rw [if_neg (by decide +kernel)]; exact ⟨rfl, rfl⟩))
    (fun os started H enc _ => lifted os started H enc)

theorem proved : Rows.ViewsLieSaid := over
#print axioms proved
end Go.Proofs.Ytahhhegknmiinaa.viewsLie
