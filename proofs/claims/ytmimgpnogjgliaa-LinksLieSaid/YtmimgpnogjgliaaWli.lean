/- thalweglaw18.LinksLie: for any views and two heights the law answers true; no condition. -/
import Derived.Test.YtmimgpnogjgliaaRb
import Derived.Test.YtmimgpnogjgliaaVb
import Derived.WalkLawsBesides
import Derived.WalkKit
import Derived.ProofKit
import Derived.OpenShut
import Derived.ShutString
import Derived.ChangeOld
import Derived.Below
namespace Go.Proofs.Ytmimgpnogjgliaa.linksLie
open Go.ChangeShapes Go.WideShapes Go.ChangeAt Go.RowKit
open Go.ChangeMaps (open_string shut_string)
set_option linter.unusedVariables false
set_option maxRecDepth 100000

theorem own : ownKnob Try.prog.godebug = none := by kernel_rfl
theorem laidOut : laidOutB Try.prog = true := by kernel_rfl
set_option maxHeartbeats 8000000 in
theorem walk0 (a0 : Option Addr) (cap0 : Nat) (z0 : List Vw) (x1 : Hx) (x2 : Hx) (w : World) (r0 : Vs w (.slice a0 z0.length cap0) z0) :
    Calls Try.prog 3 #[.slice a0 z0.length cap0, hxV x1, hxV x2] w fun e w' => e = .returned (.bool true) ∧ Below w.heap.size w w' := by
  by_cases hl : 80 < z0.length
  · have hl' : (80 : Int) < (z0.length : Int) := by omega
    have hb1 : Below w.heap.size w ((w.alloc (.cells #[.bool x1.1, .int .i64 x1.2.1, .int .i64 x1.2.2.1, .int .i64 x1.2.2.2.1, .int .i64 x1.2.2.2.2.1, .int .i64 x1.2.2.2.2.2] 24)).alloc (.cells #[.bool x2.1, .int .i64 x2.2.1, .int .i64 x2.2.2.1, .int .i64 x2.2.2.2.1, .int .i64 x2.2.2.2.2.1, .int .i64 x2.2.2.2.2.2] 24)) := ((Below.refl _ w).alloc (Nat.le_refl _) _).alloc (by simp) _
    have HB := Lib.hid hb1
    clear hb1
    go_enter Try.func3, Try.ntmps3
    go_wp2_with fail
    go_ret
    exact ⟨rfl, HB.out⟩
  · have hl' : ¬ (80 : Int) < (z0.length : Int) := by omega
    have HL : Hid (z0.length ≤ 80) := by show _ ≤ _; omega
    have H0 := Lib.hid r0
    have HB : Hid (Below w.heap.size w w) := Below.refl _ _
    clear r0 hl
    go_enter Try.func3, Try.ntmps3
    obtain ⟨W1, hW⟩ : ∃ W1, (w.alloc (.cells #[.bool x1.1, .int .i64 x1.2.1, .int .i64 x1.2.2.1, .int .i64 x1.2.2.2.1, .int .i64 x1.2.2.2.2.1, .int .i64 x1.2.2.2.2.2] 24)).alloc (.cells #[.bool x2.1, .int .i64 x2.2.1, .int .i64 x2.2.2.1, .int .i64 x2.2.2.2.1, .int .i64 x2.2.2.2.2.1, .int .i64 x2.2.2.2.2.2] 24) = W1 := ⟨_, rfl⟩
    have hs1 : (w.alloc (.cells #[.bool x1.1, .int .i64 x1.2.1, .int .i64 x1.2.2.1, .int .i64 x1.2.2.2.1, .int .i64 x1.2.2.2.2.1, .int .i64 x1.2.2.2.2.2] 24)).heap.size = w.heap.size + 1 := by simp
    have hb : Below w.heap.size w W1 := hW ▸ ((Below.refl _ w).alloc (Nat.le_refl _) _).alloc (by simp) _
    have X1 := Lib.hid (hW ▸ (own6_alloc w x1.1 x1.2.1 x1.2.2.1 x1.2.2.2.1 x1.2.2.2.2.1 x1.2.2.2.2.2 24 w.heap.size rfl).below ((Below.refl _ _).alloc (Nat.le_refl _) _) : Own6 W1 w.heap.size x1.1 x1.2.1 x1.2.2.1 x1.2.2.2.1 x1.2.2.2.2.1 x1.2.2.2.2.2)
    have X2 := Lib.hid (hW ▸ own6_alloc (w.alloc (.cells #[.bool x1.1, .int .i64 x1.2.1, .int .i64 x1.2.2.1, .int .i64 x1.2.2.2.1, .int .i64 x1.2.2.2.2.1, .int .i64 x1.2.2.2.2.2] 24)) x2.1 x2.2.1 x2.2.2.1 x2.2.2.2.1 x2.2.2.2.2.1 x2.2.2.2.2.2 24 (w.heap.size + 1) hs1.symm : Own6 W1 (w.heap.size + 1) x2.1 x2.2.1 x2.2.2.1 x2.2.2.2.1 x2.2.2.2.2.1 x2.2.2.2.2.2)
    have HW := Lib.hid hW
    clear hW hs1
    go_upto_region 1 with (fail)
    change Code.wp _ _ _ _ ((w.alloc (.cells #[.bool x1.1, .int .i64 x1.2.1, .int .i64 x1.2.2.1, .int .i64 x1.2.2.2.1, .int .i64 x1.2.2.2.2.1, .int .i64 x1.2.2.2.2.2] 24)).alloc (.cells #[.bool x2.1, .int .i64 x2.2.1, .int .i64 x2.2.2.1, .int .i64 x2.2.2.2.1, .int .i64 x2.2.2.2.2.1, .int .i64 x2.2.2.2.2.2] 24))
    rw [HW.out]
    replace H0 := Lib.hid (H0.out.below hb)
    replace HB := Lib.hid (HB.out.trans (hb.mono HB.out.size))
    clear hb HW
    obtain ⟨⟨u0, u1, u2, u3, u4, u5⟩, -⟩ := X1.out
    go_wp2_with fail
    refine (rvown_any _ z0 _ H0.out (Nat.le_trans HL.out (by decide))).mono ?_
    rintro e W2 ⟨⟨ao, co, rfl, ho⟩, hb⟩
    replace H0 := Lib.hid (H0.out.below hb)
    replace X1 := Lib.hid (X1.out.below hb)
    replace X2 := Lib.hid (X2.out.below hb)
    replace HB := Lib.hid (HB.out.trans (hb.mono HB.out.size))
    have HO := Lib.hid ho.vs
    clear ho hl'
    clear hb
    clear u0 u1 u2 u3 u4 u5
    obtain ⟨⟨u0, u1, u2, u3, u4, u5⟩, -⟩ := X1.out
    go_wp2_with fail
    refine (lnext_any _ z0 x1 _ HO.out (Nat.le_trans HL.out (by decide))).mono ?_
    rintro e W3 ⟨rfl, hb⟩
    replace H0 := Lib.hid (H0.out.below hb)
    replace HO := Lib.hid (HO.out.below hb)
    replace X1 := Lib.hid (X1.out.below hb)
    replace X2 := Lib.hid (X2.out.below hb)
    replace HB := Lib.hid (HB.out.trans (hb.mono HB.out.size))
    clear hb
    clear u0 u1 u2 u3 u4 u5
    obtain ⟨⟨u0, u1, u2, u3, u4, u5⟩, -⟩ := X1.out
    go_wp2_with fail
    refine (rnext_any _ z0 x1 _ H0.out (Nat.le_trans HL.out (by decide))).mono ?_
    rintro e W4 ⟨rfl, hb⟩
    replace H0 := Lib.hid (H0.out.below hb)
    replace HO := Lib.hid (HO.out.below hb)
    replace X1 := Lib.hid (X1.out.below hb)
    replace X2 := Lib.hid (X2.out.below hb)
    replace HB := Lib.hid (HB.out.trans (hb.mono HB.out.size))
    clear hb
    clear u0 u1 u2 u3 u4 u5
    obtain ⟨⟨u0, u1, u2, u3, u4, u5⟩, -⟩ := X1.out
    clear u0 u1 u2 u3 u4 u5
    have cD : ∀ w', Below W4.heap.size W4 w' → Calls Try.prog 14 #[.slice ao z0.length co, hxV x1] w' fun e w'' => ∃ r, e = .returned r ∧ Zs w'' r (dirI z0 x1 1) ∧ Below w'.heap.size w' w'' := fun w' hb => ldown_any _ z0 x1 w' (HO.out.below hb) (Nat.le_trans HL.out (by decide))
    have cRD : ∀ w', Below W4.heap.size W4 w' → Calls Try.prog 15 #[.slice a0 z0.length cap0, hxV x1] w' fun e w'' => ∃ r, e = .returned r ∧ Zs w'' r (dirI z0 x1 1) ∧ Below w'.heap.size w' w'' := fun w' hb => rdown_any _ z0 x1 w' (H0.out.below hb) (Nat.le_trans HL.out (by decide))
    have cU : ∀ w', Below W4.heap.size W4 w' → Calls Try.prog 16 #[.slice ao z0.length co, hxV x1] w' fun e w'' => ∃ r, e = .returned r ∧ Zs w'' r (dirI z0 x1 2) ∧ Below w'.heap.size w' w'' := fun w' hb => lups_any _ z0 x1 w' (HO.out.below hb) (Nat.le_trans HL.out (by decide))
    have cRU : ∀ w', Below W4.heap.size W4 w' → Calls Try.prog 17 #[.slice a0 z0.length cap0, hxV x1] w' fun e w'' => ∃ r, e = .returned r ∧ Zs w'' r (dirI z0 x1 2) ∧ Below w'.heap.size w' w'' := fun w' hb => rups_any _ z0 x1 w' (H0.out.below hb) (Nat.le_trans HL.out (by decide))
    have kc : ∀ w', Below W4.heap.size W4 w' → Cells6 w' w.heap.size x1.1 x1.2.1 x1.2.2.1 x1.2.2.2.1 x1.2.2.2.2.1 x1.2.2.2.2.2 ∧ Cells6 w' (w.heap.size + 1) x2.1 x2.2.1 x2.2.2.1 x2.2.2.2.1 x2.2.2.2.2.1 x2.2.2.2.2.2 := fun w' hb => ⟨(X1.out.below hb).1, (X2.out.below hb).1⟩
    simp only [Cells6] at kc
    obtain ⟨dz, hdz⟩ : ∃ dz, dirF x1 x2 = dz := ⟨_, rfl⟩
    have c1 := fun W => dir_any x1 x2 W
    have c2 := fun W => rdir_any x1 x2 W
    rw [hdz] at c1 c2
    clear hdz
    go_upto_region 6 with (fail)
    refine wp_region_typed (C := fun w' => Below W4.heap.size W4 w') (X := fun w w' => Below w.heap.size w w') (n := 81) (by kernel_rfl) (by kernel_rfl) rfl (fun w => Below.refl _ w) (Below.refl _ _).drew ?_
    refine w_is (fun w => Below.refl _ w) _ (.inl rfl) (fun ρ w hC hc hfn hf => by have e4 : ρ (.tmp 4) = _ := hf 4 (by decide); (conv => lhs; simp [execOp, go_sem, hc, e4, kc w hC])) ?_
    refine w_is (fun w => Below.refl _ w) _ (.inl rfl) (fun ρ w hC hc hfn hf => by have e5 : ρ (.tmp 5) = _ := hf 5 (by decide); (conv => lhs; simp [execOp, go_sem, hc, e5, kc w hC])) ?_
    refine w_call (Is _) (fun _ _ _ h _ => h) 11 (.inl rfl) (fun ρ w hC hc hfn hf => by have e30 : ρ (.tmp 30) = _ := hf 30 (by decide); have e31 : ρ (.tmp 31) = _ := hf 31 (by decide); exact ⟨_, by (conv => lhs; simp [execOp, resolve, invoke, go_sem, hc, hfn, e30, e31]), tc_below hC (c1 w)⟩) ?_
    refine w_is (fun w => Below.refl _ w) _ (.inl rfl) (fun ρ w hC hc hfn hf => by have e4 : ρ (.tmp 4) = _ := hf 4 (by decide); (conv => lhs; simp [execOp, go_sem, hc, e4, kc w hC])) ?_
    refine w_is (fun w => Below.refl _ w) _ (.inl rfl) (fun ρ w hC hc hfn hf => by have e5 : ρ (.tmp 5) = _ := hf 5 (by decide); (conv => lhs; simp [execOp, go_sem, hc, e5, kc w hC])) ?_
    refine w_call (Is _) (fun _ _ _ h _ => h) 12 (.inl rfl) (fun ρ w hC hc hfn hf => by have e33 : ρ (.tmp 33) = _ := hf 33 (by decide); have e34 : ρ (.tmp 34) = _ := hf 34 (by decide); exact ⟨_, by (conv => lhs; simp [execOp, resolve, invoke, go_sem, hc, hfn, e33, e34]), tc_below hC (c2 w)⟩) ?_
    refine w_is (fun w => Below.refl _ w) _ (.inl rfl) (fun ρ w hC hc hfn hf => by have e32 : ρ (.tmp 32) = _ := hf 32 (by decide); have e35 : ρ (.tmp 35) = _ := hf 35 (by decide); (conv => lhs; simp [execOp, go_sem, hc, e32, e35])) ?_
    refine w_is (fun w => Below.refl _ w) _ (.inl rfl) (fun ρ w hC hc hfn hf => by have e36 : ρ (.tmp 36) = _ := hf 36 (by decide); (conv => lhs; simp [execOp, go_sem, hc, e36])) ?_
    refine w_is (fun w => Below.refl _ w) _ (.inr ⟨7, 37, true, rfl, rfl, known_is rfl⟩) (fun ρ w hC hc hfn hf => by have e7 : ρ (.tmp 7) = _ := hf 7 (by decide); (conv => lhs; simp [execOp, go_sem, hc, e7])) ?_
    refine w_is (fun w => Below.refl _ w) _ (.inr ⟨7, 37, true, rfl, rfl, known_is rfl⟩) (fun ρ w hC hc hfn hf => by have e4 : ρ (.tmp 4) = _ := hf 4 (by decide); (conv => lhs; simp [execOp, go_sem, hc, e4, kc w hC])) ?_
    refine w_call (fun u w => Zs w u (dirI z0 x1 1)) (fun _ _ _ h hb => Zs_low h hb) 14 (.inr ⟨7, 37, true, rfl, rfl, known_is rfl⟩) (fun ρ w hC hc hfn hf => by have e38 : ρ (.tmp 38) = _ := hf 38 (by decide); have e39 : ρ (.tmp 39) = _ := hf 39 (by decide); exact ⟨_, by (conv => lhs; simp [execOp, resolve, invoke, go_sem, hc, hfn, e38, e39]), tc_some hC (cD w hC)⟩) ?_
    refine w_is (fun w => Below.refl _ w) _ (.inr ⟨7, 37, true, rfl, rfl, known_is rfl⟩) (fun ρ w hC hc hfn hf => by have e0 : ρ (.tmp 0) = _ := hf 0 (by decide); (conv => lhs; simp [execOp, go_sem, hc, e0])) ?_
    refine w_is (fun w => Below.refl _ w) _ (.inr ⟨7, 37, true, rfl, rfl, known_is rfl⟩) (fun ρ w hC hc hfn hf => by have e4 : ρ (.tmp 4) = _ := hf 4 (by decide); (conv => lhs; simp [execOp, go_sem, hc, e4, kc w hC])) ?_
    refine w_call (fun u w => Zs w u (dirI z0 x1 1)) (fun _ _ _ h hb => Zs_low h hb) 15 (.inr ⟨7, 37, true, rfl, rfl, known_is rfl⟩) (fun ρ w hC hc hfn hf => by have e41 : ρ (.tmp 41) = _ := hf 41 (by decide); have e42 : ρ (.tmp 42) = _ := hf 42 (by decide); exact ⟨_, by (conv => lhs; simp [execOp, resolve, invoke, go_sem, hc, hfn, e41, e42]), tc_some hC (cRD w hC)⟩) ?_
    refine w_call (Is _) (fun _ _ _ h _ => h) 13 (.inr ⟨7, 37, true, rfl, rfl, known_is rfl⟩) (fun ρ w hC hc hfn hf => by have e40 := hf 40 (by decide); have e43 := hf 43 (by decide); exact ⟨_, by (conv => lhs; simp [execOp, resolve, invoke, go_sem, hc, hfn]), tc_below hC (ints_yes e40 e43)⟩) ?_
    refine w_is (fun w => Below.refl _ w) _ (.inl rfl) (fun ρ w hC hc hfn hf => by have e37 : ρ (.tmp 37) = _ := hf 37 (by decide); have e44 : ρ (.tmp 44) = _ := hf 44 (by decide); (conv => lhs; simp [execOp, go_sem, hc, e37, e44])) ?_
    refine w_is (fun w => Below.refl _ w) _ (.inl rfl) (fun ρ w hC hc hfn hf => by have e45 : ρ (.tmp 45) = _ := hf 45 (by decide); (conv => lhs; simp [execOp, go_sem, hc, e45])) ?_
    refine w_is (fun w => Below.refl _ w) _ (.inr ⟨16, 46, true, rfl, rfl, known_is rfl⟩) (fun ρ w hC hc hfn hf => by have e7 : ρ (.tmp 7) = _ := hf 7 (by decide); (conv => lhs; simp [execOp, go_sem, hc, e7])) ?_
    refine w_is (fun w => Below.refl _ w) _ (.inr ⟨16, 46, true, rfl, rfl, known_is rfl⟩) (fun ρ w hC hc hfn hf => by have e4 : ρ (.tmp 4) = _ := hf 4 (by decide); (conv => lhs; simp [execOp, go_sem, hc, e4, kc w hC])) ?_
    refine w_call (fun u w => Zs w u (dirI z0 x1 2)) (fun _ _ _ h hb => Zs_low h hb) 16 (.inr ⟨16, 46, true, rfl, rfl, known_is rfl⟩) (fun ρ w hC hc hfn hf => by have e47 : ρ (.tmp 47) = _ := hf 47 (by decide); have e48 : ρ (.tmp 48) = _ := hf 48 (by decide); exact ⟨_, by (conv => lhs; simp [execOp, resolve, invoke, go_sem, hc, hfn, e47, e48]), tc_some hC (cU w hC)⟩) ?_
    refine w_is (fun w => Below.refl _ w) _ (.inr ⟨16, 46, true, rfl, rfl, known_is rfl⟩) (fun ρ w hC hc hfn hf => by have e0 : ρ (.tmp 0) = _ := hf 0 (by decide); (conv => lhs; simp [execOp, go_sem, hc, e0])) ?_
    refine w_is (fun w => Below.refl _ w) _ (.inr ⟨16, 46, true, rfl, rfl, known_is rfl⟩) (fun ρ w hC hc hfn hf => by have e4 : ρ (.tmp 4) = _ := hf 4 (by decide); (conv => lhs; simp [execOp, go_sem, hc, e4, kc w hC])) ?_
    refine w_call (fun u w => Zs w u (dirI z0 x1 2)) (fun _ _ _ h hb => Zs_low h hb) 17 (.inr ⟨16, 46, true, rfl, rfl, known_is rfl⟩) (fun ρ w hC hc hfn hf => by have e50 : ρ (.tmp 50) = _ := hf 50 (by decide); have e51 : ρ (.tmp 51) = _ := hf 51 (by decide); exact ⟨_, by (conv => lhs; simp [execOp, resolve, invoke, go_sem, hc, hfn, e50, e51]), tc_some hC (cRU w hC)⟩) ?_
    refine w_call (Is _) (fun _ _ _ h _ => h) 13 (.inr ⟨16, 46, true, rfl, rfl, known_is rfl⟩) (fun ρ w hC hc hfn hf => by have e49 := hf 49 (by decide); have e52 := hf 52 (by decide); exact ⟨_, by (conv => lhs; simp [execOp, resolve, invoke, go_sem, hc, hfn]), tc_below hC (ints_yes e49 e52)⟩) ?_
    refine w_is (fun w => Below.refl _ w) _ (.inl rfl) (fun ρ w hC hc hfn hf => by have e46 : ρ (.tmp 46) = _ := hf 46 (by decide); have e53 : ρ (.tmp 53) = _ := hf 53 (by decide); (conv => lhs; simp [execOp, go_sem, hc, e46, e53])) ?_
    refine w_is (fun w => Below.refl _ w) _ (.inl rfl) (fun ρ w hC hc hfn hf => by have e54 : ρ (.tmp 54) = _ := hf 54 (by decide); (conv => lhs; simp [execOp, go_sem, hc, e54])) ?_
    intro A U6 hC hn hd hf
    have y0 : A.eval (.tmp 0) = _ := Eq.trans (hf 0) (by conv => lhs; simp [go_sem])
    have y1 : A.eval (.tmp 1) = _ := Eq.trans (hf 1) (by conv => lhs; simp [go_sem])
    have y2 : A.eval (.tmp 2) = _ := Eq.trans (hf 2) (by conv => lhs; simp [go_sem])
    have y3 : A.eval (.tmp 3) = _ := Eq.trans (hf 3) (by conv => lhs; simp [go_sem])
    have y4 : A.eval (.tmp 4) = _ := Eq.trans (hf 4) (by conv => lhs; simp [go_sem])
    have y5 : A.eval (.tmp 5) = _ := Eq.trans (hf 5) (by conv => lhs; simp [go_sem])
    have y6 : A.eval (.tmp 6) = _ := Eq.trans (hf 6) (by conv => lhs; simp [go_sem])
    have y7 : A.eval (.tmp 7) = _ := Eq.trans (hf 7) (by conv => lhs; simp [go_sem])
    have y8 : A.eval (.tmp 8) = _ := Eq.trans (hf 8) (by conv => lhs; simp [go_sem])
    have y9 : A.eval (.tmp 9) = _ := Eq.trans (hf 9) (by conv => lhs; simp [go_sem])
    have y10 : A.eval (.tmp 10) = _ := Eq.trans (hf 10) (by conv => lhs; simp [go_sem])
    have y11 : A.eval (.tmp 11) = _ := Eq.trans (hf 11) (by conv => lhs; simp [go_sem])
    have y12 : A.eval (.tmp 12) = _ := hf 12
    have y13 : A.eval (.tmp 13) = _ := Eq.trans (hf 13) (by conv => lhs; simp [go_sem])
    have y14 : A.eval (.tmp 14) = _ := Eq.trans (hf 14) (by conv => lhs; simp [go_sem])
    have y15 : A.eval (.tmp 15) = _ := Eq.trans (hf 15) (by conv => lhs; simp [go_sem])
    have y16 : A.eval (.tmp 16) = _ := Eq.trans (hf 16) (by conv => lhs; simp [go_sem])
    have y17 : A.eval (.tmp 17) = _ := Eq.trans (hf 17) (by conv => lhs; simp [go_sem])
    have y18 : A.eval (.tmp 18) = _ := Eq.trans (hf 18) (by conv => lhs; simp [go_sem])
    have y19 : A.eval (.tmp 19) = _ := Eq.trans (hf 19) (by conv => lhs; simp [go_sem])
    have y20 : A.eval (.tmp 20) = _ := Eq.trans (hf 20) (by conv => lhs; simp [go_sem])
    have y21 : A.eval (.tmp 21) = _ := Eq.trans (hf 21) (by conv => lhs; simp [go_sem])
    have y22 : A.eval (.tmp 22) = _ := Eq.trans (hf 22) (by conv => lhs; simp [go_sem])
    have y23 : A.eval (.tmp 23) = _ := Eq.trans (hf 23) (by conv => lhs; simp [go_sem])
    have y24 : A.eval (.tmp 24) = _ := Eq.trans (hf 24) (by conv => lhs; simp [go_sem])
    have y25 : A.eval (.tmp 25) = _ := Eq.trans (hf 25) (by conv => lhs; simp [go_sem])
    have y26 : A.eval (.tmp 26) = _ := Eq.trans (hf 26) (by conv => lhs; simp [go_sem])
    have y27 : A.eval (.tmp 27) = _ := Eq.trans (hf 27) (by conv => lhs; simp [go_sem])
    have y28 : A.eval (.tmp 28) = _ := Eq.trans (hf 28) (by conv => lhs; simp [go_sem])
    have y29 : A.eval (.tmp 29) = _ := Eq.trans (hf 29) (by conv => lhs; simp [go_sem])
    have y30 : A.eval (.tmp 30) = _ := hf 30
    have y31 : A.eval (.tmp 31) = _ := hf 31
    have y32 : A.eval (.tmp 32) = _ := hf 32
    have y33 : A.eval (.tmp 33) = _ := hf 33
    have y34 : A.eval (.tmp 34) = _ := hf 34
    have y35 : A.eval (.tmp 35) = _ := hf 35
    have y36 : A.eval (.tmp 36) = _ := hf 36
    have y37 : A.eval (.tmp 37) = _ := hf 37
    have y38 : A.eval (.tmp 38) = _ := hf 38
    have y39 : A.eval (.tmp 39) = _ := hf 39
    have y40 := hf 40
    have y41 : A.eval (.tmp 41) = _ := hf 41
    have y42 : A.eval (.tmp 42) = _ := hf 42
    have y43 := hf 43
    have y44 : A.eval (.tmp 44) = _ := hf 44
    have y45 : A.eval (.tmp 45) = _ := hf 45
    have y46 : A.eval (.tmp 46) = _ := hf 46
    have y47 : A.eval (.tmp 47) = _ := hf 47
    have y48 : A.eval (.tmp 48) = _ := hf 48
    have y49 := hf 49
    have y50 : A.eval (.tmp 50) = _ := hf 50
    have y51 : A.eval (.tmp 51) = _ := hf 51
    have y52 := hf 52
    have y53 : A.eval (.tmp 53) = _ := hf 53
    have y54 : A.eval (.tmp 54) = _ := hf 54
    have y55 : A.eval (.tmp 55) = _ := Eq.trans (hf 55) (by conv => lhs; simp [go_sem])
    have y56 : A.eval (.tmp 56) = _ := Eq.trans (hf 56) (by conv => lhs; simp [go_sem])
    have y57 : A.eval (.tmp 57) = _ := Eq.trans (hf 57) (by conv => lhs; simp [go_sem])
    have y58 : A.eval (.tmp 58) = _ := Eq.trans (hf 58) (by conv => lhs; simp [go_sem])
    have y59 : A.eval (.tmp 59) = _ := Eq.trans (hf 59) (by conv => lhs; simp [go_sem])
    have y60 : A.eval (.tmp 60) = _ := Eq.trans (hf 60) (by conv => lhs; simp [go_sem])
    have y61 : A.eval (.tmp 61) = _ := Eq.trans (hf 61) (by conv => lhs; simp [go_sem])
    have y62 : A.eval (.tmp 62) = _ := Eq.trans (hf 62) (by conv => lhs; simp [go_sem])
    have y63 : A.eval (.tmp 63) = _ := Eq.trans (hf 63) (by conv => lhs; simp [go_sem])
    have y64 : A.eval (.tmp 64) = _ := Eq.trans (hf 64) (by conv => lhs; simp [go_sem])
    have y65 : A.eval (.tmp 65) = _ := Eq.trans (hf 65) (by conv => lhs; simp [go_sem])
    have y66 : A.eval (.tmp 66) = _ := Eq.trans (hf 66) (by conv => lhs; simp [go_sem])
    have y67 : A.eval (.tmp 67) = _ := Eq.trans (hf 67) (by conv => lhs; simp [go_sem])
    have y68 : A.eval (.tmp 68) = _ := Eq.trans (hf 68) (by conv => lhs; simp [go_sem])
    have y69 : A.eval (.tmp 69) = _ := Eq.trans (hf 69) (by conv => lhs; simp [go_sem])
    have y70 : A.eval (.tmp 70) = _ := Eq.trans (hf 70) (by conv => lhs; simp [go_sem])
    have y71 : A.eval (.tmp 71) = _ := Eq.trans (hf 71) (by conv => lhs; simp [go_sem])
    have y72 : A.eval (.tmp 72) = _ := Eq.trans (hf 72) (by conv => lhs; simp [go_sem])
    have y73 : A.eval (.tmp 73) = _ := Eq.trans (hf 73) (by conv => lhs; simp [go_sem])
    have y74 : A.eval (.tmp 74) = _ := Eq.trans (hf 74) (by conv => lhs; simp [go_sem])
    have y75 : A.eval (.tmp 75) = _ := Eq.trans (hf 75) (by conv => lhs; simp [go_sem])
    have y76 : A.eval (.tmp 76) = _ := Eq.trans (hf 76) (by conv => lhs; simp [go_sem])
    have y77 : A.eval (.tmp 77) = _ := Eq.trans (hf 77) (by conv => lhs; simp [go_sem])
    have y78 : A.eval (.tmp 78) = _ := Eq.trans (hf 78) (by conv => lhs; simp [go_sem])
    have y79 : A.eval (.tmp 79) = _ := Eq.trans (hf 79) (by conv => lhs; simp [go_sem])
    have y80 : A.eval (.tmp 80) = _ := Eq.trans (hf 80) (by conv => lhs; simp [go_sem])
    clear hf
    have hA := frame_eq hn
    rw [show List.range 81 = [0, 1, 2, 3, 4, 5, 6, 7, 8, 9, 10, 11, 12, 13, 14, 15, 16, 17, 18, 19, 20, 21, 22, 23, 24, 25, 26, 27, 28, 29, 30, 31, 32, 33, 34, 35, 36, 37, 38, 39, 40, 41, 42, 43, 44, 45, 46, 47, 48, 49, 50, 51, 52, 53, 54, 55, 56, 57, 58, 59, 60, 61, 62, 63, 64, 65, 66, 67, 68, 69, 70, 71, 72, 73, 74, 75, 76, 77, 78, 79, 80] from rfl, hd] at hA
    simp only [List.map_cons, List.map_nil, y0, y1, y2, y3, y4, y5, y6, y7, y8, y9, y10, y11, y12, y13, y14, y15, y16, y17, y18, y19, y20, y21, y22, y23, y24, y25, y26, y27, y28, y29, y30, y31, y32, y33, y34, y35, y36, y37, y38, y39, y41, y42, y44, y45, y46, y47, y48, y50, y51, y53, y54, y55, y56, y57, y58, y59, y60, y61, y62, y63, y64, y65, y66, y67, y68, y69, y70, y71, y72, y73, y74, y75, y76, y77, y78, y79, y80] at hA
    change (fun u w => Zs w u (dirI z0 x1 1)) (A.eval (.tmp 40)) U6 at y40
    change (fun u w => Zs w u (dirI z0 x1 1)) (A.eval (.tmp 43)) U6 at y43
    change (fun u w => Zs w u (dirI z0 x1 2)) (A.eval (.tmp 49)) U6 at y49
    change (fun u w => Zs w u (dirI z0 x1 2)) (A.eval (.tmp 52)) U6 at y52
    clear y0 y1 y2 y3 y4 y5 y6 y7 y8 y9 y10 y11 y12 y13 y14 y15 y16 y17 y18 y19 y20 y21 y22 y23 y24 y25 y26 y27 y28 y29 y30 y31 y32 y33 y34 y35 y36 y37 y38 y39 y41 y42 y44 y45 y46 y47 y48 y50 y51 y53 y54 y55 y56 y57 y58 y59 y60 y61 y62 y63 y64 y65 y66 y67 y68 y69 y70 y71 y72 y73 y74 y75 y76 y77 y78 y79 y80
    generalize A.eval (.tmp 40) = v40 at *
    generalize A.eval (.tmp 43) = v43 at *
    generalize A.eval (.tmp 49) = v49 at *
    generalize A.eval (.tmp 52) = v52 at *
    clear hn hd
    subst hA
    clear kc cD cRD cU cRU c1 c2
    replace H0 := Lib.hid (H0.out.below hC)
    replace HO := Lib.hid (HO.out.below hC)
    replace X1 := Lib.hid (X1.out.below hC)
    replace X2 := Lib.hid (X2.out.below hC)
    replace HB := Lib.hid (HB.out.trans (hC.mono HB.out.size))
    clear hC
    go_wp2_with fail
    refine (awake18 _).mono ?_
    rintro e W5 ⟨rfl, hb⟩
    replace H0 := Lib.hid (H0.out.below hb)
    replace HO := Lib.hid (HO.out.below hb)
    replace HB := Lib.hid (HB.out.trans (hb.mono HB.out.size))
    clear hb
    go_wp2_with fail
    refine (llev_any _ z0 _ HO.out (Nat.le_trans HL.out (by decide))).mono ?_
    rintro e W6 ⟨r1, rfl, hv, hb⟩
    replace H0 := Lib.hid (H0.out.below hb)
    replace HO := Lib.hid (HO.out.below hb)
    replace HB := Lib.hid (HB.out.trans (hb.mono HB.out.size))
    have HP := Lib.hid hv
    obtain ⟨ap, cp, rfl⟩ := hv.form
    clear hv
    clear hb
    go_wp2_with fail
    refine (rlev_any _ z0 _ H0.out (Nat.le_trans HL.out (by decide))).mono ?_
    rintro e W7 ⟨r2, rfl, hv, hb⟩
    replace H0 := Lib.hid (H0.out.below hb)
    replace HO := Lib.hid (HO.out.below hb)
    replace HP := Lib.hid (HP.out.below hb)
    replace HB := Lib.hid (HB.out.trans (hb.mono HB.out.size))
    have HQ := Lib.hid hv
    obtain ⟨aq, cq, rfl⟩ := hv.form
    clear hv
    clear hb
    go_wp2_with fail
    refine (lsame_yes HP.out HQ.out (Nat.le_trans (lvlF_len z0) (by have := HL.out; omega))).mono ?_
    rintro e W8 ⟨rfl, hb⟩
    replace H0 := Lib.hid (H0.out.below hb)
    replace HO := Lib.hid (HO.out.below hb)
    replace HP := Lib.hid (HP.out.below hb)
    replace HQ := Lib.hid (HQ.out.below hb)
    replace HB := Lib.hid (HB.out.trans (hb.mono HB.out.size))
    clear hb
    go_wp2_with fail
    refine (vsame_yes HO.out H0.out (Nat.le_trans HL.out (by decide))).mono ?_
    rintro e W9 ⟨rfl, hb⟩
    replace H0 := Lib.hid (H0.out.below hb)
    replace HO := Lib.hid (HO.out.below hb)
    replace HP := Lib.hid (HP.out.below hb)
    replace HQ := Lib.hid (HQ.out.below hb)
    replace HB := Lib.hid (HB.out.trans (hb.mono HB.out.size))
    clear hb
    go_wp2_with fail
    go_ret
    exact ⟨rfl, HB.out⟩
theorem walk (a0 : Option Addr) (cap0 : Nat) (z0 : List Vw) (n1 : Bool) (t1 o1 r1 d1 i1 : Int) (w1 : I64 t1 ∧ I64 o1 ∧ I64 r1 ∧ I64 d1 ∧ I64 i1) (n2 : Bool) (t2 o2 r2 d2 i2 : Int) (w2 : I64 t2 ∧ I64 o2 ∧ I64 r2 ∧ I64 d2 ∧ I64 i2) (w : World) (r0 : Vs w (.slice a0 z0.length cap0) z0) :
    Calls Try.prog 3 #[.slice a0 z0.length cap0, .agg #[.bool n1, .int .i64 t1, .int .i64 o1, .int .i64 r1, .int .i64 d1, .int .i64 i1], .agg #[.bool n2, .int .i64 t2, .int .i64 o2, .int .i64 r2, .int .i64 d2, .int .i64 i2]] w fun e w' => e = .returned (.bool true) ∧ Below w.heap.size w w' := walk0 a0 cap0 z0 (n1, t1, o1, r1, d1, i1) (n2, t2, o2, r2, d2, i2) w r0

set_option maxRecDepth 100000 in
theorem lifted (os : _root_.Go.Os) (started : os.Started) (H : Type) (enc : TypeId × Value → H) :
    ReturnsInHanded {} Try.checked os 3 .any (Rows.linksLieSpec.pre6 enc Try.prog Try.f3 Rows.linksLieRow.domain false) (Rows.linksLieSpec.post enc Try.prog Try.f3 false true false false) := by
  refine returnsInHanded_of_change (C := Try.checked) own started (by kernel_rfl) Try.func3
    (ChangeSpec.witness6 (enc := enc) (C := Try.checked) false ⟨#[], #[.slice none 0 0, .agg #[.bool false, .int .i64 0, .int .i64 0, .int .i64 0, .int .i64 0, .int .i64 0], .agg #[.bool false, .int .i64 0, .int .i64 0, .int .i64 0, .int .i64 0, .int .i64 0]], []⟩ 16 (by kernel_rfl) (by kernel_rfl) (by kernel_rfl) (by kernel_rfl)) ?_
  intro W base args ds gs before hval0 hW hcnd _
  have hval : ∀ (j : Nat) t v, Try.f3.params[j]? = some t → args[j]? = some v → Value.okWide Try.prog W .any base t v := hval0
  have hW' := hW
  obtain ⟨p, q, hA0, hV, rfl, hfz, hnd⟩ := hW
  have hA : DataW.TrodAll enc Try.prog W 0 (fun _ => true) true Try.f3.params.toList args.toList ds p := hA0
  rw [Try.params3] at hA hval
  obtain ⟨v0, vs0, e0, ds0, p0, q0, hargs, rfl, rfl, h0, x0⟩ := trodAll_cons hA
  obtain ⟨v1, vs1, e1, ds1, p1, q1, rfl, rfl, rfl, h1, x1⟩ := trodAll_cons x0
  obtain ⟨v2, vs2, e2, ds2, p2, q2, rfl, rfl, rfl, h2, x2⟩ := trodAll_cons x1
  obtain ⟨rfl, rfl, rfl⟩ := trodAll_nil x2
  obtain rfl : args = #[v0, v1, v2] := by cases args; simp_all
  obtain ⟨rfl, rfl⟩ := trodVars_none hV
  have k0 := h0
  have lt0 : ∀ x ∈ p0, x.block < W.heap.size := by obtain ⟨m, hm⟩ := k0; exact DataW.trod_lt m _ _ _ hm
  have k1 := h1
  have lt1 : ∀ x ∈ p1, x.block < W.heap.size := by obtain ⟨m, hm⟩ := k1; exact DataW.trod_lt m _ _ _ hm
  obtain ⟨n1, t1, o1, r1, d1, i1, rfl, w1⟩ := ht_form (hval 1 24 v1 rfl rfl) h1
  have k2 := h2
  have lt2 : ∀ x ∈ p2, x.block < W.heap.size := by obtain ⟨m, hm⟩ := k2; exact DataW.trod_lt m _ _ _ hm
  obtain ⟨n2, t2, o2, r2, d2, i2, rfl, w2⟩ := ht_form (hval 2 24 v2 rfl rfl) h2
  obtain ⟨a0, len0, cap0, rfl⟩ := okWide_slice underVS (hval 0 22 v0 rfl rfl)
  obtain ⟨z0, hz0, w0, hm0⟩ := vs_form h0
  subst hz0
  clear hA0 hval0
  refine (walk a0 cap0 z0 n1 t1 o1 r1 d1 i1 w1 n2 t2 o2 r2 d2 i2 w2 W w0).mono fun e W' ⟨he, bel⟩ => ?_
  subst he
  exact ⟨_, rfl, _, _, _, [], _, [], hW', trodAll_mk1 (shut_bool Try.underlying4 _), (trodAll_cons_mk (Below.trod laidOut (by kernel_rfl) (of_decide_eq_true (by kernel_rfl)) k0 bel lt0) (trodAll_cons_mk (Below.trod laidOut (by kernel_rfl) (of_decide_eq_true (by kernel_rfl)) k1 bel lt1) (trodAll_cons_mk (Below.trod laidOut (by kernel_rfl) (of_decide_eq_true (by kernel_rfl)) k2 bel lt2) trodAll_mk0))), rfl, bel.frame _, fun h => by cases h⟩

theorem over : Rows.linksLieRow.holds Try.pinned (OpenSpec.ofChange Rows.linksLieSpec) :=
  OpenClaim.holds_of_wide 3 Try.f3 rfl rfl rfl rfl rfl rfl rfl ⟨rfl, rfl, rfl, rfl, rfl⟩ rfl rfl rfl rfl rfl (by kernel_rfl) Try.func3 (by kernel_rfl)
    (of_decide_eq_true (by kernel_rfl)) (by unfold Func.isWrapper; first | (rw [if_pos (by decide +kernel)]; kernel_rfl) | (rw [if_neg (by decide +kernel)]; exact ⟨rfl, rfl⟩))
    (fun os started H enc _ => lifted os started H enc)

theorem proved : Rows.LinksLieSaid := over
#print axioms proved
end Go.Proofs.Ytmimgpnogjgliaa.linksLie
