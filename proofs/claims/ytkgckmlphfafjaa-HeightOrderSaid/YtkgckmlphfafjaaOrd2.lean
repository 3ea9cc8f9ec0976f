/- Cases of the law HeightOrder: what is told of two heights is given. No other conditions. -/
import Derived.Test.YtkgckmlphfafjaaOrd0
import Derived.WalkLawsBesides
import Derived.WalkKit
import Derived.ProofKit
import Derived.OpenShut
import Derived.ShutString
import Derived.ChangeOld
import Derived.Below
namespace Go.Proofs.Ytkgckmlphfafjaa.heightOrder
open Go.ChangeShapes Go.WideShapes Go.ChangeAt Go.RowKit Go.Sort
open Go.ChangeMaps (open_string shut_string)
set_option linter.unusedVariables false


set_option maxHeartbeats 16000000 in
theorem case_a3 (t0 o0 r0 d0 i0 : Int) (w0 : I64 t0 ∧ I64 o0 ∧ I64 r0 ∧ I64 d0 ∧ I64 i0) (t1 o1 r1 d1 i1 : Int) (w1 : I64 t1 ∧ I64 o1 ∧ I64 r1 ∧ I64 d1 ∧ I64 i1) (n2 : Bool) (t2 o2 r2 d2 i2 : Int) (w2 : I64 t2 ∧ I64 o2 ∧ I64 r2 ∧ I64 d2 ∧ I64 i2) (w : World)
    (hAB : lessB false t0 o0 r0 d0 i0 false t1 o1 r1 d1 i1 = false) (hBA : lessB false t1 o1 r1 d1 i1 false t0 o0 r0 d0 i0 = false) (hAA : lessB false t0 o0 r0 d0 i0 false t0 o0 r0 d0 i0 = false) (hcA : chk false t0 o0 r0 d0 i0 = 0) (hcB : chk false t1 o1 r1 d1 i1 = 0) (hE : eqH false t0 o0 r0 d0 i0 false t1 o1 r1 d1 i1 = true) (hP : ordL (lv (told false t0 o0 r0 d0 i0) t0) (lv (told false t0 o0 r0 d0 i0) o0) (lv (told false t0 o0 r0 d0 i0) r0) (lv (told false t1 o1 r1 d1 i1) t1) (lv (told false t1 o1 r1 d1 i1) o1) (lv (told false t1 o1 r1 d1 i1) r1) = 0) :
    Calls Try.prog 5 #[.agg #[.bool false, .int .i64 t0, .int .i64 o0, .int .i64 r0, .int .i64 d0, .int .i64 i0], .agg #[.bool false, .int .i64 t1, .int .i64 o1, .int .i64 r1, .int .i64 d1, .int .i64 i1], .agg #[.bool n2, .int .i64 t2, .int .i64 o2, .int .i64 r2, .int .i64 d2, .int .i64 i2]] w fun e w' => e = .returned (.bool true) ∧ Below w.heap.size w w' := by
  have clA := lev_any false t0 o0 r0 d0 i0
  have clB := lev_any false t1 o1 r1 d1 i1
  go_enter Try.func5, Try.ntmps5
  go_wp2_with fail
  have KA := Lib.hid (((cells6_alloc w false t0 o0 r0 d0 i0 23).below ((Below.refl _ _).alloc (Nat.le_refl _) (.cells #[.bool false, .int .i64 t1, .int .i64 o1, .int .i64 r1, .int .i64 d1, .int .i64 i1] 23))).below ((Below.refl _ _).alloc (Nat.le_refl _) (.cells #[.bool n2, .int .i64 t2, .int .i64 o2, .int .i64 r2, .int .i64 d2, .int .i64 i2] 23)))
  have KB := Lib.hid (((own6_alloc (w.alloc (.cells #[.bool false, .int .i64 t0, .int .i64 o0, .int .i64 r0, .int .i64 d0, .int .i64 i0] 23)) false t1 o1 r1 d1 i1 23 (w.heap.size + 1) (by simp)).below ((Below.refl _ _).alloc (Nat.le_refl _) (.cells #[.bool n2, .int .i64 t2, .int .i64 o2, .int .i64 r2, .int .i64 d2, .int .i64 i2] 23))).1)
  have KC := Lib.hid ((own6_alloc ((w.alloc (.cells #[.bool false, .int .i64 t0, .int .i64 o0, .int .i64 r0, .int .i64 d0, .int .i64 i0] 23)).alloc (.cells #[.bool false, .int .i64 t1, .int .i64 o1, .int .i64 r1, .int .i64 d1, .int .i64 i1] 23)) n2 t2 o2 r2 d2 i2 23 (w.heap.size + 1 + 1) (by simp)).1)
  have HB : Hid (Below w.heap.size w (((w.alloc (.cells #[.bool false, .int .i64 t0, .int .i64 o0, .int .i64 r0, .int .i64 d0, .int .i64 i0] 23)).alloc (.cells #[.bool false, .int .i64 t1, .int .i64 o1, .int .i64 r1, .int .i64 d1, .int .i64 i1] 23)).alloc (.cells #[.bool n2, .int .i64 t2, .int .i64 o2, .int .i64 r2, .int .i64 d2, .int .i64 i2] 23))) := (((Below.refl _ w).alloc (Nat.le_refl _) _).alloc (by simp) _).alloc (by simp; omega) _
  generalize (((w.alloc (.cells #[.bool false, .int .i64 t0, .int .i64 o0, .int .i64 r0, .int .i64 d0, .int .i64 i0] 23)).alloc (.cells #[.bool false, .int .i64 t1, .int .i64 o1, .int .i64 r1, .int .i64 d1, .int .i64 i1] 23)).alloc (.cells #[.bool n2, .int .i64 t2, .int .i64 o2, .int .i64 r2, .int .i64 d2, .int .i64 i2] 23)) = V1 at *
  obtain ⟨a0, a1, a2, a3, a4, a5⟩ := KA.out; obtain ⟨b0, b1, b2, b3, b4, b5⟩ := KB.out; obtain ⟨c0, c1, c2, c3, c4, c5⟩ := KC.out
  go_wp2_with (first
    | (go_at_call 14; refine (less_any _ _ _ _ _ _ _ _ _ _ _ _ _).mono ?_; rintro e V1 ⟨rfl, hb⟩; (first | rw [hAB] | rw [hBA] | rw [hAA] | rw [hBC] | rw [hAC]); replace KA := Lib.hid (KA.out.below hb); replace KB := Lib.hid (KB.out.below hb); replace KC := Lib.hid (KC.out.below hb); replace HB := Lib.hid (HB.out.trans (hb.mono HB.out.size)); clear hb; clear a0 a1 a2 a3 a4 a5 b0 b1 b2 b3 b4 b5 c0 c1 c2 c3 c4 c5; obtain ⟨a0, a1, a2, a3, a4, a5⟩ := KA.out; obtain ⟨b0, b1, b2, b3, b4, b5⟩ := KB.out; obtain ⟨c0, c1, c2, c3, c4, c5⟩ := KC.out)
    | (go_at_call 12; refine (check_any _ _ _ _ _ _ _).mono ?_; rintro e V1 ⟨rfl, hb⟩; (first | rw [hcA] | rw [hcB]); replace KA := Lib.hid (KA.out.below hb); replace KB := Lib.hid (KB.out.below hb); replace KC := Lib.hid (KC.out.below hb); replace HB := Lib.hid (HB.out.trans (hb.mono HB.out.size)); clear hb; clear a0 a1 a2 a3 a4 a5 b0 b1 b2 b3 b4 b5 c0 c1 c2 c3 c4 c5; obtain ⟨a0, a1, a2, a3, a4, a5⟩ := KA.out; obtain ⟨b0, b1, b2, b3, b4, b5⟩ := KB.out; obtain ⟨c0, c1, c2, c3, c4, c5⟩ := KC.out))
  have kc : ∀ w', Below V1.heap.size V1 w' → Cells6 w' w.heap.size false t0 o0 r0 d0 i0 ∧ Cells6 w' (w.heap.size + 1) false t1 o1 r1 d1 i1 := fun w' h => ⟨KA.out.below h, KB.out.below h⟩
  unfold Cells6 at kc
  refine wp_region_typed (C := fun w' => Below V1.heap.size V1 w') (X := fun w w' => Below w.heap.size w w') (n := 115) (by kernel_rfl) (by kernel_rfl) rfl (fun w => Below.refl _ w) (Below.refl _ _).drew ?_
  refine w_is (fun w => Below.refl _ w) _ (.inl rfl) (fun ρ w hC hc hfn hf => by have e3 : ρ (.tmp 3) = _ := hf 3 (by decide); (conv => lhs; simp [execOp, go_sem, hc, e3, kc w hC])) ?_
  refine w_call (Is _) (fun _ _ _ h _ => h) 16 (.inl rfl) (fun ρ w hC hc hfn hf => by have e69 : ρ (.tmp 69) = _ := hf 69 (by decide); exact ⟨_, by (conv => lhs; simp [execOp, resolve, invoke, go_sem, hc, hfn, e69]), (tc_below hC (clA w))⟩) ?_
  refine w_is (fun w => Below.refl _ w) _ (.inl rfl) (fun ρ w hC hc hfn hf => by have e4 : ρ (.tmp 4) = _ := hf 4 (by decide); (conv => lhs; simp [execOp, go_sem, hc, e4, kc w hC])) ?_
  refine w_call (Is _) (fun _ _ _ h _ => h) 16 (.inl rfl) (fun ρ w hC hc hfn hf => by have e71 : ρ (.tmp 71) = _ := hf 71 (by decide); exact ⟨_, by (conv => lhs; simp [execOp, resolve, invoke, go_sem, hc, hfn, e71]), (tc_below hC (clB w))⟩) ?_
  refine w_call (Is _) (fun _ _ _ h _ => h) 18 (.inl rfl) (fun ρ w hC hc hfn hf => by have e70 : ρ (.tmp 70) = _ := hf 70 (by decide); have e72 : ρ (.tmp 72) = _ := hf 72 (by decide); exact ⟨_, by (conv => lhs; simp [execOp, resolve, invoke, go_sem, hc, hfn, e70, e72]), (tc_below hC (order_any _ _ _ _ _ _ w))⟩) ?_
  refine w_is (fun w => Below.refl _ w) _ (.inl rfl) (fun ρ w hC hc hfn hf => by have e73 : ρ (.tmp 73) = _ := hf 73 (by decide); (conv => lhs; simp [execOp, go_sem, hc, e73])) ?_
  intro A V2 hC hn hd hf
  have y0 : A.eval (.tmp 0) = _ := Eq.trans (hf 0) (by conv => lhs; simp [go_sem])
  have y1 : A.eval (.tmp 1) = _ := Eq.trans (hf 1) (by conv => lhs; simp [go_sem])
  have y2 : A.eval (.tmp 2) = _ := Eq.trans (hf 2) (by conv => lhs; simp [go_sem])
  have y3 : A.eval (.tmp 3) = _ := Eq.trans (hf 3) (by conv => lhs; simp [go_sem])
  have y4 : A.eval (.tmp 4) = _ := Eq.trans (hf 4) (by conv => lhs; simp [go_sem])
  have y5 : A.eval (.tmp 5) = _ := Eq.trans (hf 5) (by conv => lhs; simp [go_sem])
  have y6 : A.eval (.tmp 6) = _ := Eq.trans (hf 6) (by conv => lhs; simp [go_sem])
  have y7 : A.eval (.tmp 7) = _ := Eq.trans (hf 7) (by conv => lhs; simp [go_sem])
  have y8 : A.eval (.tmp 8) = _ := Eq.trans (hf 8) (by conv => lhs; simp [go_sem])
  have y9 : A.eval (.tmp 9) = _ := Eq.trans (hf 9) (by conv => lhs; simp [go_sem])
  have y10 : A.eval (.tmp 10) = _ := hf 10
  have y11 : A.eval (.tmp 11) = _ := Eq.trans (hf 11) (by conv => lhs; simp [go_sem])
  have y12 : A.eval (.tmp 12) = _ := Eq.trans (hf 12) (by conv => lhs; simp [go_sem])
  have y13 : A.eval (.tmp 13) = _ := Eq.trans (hf 13) (by conv => lhs; simp [go_sem])
  have y14 : A.eval (.tmp 14) = _ := Eq.trans (hf 14) (by conv => lhs; simp [go_sem])
  have y15 : A.eval (.tmp 15) = _ := Eq.trans (hf 15) (by conv => lhs; simp [go_sem])
  have y16 : A.eval (.tmp 16) = _ := Eq.trans (hf 16) (by conv => lhs; simp [go_sem])
  have y17 : A.eval (.tmp 17) = _ := Eq.trans (hf 17) (by conv => lhs; simp [go_sem])
  have y18 : A.eval (.tmp 18) = _ := Eq.trans (hf 18) (by conv => lhs; simp [go_sem])
  have y19 : A.eval (.tmp 19) = _ := Eq.trans (hf 19) (by conv => lhs; simp [go_sem])
  have y20 : A.eval (.tmp 20) = _ := Eq.trans (hf 20) (by conv => lhs; simp [go_sem])
  have y21 : A.eval (.tmp 21) = _ := Eq.trans (hf 21) (by conv => lhs; simp [go_sem])
  have y22 : A.eval (.tmp 22) = _ := Eq.trans (hf 22) (by conv => lhs; simp [go_sem])
  have y23 : A.eval (.tmp 23) = _ := Eq.trans (hf 23) (by conv => lhs; simp [go_sem])
  have y24 : A.eval (.tmp 24) = _ := Eq.trans (hf 24) (by conv => lhs; simp [go_sem])
  have y25 : A.eval (.tmp 25) = _ := Eq.trans (hf 25) (by conv => lhs; simp [go_sem])
  have y26 : A.eval (.tmp 26) = _ := Eq.trans (hf 26) (by conv => lhs; simp [go_sem])
  have y27 : A.eval (.tmp 27) = _ := Eq.trans (hf 27) (by conv => lhs; simp [go_sem])
  have y28 : A.eval (.tmp 28) = _ := Eq.trans (hf 28) (by conv => lhs; simp [go_sem])
  have y29 : A.eval (.tmp 29) = _ := Eq.trans (hf 29) (by conv => lhs; simp [go_sem])
  have y30 : A.eval (.tmp 30) = _ := Eq.trans (hf 30) (by conv => lhs; simp [go_sem])
  have y31 : A.eval (.tmp 31) = _ := Eq.trans (hf 31) (by conv => lhs; simp [go_sem])
  have y32 : A.eval (.tmp 32) = _ := Eq.trans (hf 32) (by conv => lhs; simp [go_sem])
  have y33 : A.eval (.tmp 33) = _ := Eq.trans (hf 33) (by conv => lhs; simp [go_sem])
  have y34 : A.eval (.tmp 34) = _ := Eq.trans (hf 34) (by conv => lhs; simp [go_sem])
  have y35 : A.eval (.tmp 35) = _ := Eq.trans (hf 35) (by conv => lhs; simp [go_sem])
  have y36 : A.eval (.tmp 36) = _ := Eq.trans (hf 36) (by conv => lhs; simp [go_sem])
  have y37 : A.eval (.tmp 37) = _ := Eq.trans (hf 37) (by conv => lhs; simp [go_sem])
  have y38 : A.eval (.tmp 38) = _ := Eq.trans (hf 38) (by conv => lhs; simp [go_sem])
  have y39 : A.eval (.tmp 39) = _ := Eq.trans (hf 39) (by conv => lhs; simp [go_sem])
  have y40 : A.eval (.tmp 40) = _ := Eq.trans (hf 40) (by conv => lhs; simp [go_sem])
  have y41 : A.eval (.tmp 41) = _ := Eq.trans (hf 41) (by conv => lhs; simp [go_sem])
  have y42 : A.eval (.tmp 42) = _ := Eq.trans (hf 42) (by conv => lhs; simp [go_sem])
  have y43 : A.eval (.tmp 43) = _ := Eq.trans (hf 43) (by conv => lhs; simp [go_sem])
  have y44 : A.eval (.tmp 44) = _ := Eq.trans (hf 44) (by conv => lhs; simp [go_sem])
  have y45 : A.eval (.tmp 45) = _ := Eq.trans (hf 45) (by conv => lhs; simp [go_sem])
  have y46 : A.eval (.tmp 46) = _ := Eq.trans (hf 46) (by conv => lhs; simp [go_sem])
  have y47 : A.eval (.tmp 47) = _ := Eq.trans (hf 47) (by conv => lhs; simp [go_sem])
  have y48 : A.eval (.tmp 48) = _ := Eq.trans (hf 48) (by conv => lhs; simp [go_sem])
  have y49 : A.eval (.tmp 49) = _ := Eq.trans (hf 49) (by conv => lhs; simp [go_sem])
  have y50 : A.eval (.tmp 50) = _ := Eq.trans (hf 50) (by conv => lhs; simp [go_sem])
  have y51 : A.eval (.tmp 51) = _ := Eq.trans (hf 51) (by conv => lhs; simp [go_sem])
  have y52 : A.eval (.tmp 52) = _ := Eq.trans (hf 52) (by conv => lhs; simp [go_sem])
  have y53 : A.eval (.tmp 53) = _ := Eq.trans (hf 53) (by conv => lhs; simp [go_sem])
  have y54 : A.eval (.tmp 54) = _ := Eq.trans (hf 54) (by conv => lhs; simp [go_sem])
  have y55 : A.eval (.tmp 55) = _ := Eq.trans (hf 55) (by conv => lhs; simp [go_sem])
  have y56 : A.eval (.tmp 56) = _ := Eq.trans (hf 56) (by conv => lhs; simp [go_sem])
  have y57 : A.eval (.tmp 57) = _ := Eq.trans (hf 57) (by conv => lhs; simp [go_sem])
  have y58 : A.eval (.tmp 58) = _ := Eq.trans (hf 58) (by conv => lhs; simp [go_sem])
  have y59 : A.eval (.tmp 59) = _ := Eq.trans (hf 59) (by conv => lhs; simp [go_sem])
  have y60 : A.eval (.tmp 60) = _ := Eq.trans (hf 60) (by conv => lhs; simp [go_sem])
  have y61 : A.eval (.tmp 61) = _ := Eq.trans (hf 61) (by conv => lhs; simp [go_sem])
  have y62 : A.eval (.tmp 62) = _ := Eq.trans (hf 62) (by conv => lhs; simp [go_sem])
  have y63 : A.eval (.tmp 63) = _ := Eq.trans (hf 63) (by conv => lhs; simp [go_sem])
  have y64 : A.eval (.tmp 64) = _ := Eq.trans (hf 64) (by conv => lhs; simp [go_sem])
  have y65 : A.eval (.tmp 65) = _ := Eq.trans (hf 65) (by conv => lhs; simp [go_sem])
  have y66 : A.eval (.tmp 66) = _ := Eq.trans (hf 66) (by conv => lhs; simp [go_sem])
  have y67 : A.eval (.tmp 67) = _ := Eq.trans (hf 67) (by conv => lhs; simp [go_sem])
  have y68 : A.eval (.tmp 68) = _ := Eq.trans (hf 68) (by conv => lhs; simp [go_sem])
  have y69 : A.eval (.tmp 69) = _ := hf 69
  have y70 : A.eval (.tmp 70) = _ := hf 70
  have y71 : A.eval (.tmp 71) = _ := hf 71
  have y72 : A.eval (.tmp 72) = _ := hf 72
  have y73 : A.eval (.tmp 73) = _ := hf 73
  have y74 : A.eval (.tmp 74) = _ := Eq.trans (hf 74) (by conv => lhs; simp [go_sem])
  have y75 : A.eval (.tmp 75) = _ := Eq.trans (hf 75) (by conv => lhs; simp [go_sem])
  have y76 : A.eval (.tmp 76) = _ := Eq.trans (hf 76) (by conv => lhs; simp [go_sem])
  have y77 : A.eval (.tmp 77) = _ := Eq.trans (hf 77) (by conv => lhs; simp [go_sem])
  have y78 : A.eval (.tmp 78) = _ := Eq.trans (hf 78) (by conv => lhs; simp [go_sem])
  have y79 : A.eval (.tmp 79) = _ := Eq.trans (hf 79) (by conv => lhs; simp [go_sem])
  have y80 : A.eval (.tmp 80) = _ := Eq.trans (hf 80) (by conv => lhs; simp [go_sem])
  have y81 : A.eval (.tmp 81) = _ := Eq.trans (hf 81) (by conv => lhs; simp [go_sem])
  have y82 : A.eval (.tmp 82) = _ := Eq.trans (hf 82) (by conv => lhs; simp [go_sem])
  have y83 : A.eval (.tmp 83) = _ := Eq.trans (hf 83) (by conv => lhs; simp [go_sem])
  have y84 : A.eval (.tmp 84) = _ := Eq.trans (hf 84) (by conv => lhs; simp [go_sem])
  have y85 : A.eval (.tmp 85) = _ := Eq.trans (hf 85) (by conv => lhs; simp [go_sem])
  have y86 : A.eval (.tmp 86) = _ := Eq.trans (hf 86) (by conv => lhs; simp [go_sem])
  have y87 : A.eval (.tmp 87) = _ := Eq.trans (hf 87) (by conv => lhs; simp [go_sem])
  have y88 : A.eval (.tmp 88) = _ := Eq.trans (hf 88) (by conv => lhs; simp [go_sem])
  have y89 : A.eval (.tmp 89) = _ := Eq.trans (hf 89) (by conv => lhs; simp [go_sem])
  have y90 : A.eval (.tmp 90) = _ := Eq.trans (hf 90) (by conv => lhs; simp [go_sem])
  have y91 : A.eval (.tmp 91) = _ := Eq.trans (hf 91) (by conv => lhs; simp [go_sem])
  have y92 : A.eval (.tmp 92) = _ := Eq.trans (hf 92) (by conv => lhs; simp [go_sem])
  have y93 : A.eval (.tmp 93) = _ := Eq.trans (hf 93) (by conv => lhs; simp [go_sem])
  have y94 : A.eval (.tmp 94) = _ := Eq.trans (hf 94) (by conv => lhs; simp [go_sem])
  have y95 : A.eval (.tmp 95) = _ := Eq.trans (hf 95) (by conv => lhs; simp [go_sem])
  have y96 : A.eval (.tmp 96) = _ := Eq.trans (hf 96) (by conv => lhs; simp [go_sem])
  have y97 : A.eval (.tmp 97) = _ := Eq.trans (hf 97) (by conv => lhs; simp [go_sem])
  have y98 : A.eval (.tmp 98) = _ := Eq.trans (hf 98) (by conv => lhs; simp [go_sem])
  have y99 : A.eval (.tmp 99) = _ := Eq.trans (hf 99) (by conv => lhs; simp [go_sem])
  have y100 : A.eval (.tmp 100) = _ := Eq.trans (hf 100) (by conv => lhs; simp [go_sem])
  have y101 : A.eval (.tmp 101) = _ := Eq.trans (hf 101) (by conv => lhs; simp [go_sem])
  have y102 : A.eval (.tmp 102) = _ := Eq.trans (hf 102) (by conv => lhs; simp [go_sem])
  have y103 : A.eval (.tmp 103) = _ := Eq.trans (hf 103) (by conv => lhs; simp [go_sem])
  have y104 : A.eval (.tmp 104) = _ := Eq.trans (hf 104) (by conv => lhs; simp [go_sem])
  have y105 : A.eval (.tmp 105) = _ := Eq.trans (hf 105) (by conv => lhs; simp [go_sem])
  have y106 : A.eval (.tmp 106) = _ := Eq.trans (hf 106) (by conv => lhs; simp [go_sem])
  have y107 : A.eval (.tmp 107) = _ := Eq.trans (hf 107) (by conv => lhs; simp [go_sem])
  have y108 : A.eval (.tmp 108) = _ := Eq.trans (hf 108) (by conv => lhs; simp [go_sem])
  have y109 : A.eval (.tmp 109) = _ := Eq.trans (hf 109) (by conv => lhs; simp [go_sem])
  have y110 : A.eval (.tmp 110) = _ := Eq.trans (hf 110) (by conv => lhs; simp [go_sem])
  have y111 : A.eval (.tmp 111) = _ := Eq.trans (hf 111) (by conv => lhs; simp [go_sem])
  have y112 : A.eval (.tmp 112) = _ := Eq.trans (hf 112) (by conv => lhs; simp [go_sem])
  have y113 : A.eval (.tmp 113) = _ := Eq.trans (hf 113) (by conv => lhs; simp [go_sem])
  have y114 : A.eval (.tmp 114) = _ := Eq.trans (hf 114) (by conv => lhs; simp [go_sem])
  clear hf
  have hA := frame_eq hn
  rw [show List.range 115 = [0, 1, 2, 3, 4, 5, 6, 7, 8, 9, 10, 11, 12, 13, 14, 15, 16, 17, 18, 19, 20, 21, 22, 23, 24, 25, 26, 27, 28, 29, 30, 31, 32, 33, 34, 35, 36, 37, 38, 39, 40, 41, 42, 43, 44, 45, 46, 47, 48, 49, 50, 51, 52, 53, 54, 55, 56, 57, 58, 59, 60, 61, 62, 63, 64, 65, 66, 67, 68, 69, 70, 71, 72, 73, 74, 75, 76, 77, 78, 79, 80, 81, 82, 83, 84, 85, 86, 87, 88, 89, 90, 91, 92, 93, 94, 95, 96, 97, 98, 99, 100, 101, 102, 103, 104, 105, 106, 107, 108, 109, 110, 111, 112, 113, 114] from rfl, hd] at hA
  simp only [List.map_cons, List.map_nil, y0, y1, y2, y3, y4, y5, y6, y7, y8, y9, y10, y11, y12, y13, y14, y15, y16, y17, y18, y19, y20, y21, y22, y23, y24, y25, y26, y27, y28, y29, y30, y31, y32, y33, y34, y35, y36, y37, y38, y39, y40, y41, y42, y43, y44, y45, y46, y47, y48, y49, y50, y51, y52, y53, y54, y55, y56, y57, y58, y59, y60, y61, y62, y63, y64, y65, y66, y67, y68, y69, y70, y71, y72, y73, y74, y75, y76, y77, y78, y79, y80, y81, y82, y83, y84, y85, y86, y87, y88, y89, y90, y91, y92, y93, y94, y95, y96, y97, y98, y99, y100, y101, y102, y103, y104, y105, y106, y107, y108, y109, y110, y111, y112, y113, y114] at hA
  clear y0 y1 y2 y3 y4 y5 y6 y7 y8 y9 y10 y11 y12 y13 y14 y15 y16 y17 y18 y19 y20 y21 y22 y23 y24 y25 y26 y27 y28 y29 y30 y31 y32 y33 y34 y35 y36 y37 y38 y39 y40 y41 y42 y43 y44 y45 y46 y47 y48 y49 y50 y51 y52 y53 y54 y55 y56 y57 y58 y59 y60 y61 y62 y63 y64 y65 y66 y67 y68 y69 y70 y71 y72 y73 y74 y75 y76 y77 y78 y79 y80 y81 y82 y83 y84 y85 y86 y87 y88 y89 y90 y91 y92 y93 y94 y95 y96 y97 y98 y99 y100 y101 y102 y103 y104 y105 y106 y107 y108 y109 y110 y111 y112 y113 y114
  clear hn hd
  subst hA
  clear kc
  replace KA := Lib.hid (KA.out.below hC); replace KB := Lib.hid (KB.out.below hC); replace KC := Lib.hid (KC.out.below hC); replace HB := Lib.hid (HB.out.trans (hC.mono HB.out.size)); clear hC; clear a0 a1 a2 a3 a4 a5 b0 b1 b2 b3 b4 b5 c0 c1 c2 c3 c4 c5; obtain ⟨a0, a1, a2, a3, a4, a5⟩ := KA.out; obtain ⟨b0, b1, b2, b3, b4, b5⟩ := KB.out; obtain ⟨c0, c1, c2, c3, c4, c5⟩ := KC.out
  go_wp2_with fail
  have kc : ∀ w', Below V2.heap.size V2 w' → Cells6 w' w.heap.size false t0 o0 r0 d0 i0 ∧ Cells6 w' (w.heap.size + 1) false t1 o1 r1 d1 i1 := fun w' h => ⟨KA.out.below h, KB.out.below h⟩
  unfold Cells6 at kc
  refine wp_region_typed (C := fun w' => Below V2.heap.size V2 w') (X := fun w w' => Below w.heap.size w w') (n := 115) (by kernel_rfl) (by kernel_rfl) rfl (fun w => Below.refl _ w) (Below.refl _ _).drew ?_
  refine w_is (fun w => Below.refl _ w) _ (.inl rfl) (fun ρ w hC hc hfn hf => by have e4 : ρ (.tmp 4) = _ := hf 4 (by decide); (conv => lhs; simp [execOp, go_sem, hc, e4, kc w hC])) ?_
  refine w_call (Is _) (fun _ _ _ h _ => h) 16 (.inl rfl) (fun ρ w hC hc hfn hf => by have e74 : ρ (.tmp 74) = _ := hf 74 (by decide); exact ⟨_, by (conv => lhs; simp [execOp, resolve, invoke, go_sem, hc, hfn, e74]), (tc_below hC (clB w))⟩) ?_
  refine w_is (fun w => Below.refl _ w) _ (.inl rfl) (fun ρ w hC hc hfn hf => by have e3 : ρ (.tmp 3) = _ := hf 3 (by decide); (conv => lhs; simp [execOp, go_sem, hc, e3, kc w hC])) ?_
  refine w_call (Is _) (fun _ _ _ h _ => h) 16 (.inl rfl) (fun ρ w hC hc hfn hf => by have e76 : ρ (.tmp 76) = _ := hf 76 (by decide); exact ⟨_, by (conv => lhs; simp [execOp, resolve, invoke, go_sem, hc, hfn, e76]), (tc_below hC (clA w))⟩) ?_
  refine w_call (Is _) (fun _ _ _ h _ => h) 18 (.inl rfl) (fun ρ w hC hc hfn hf => by have e75 : ρ (.tmp 75) = _ := hf 75 (by decide); have e77 : ρ (.tmp 77) = _ := hf 77 (by decide); exact ⟨_, by (conv => lhs; simp [execOp, resolve, invoke, go_sem, hc, hfn, e75, e77]), (tc_below hC (order_any _ _ _ _ _ _ w))⟩) ?_
  refine w_is (fun w => Below.refl _ w) _ (.inl rfl) (fun ρ w hC hc hfn hf => by have e78 : ρ (.tmp 78) = _ := hf 78 (by decide); (conv => lhs; simp [execOp, go_sem, hc, e78])) ?_
  intro A V3 hC hn hd hf
  have y0 : A.eval (.tmp 0) = _ := Eq.trans (hf 0) (by conv => lhs; simp [go_sem])
  have y1 : A.eval (.tmp 1) = _ := Eq.trans (hf 1) (by conv => lhs; simp [go_sem])
  have y2 : A.eval (.tmp 2) = _ := Eq.trans (hf 2) (by conv => lhs; simp [go_sem])
  have y3 : A.eval (.tmp 3) = _ := Eq.trans (hf 3) (by conv => lhs; simp [go_sem])
  have y4 : A.eval (.tmp 4) = _ := Eq.trans (hf 4) (by conv => lhs; simp [go_sem])
  have y5 : A.eval (.tmp 5) = _ := Eq.trans (hf 5) (by conv => lhs; simp [go_sem])
  have y6 : A.eval (.tmp 6) = _ := Eq.trans (hf 6) (by conv => lhs; simp [go_sem])
  have y7 : A.eval (.tmp 7) = _ := Eq.trans (hf 7) (by conv => lhs; simp [go_sem])
  have y8 : A.eval (.tmp 8) = _ := Eq.trans (hf 8) (by conv => lhs; simp [go_sem])
  have y9 : A.eval (.tmp 9) = _ := Eq.trans (hf 9) (by conv => lhs; simp [go_sem])
  have y10 : A.eval (.tmp 10) = _ := Eq.trans (hf 10) (by conv => lhs; simp [go_sem])
  have y11 : A.eval (.tmp 11) = _ := hf 11
  have y12 : A.eval (.tmp 12) = _ := Eq.trans (hf 12) (by conv => lhs; simp [go_sem])
  have y13 : A.eval (.tmp 13) = _ := Eq.trans (hf 13) (by conv => lhs; simp [go_sem])
  have y14 : A.eval (.tmp 14) = _ := Eq.trans (hf 14) (by conv => lhs; simp [go_sem])
  have y15 : A.eval (.tmp 15) = _ := Eq.trans (hf 15) (by conv => lhs; simp [go_sem])
  have y16 : A.eval (.tmp 16) = _ := Eq.trans (hf 16) (by conv => lhs; simp [go_sem])
  have y17 : A.eval (.tmp 17) = _ := Eq.trans (hf 17) (by conv => lhs; simp [go_sem])
  have y18 : A.eval (.tmp 18) = _ := Eq.trans (hf 18) (by conv => lhs; simp [go_sem])
  have y19 : A.eval (.tmp 19) = _ := Eq.trans (hf 19) (by conv => lhs; simp [go_sem])
  have y20 : A.eval (.tmp 20) = _ := Eq.trans (hf 20) (by conv => lhs; simp [go_sem])
  have y21 : A.eval (.tmp 21) = _ := Eq.trans (hf 21) (by conv => lhs; simp [go_sem])
  have y22 : A.eval (.tmp 22) = _ := Eq.trans (hf 22) (by conv => lhs; simp [go_sem])
  have y23 : A.eval (.tmp 23) = _ := Eq.trans (hf 23) (by conv => lhs; simp [go_sem])
  have y24 : A.eval (.tmp 24) = _ := Eq.trans (hf 24) (by conv => lhs; simp [go_sem])
  have y25 : A.eval (.tmp 25) = _ := Eq.trans (hf 25) (by conv => lhs; simp [go_sem])
  have y26 : A.eval (.tmp 26) = _ := Eq.trans (hf 26) (by conv => lhs; simp [go_sem])
  have y27 : A.eval (.tmp 27) = _ := Eq.trans (hf 27) (by conv => lhs; simp [go_sem])
  have y28 : A.eval (.tmp 28) = _ := Eq.trans (hf 28) (by conv => lhs; simp [go_sem])
  have y29 : A.eval (.tmp 29) = _ := Eq.trans (hf 29) (by conv => lhs; simp [go_sem])
  have y30 : A.eval (.tmp 30) = _ := Eq.trans (hf 30) (by conv => lhs; simp [go_sem])
  have y31 : A.eval (.tmp 31) = _ := Eq.trans (hf 31) (by conv => lhs; simp [go_sem])
  have y32 : A.eval (.tmp 32) = _ := Eq.trans (hf 32) (by conv => lhs; simp [go_sem])
  have y33 : A.eval (.tmp 33) = _ := Eq.trans (hf 33) (by conv => lhs; simp [go_sem])
  have y34 : A.eval (.tmp 34) = _ := Eq.trans (hf 34) (by conv => lhs; simp [go_sem])
  have y35 : A.eval (.tmp 35) = _ := Eq.trans (hf 35) (by conv => lhs; simp [go_sem])
  have y36 : A.eval (.tmp 36) = _ := Eq.trans (hf 36) (by conv => lhs; simp [go_sem])
  have y37 : A.eval (.tmp 37) = _ := Eq.trans (hf 37) (by conv => lhs; simp [go_sem])
  have y38 : A.eval (.tmp 38) = _ := Eq.trans (hf 38) (by conv => lhs; simp [go_sem])
  have y39 : A.eval (.tmp 39) = _ := Eq.trans (hf 39) (by conv => lhs; simp [go_sem])
  have y40 : A.eval (.tmp 40) = _ := Eq.trans (hf 40) (by conv => lhs; simp [go_sem])
  have y41 : A.eval (.tmp 41) = _ := Eq.trans (hf 41) (by conv => lhs; simp [go_sem])
  have y42 : A.eval (.tmp 42) = _ := Eq.trans (hf 42) (by conv => lhs; simp [go_sem])
  have y43 : A.eval (.tmp 43) = _ := Eq.trans (hf 43) (by conv => lhs; simp [go_sem])
  have y44 : A.eval (.tmp 44) = _ := Eq.trans (hf 44) (by conv => lhs; simp [go_sem])
  have y45 : A.eval (.tmp 45) = _ := Eq.trans (hf 45) (by conv => lhs; simp [go_sem])
  have y46 : A.eval (.tmp 46) = _ := Eq.trans (hf 46) (by conv => lhs; simp [go_sem])
  have y47 : A.eval (.tmp 47) = _ := Eq.trans (hf 47) (by conv => lhs; simp [go_sem])
  have y48 : A.eval (.tmp 48) = _ := Eq.trans (hf 48) (by conv => lhs; simp [go_sem])
  have y49 : A.eval (.tmp 49) = _ := Eq.trans (hf 49) (by conv => lhs; simp [go_sem])
  have y50 : A.eval (.tmp 50) = _ := Eq.trans (hf 50) (by conv => lhs; simp [go_sem])
  have y51 : A.eval (.tmp 51) = _ := Eq.trans (hf 51) (by conv => lhs; simp [go_sem])
  have y52 : A.eval (.tmp 52) = _ := Eq.trans (hf 52) (by conv => lhs; simp [go_sem])
  have y53 : A.eval (.tmp 53) = _ := Eq.trans (hf 53) (by conv => lhs; simp [go_sem])
  have y54 : A.eval (.tmp 54) = _ := Eq.trans (hf 54) (by conv => lhs; simp [go_sem])
  have y55 : A.eval (.tmp 55) = _ := Eq.trans (hf 55) (by conv => lhs; simp [go_sem])
  have y56 : A.eval (.tmp 56) = _ := Eq.trans (hf 56) (by conv => lhs; simp [go_sem])
  have y57 : A.eval (.tmp 57) = _ := Eq.trans (hf 57) (by conv => lhs; simp [go_sem])
  have y58 : A.eval (.tmp 58) = _ := Eq.trans (hf 58) (by conv => lhs; simp [go_sem])
  have y59 : A.eval (.tmp 59) = _ := Eq.trans (hf 59) (by conv => lhs; simp [go_sem])
  have y60 : A.eval (.tmp 60) = _ := Eq.trans (hf 60) (by conv => lhs; simp [go_sem])
  have y61 : A.eval (.tmp 61) = _ := Eq.trans (hf 61) (by conv => lhs; simp [go_sem])
  have y62 : A.eval (.tmp 62) = _ := Eq.trans (hf 62) (by conv => lhs; simp [go_sem])
  have y63 : A.eval (.tmp 63) = _ := Eq.trans (hf 63) (by conv => lhs; simp [go_sem])
  have y64 : A.eval (.tmp 64) = _ := Eq.trans (hf 64) (by conv => lhs; simp [go_sem])
  have y65 : A.eval (.tmp 65) = _ := Eq.trans (hf 65) (by conv => lhs; simp [go_sem])
  have y66 : A.eval (.tmp 66) = _ := Eq.trans (hf 66) (by conv => lhs; simp [go_sem])
  have y67 : A.eval (.tmp 67) = _ := Eq.trans (hf 67) (by conv => lhs; simp [go_sem])
  have y68 : A.eval (.tmp 68) = _ := Eq.trans (hf 68) (by conv => lhs; simp [go_sem])
  have y69 : A.eval (.tmp 69) = _ := Eq.trans (hf 69) (by conv => lhs; simp [go_sem])
  have y70 : A.eval (.tmp 70) = _ := Eq.trans (hf 70) (by conv => lhs; simp [go_sem])
  have y71 : A.eval (.tmp 71) = _ := Eq.trans (hf 71) (by conv => lhs; simp [go_sem])
  have y72 : A.eval (.tmp 72) = _ := Eq.trans (hf 72) (by conv => lhs; simp [go_sem])
  have y73 : A.eval (.tmp 73) = _ := Eq.trans (hf 73) (by conv => lhs; simp [go_sem])
  have y74 : A.eval (.tmp 74) = _ := hf 74
  have y75 : A.eval (.tmp 75) = _ := hf 75
  have y76 : A.eval (.tmp 76) = _ := hf 76
  have y77 : A.eval (.tmp 77) = _ := hf 77
  have y78 : A.eval (.tmp 78) = _ := hf 78
  have y79 : A.eval (.tmp 79) = _ := Eq.trans (hf 79) (by conv => lhs; simp [go_sem])
  have y80 : A.eval (.tmp 80) = _ := Eq.trans (hf 80) (by conv => lhs; simp [go_sem])
  have y81 : A.eval (.tmp 81) = _ := Eq.trans (hf 81) (by conv => lhs; simp [go_sem])
  have y82 : A.eval (.tmp 82) = _ := Eq.trans (hf 82) (by conv => lhs; simp [go_sem])
  have y83 : A.eval (.tmp 83) = _ := Eq.trans (hf 83) (by conv => lhs; simp [go_sem])
  have y84 : A.eval (.tmp 84) = _ := Eq.trans (hf 84) (by conv => lhs; simp [go_sem])
  have y85 : A.eval (.tmp 85) = _ := Eq.trans (hf 85) (by conv => lhs; simp [go_sem])
  have y86 : A.eval (.tmp 86) = _ := Eq.trans (hf 86) (by conv => lhs; simp [go_sem])
  have y87 : A.eval (.tmp 87) = _ := Eq.trans (hf 87) (by conv => lhs; simp [go_sem])
  have y88 : A.eval (.tmp 88) = _ := Eq.trans (hf 88) (by conv => lhs; simp [go_sem])
  have y89 : A.eval (.tmp 89) = _ := Eq.trans (hf 89) (by conv => lhs; simp [go_sem])
  have y90 : A.eval (.tmp 90) = _ := Eq.trans (hf 90) (by conv => lhs; simp [go_sem])
  have y91 : A.eval (.tmp 91) = _ := Eq.trans (hf 91) (by conv => lhs; simp [go_sem])
  have y92 : A.eval (.tmp 92) = _ := Eq.trans (hf 92) (by conv => lhs; simp [go_sem])
  have y93 : A.eval (.tmp 93) = _ := Eq.trans (hf 93) (by conv => lhs; simp [go_sem])
  have y94 : A.eval (.tmp 94) = _ := Eq.trans (hf 94) (by conv => lhs; simp [go_sem])
  have y95 : A.eval (.tmp 95) = _ := Eq.trans (hf 95) (by conv => lhs; simp [go_sem])
  have y96 : A.eval (.tmp 96) = _ := Eq.trans (hf 96) (by conv => lhs; simp [go_sem])
  have y97 : A.eval (.tmp 97) = _ := Eq.trans (hf 97) (by conv => lhs; simp [go_sem])
  have y98 : A.eval (.tmp 98) = _ := Eq.trans (hf 98) (by conv => lhs; simp [go_sem])
  have y99 : A.eval (.tmp 99) = _ := Eq.trans (hf 99) (by conv => lhs; simp [go_sem])
  have y100 : A.eval (.tmp 100) = _ := Eq.trans (hf 100) (by conv => lhs; simp [go_sem])
  have y101 : A.eval (.tmp 101) = _ := Eq.trans (hf 101) (by conv => lhs; simp [go_sem])
  have y102 : A.eval (.tmp 102) = _ := Eq.trans (hf 102) (by conv => lhs; simp [go_sem])
  have y103 : A.eval (.tmp 103) = _ := Eq.trans (hf 103) (by conv => lhs; simp [go_sem])
  have y104 : A.eval (.tmp 104) = _ := Eq.trans (hf 104) (by conv => lhs; simp [go_sem])
  have y105 : A.eval (.tmp 105) = _ := Eq.trans (hf 105) (by conv => lhs; simp [go_sem])
  have y106 : A.eval (.tmp 106) = _ := Eq.trans (hf 106) (by conv => lhs; simp [go_sem])
  have y107 : A.eval (.tmp 107) = _ := Eq.trans (hf 107) (by conv => lhs; simp [go_sem])
  have y108 : A.eval (.tmp 108) = _ := Eq.trans (hf 108) (by conv => lhs; simp [go_sem])
  have y109 : A.eval (.tmp 109) = _ := Eq.trans (hf 109) (by conv => lhs; simp [go_sem])
  have y110 : A.eval (.tmp 110) = _ := Eq.trans (hf 110) (by conv => lhs; simp [go_sem])
  have y111 : A.eval (.tmp 111) = _ := Eq.trans (hf 111) (by conv => lhs; simp [go_sem])
  have y112 : A.eval (.tmp 112) = _ := Eq.trans (hf 112) (by conv => lhs; simp [go_sem])
  have y113 : A.eval (.tmp 113) = _ := Eq.trans (hf 113) (by conv => lhs; simp [go_sem])
  have y114 : A.eval (.tmp 114) = _ := Eq.trans (hf 114) (by conv => lhs; simp [go_sem])
  clear hf
  have hA := frame_eq hn
  rw [show List.range 115 = [0, 1, 2, 3, 4, 5, 6, 7, 8, 9, 10, 11, 12, 13, 14, 15, 16, 17, 18, 19, 20, 21, 22, 23, 24, 25, 26, 27, 28, 29, 30, 31, 32, 33, 34, 35, 36, 37, 38, 39, 40, 41, 42, 43, 44, 45, 46, 47, 48, 49, 50, 51, 52, 53, 54, 55, 56, 57, 58, 59, 60, 61, 62, 63, 64, 65, 66, 67, 68, 69, 70, 71, 72, 73, 74, 75, 76, 77, 78, 79, 80, 81, 82, 83, 84, 85, 86, 87, 88, 89, 90, 91, 92, 93, 94, 95, 96, 97, 98, 99, 100, 101, 102, 103, 104, 105, 106, 107, 108, 109, 110, 111, 112, 113, 114] from rfl, hd] at hA
  simp only [List.map_cons, List.map_nil, y0, y1, y2, y3, y4, y5, y6, y7, y8, y9, y10, y11, y12, y13, y14, y15, y16, y17, y18, y19, y20, y21, y22, y23, y24, y25, y26, y27, y28, y29, y30, y31, y32, y33, y34, y35, y36, y37, y38, y39, y40, y41, y42, y43, y44, y45, y46, y47, y48, y49, y50, y51, y52, y53, y54, y55, y56, y57, y58, y59, y60, y61, y62, y63, y64, y65, y66, y67, y68, y69, y70, y71, y72, y73, y74, y75, y76, y77, y78, y79, y80, y81, y82, y83, y84, y85, y86, y87, y88, y89, y90, y91, y92, y93, y94, y95, y96, y97, y98, y99, y100, y101, y102, y103, y104, y105, y106, y107, y108, y109, y110, y111, y112, y113, y114] at hA
  clear y0 y1 y2 y3 y4 y5 y6 y7 y8 y9 y10 y11 y12 y13 y14 y15 y16 y17 y18 y19 y20 y21 y22 y23 y24 y25 y26 y27 y28 y29 y30 y31 y32 y33 y34 y35 y36 y37 y38 y39 y40 y41 y42 y43 y44 y45 y46 y47 y48 y49 y50 y51 y52 y53 y54 y55 y56 y57 y58 y59 y60 y61 y62 y63 y64 y65 y66 y67 y68 y69 y70 y71 y72 y73 y74 y75 y76 y77 y78 y79 y80 y81 y82 y83 y84 y85 y86 y87 y88 y89 y90 y91 y92 y93 y94 y95 y96 y97 y98 y99 y100 y101 y102 y103 y104 y105 y106 y107 y108 y109 y110 y111 y112 y113 y114
  clear hn hd
  subst hA
  clear kc
  replace KA := Lib.hid (KA.out.below hC); replace KB := Lib.hid (KB.out.below hC); replace KC := Lib.hid (KC.out.below hC); replace HB := Lib.hid (HB.out.trans (hC.mono HB.out.size)); clear hC; clear a0 a1 a2 a3 a4 a5 b0 b1 b2 b3 b4 b5 c0 c1 c2 c3 c4 c5; obtain ⟨a0, a1, a2, a3, a4, a5⟩ := KA.out; obtain ⟨b0, b1, b2, b3, b4, b5⟩ := KB.out; obtain ⟨c0, c1, c2, c3, c4, c5⟩ := KC.out
  have hM := ord_neg (lv (told false t1 o1 r1 d1 i1) t1) (lv (told false t1 o1 r1 d1 i1) o1) (lv (told false t1 o1 r1 d1 i1) r1) (lv (told false t0 o0 r0 d0 i0) t0) (lv (told false t0 o0 r0 d0 i0) o0) (lv (told false t0 o0 r0 d0 i0) r0)
  have E1 := guard23
  have E2 := eql23
  generalize ordL (lv (told false t0 o0 r0 d0 i0) t0) (lv (told false t0 o0 r0 d0 i0) o0) (lv (told false t0 o0 r0 d0 i0) r0) (lv (told false t1 o1 r1 d1 i1) t1) (lv (told false t1 o1 r1 d1 i1) o1) (lv (told false t1 o1 r1 d1 i1) r1) = P at *
  generalize ordL (lv (told false t1 o1 r1 d1 i1) t1) (lv (told false t1 o1 r1 d1 i1) o1) (lv (told false t1 o1 r1 d1 i1) r1) (lv (told false t0 o0 r0 d0 i0) t0) (lv (told false t0 o0 r0 d0 i0) o0) (lv (told false t0 o0 r0 d0 i0) r0) = M at *
  clear clA clB
  have hN := hP
  · subst hN
    obtain rfl : M = 0 := by omega
    clear hM
    go_wp2_with (first
      | (go_at_call 20; refine (awake_any _).mono ?_; rintro e V1 ⟨rfl, hb⟩; replace KA := Lib.hid (KA.out.below hb); replace KB := Lib.hid (KB.out.below hb); replace KC := Lib.hid (KC.out.below hb); replace HB := Lib.hid (HB.out.trans (hb.mono HB.out.size)); clear hb; clear a0 a1 a2 a3 a4 a5 b0 b1 b2 b3 b4 b5 c0 c1 c2 c3 c4 c5; obtain ⟨a0, a1, a2, a3, a4, a5⟩ := KA.out; obtain ⟨b0, b1, b2, b3, b4, b5⟩ := KB.out; obtain ⟨c0, c1, c2, c3, c4, c5⟩ := KC.out))
    go_ret
    exact ⟨rfl, HB.out⟩

set_option maxHeartbeats 16000000 in
theorem case_a4 (t0 o0 r0 d0 i0 : Int) (w0 : I64 t0 ∧ I64 o0 ∧ I64 r0 ∧ I64 d0 ∧ I64 i0) (t1 o1 r1 d1 i1 : Int) (w1 : I64 t1 ∧ I64 o1 ∧ I64 r1 ∧ I64 d1 ∧ I64 i1) (n2 : Bool) (t2 o2 r2 d2 i2 : Int) (w2 : I64 t2 ∧ I64 o2 ∧ I64 r2 ∧ I64 d2 ∧ I64 i2) (w : World)
    (hAB : lessB false t0 o0 r0 d0 i0 false t1 o1 r1 d1 i1 = false) (hBA : lessB false t1 o1 r1 d1 i1 false t0 o0 r0 d0 i0 = true) (hAA : lessB false t0 o0 r0 d0 i0 false t0 o0 r0 d0 i0 = false) (hcA : chk false t0 o0 r0 d0 i0 = 0) (hcB : chk false t1 o1 r1 d1 i1 = 0) (hE : eqH false t0 o0 r0 d0 i0 false t1 o1 r1 d1 i1 = false) (hP : ordL (lv (told false t0 o0 r0 d0 i0) t0) (lv (told false t0 o0 r0 d0 i0) o0) (lv (told false t0 o0 r0 d0 i0) r0) (lv (told false t1 o1 r1 d1 i1) t1) (lv (told false t1 o1 r1 d1 i1) o1) (lv (told false t1 o1 r1 d1 i1) r1) = 0 ∨ ordL (lv (told false t0 o0 r0 d0 i0) t0) (lv (told false t0 o0 r0 d0 i0) o0) (lv (told false t0 o0 r0 d0 i0) r0) (lv (told false t1 o1 r1 d1 i1) t1) (lv (told false t1 o1 r1 d1 i1) o1) (lv (told false t1 o1 r1 d1 i1) r1) = 1) :
    Calls Try.prog 5 #[.agg #[.bool false, .int .i64 t0, .int .i64 o0, .int .i64 r0, .int .i64 d0, .int .i64 i0], .agg #[.bool false, .int .i64 t1, .int .i64 o1, .int .i64 r1, .int .i64 d1, .int .i64 i1], .agg #[.bool n2, .int .i64 t2, .int .i64 o2, .int .i64 r2, .int .i64 d2, .int .i64 i2]] w fun e w' => e = .returned (.bool true) ∧ Below w.heap.size w w' := by
  have clA := lev_any false t0 o0 r0 d0 i0
  have clB := lev_any false t1 o1 r1 d1 i1
  go_enter Try.func5, Try.ntmps5
  go_wp2_with fail
  have KA := Lib.hid (((cells6_alloc w false t0 o0 r0 d0 i0 23).below ((Below.refl _ _).alloc (Nat.le_refl _) (.cells #[.bool false, .int .i64 t1, .int .i64 o1, .int .i64 r1, .int .i64 d1, .int .i64 i1] 23))).below ((Below.refl _ _).alloc (Nat.le_refl _) (.cells #[.bool n2, .int .i64 t2, .int .i64 o2, .int .i64 r2, .int .i64 d2, .int .i64 i2] 23)))
  have KB := Lib.hid (((own6_alloc (w.alloc (.cells #[.bool false, .int .i64 t0, .int .i64 o0, .int .i64 r0, .int .i64 d0, .int .i64 i0] 23)) false t1 o1 r1 d1 i1 23 (w.heap.size + 1) (by simp)).below ((Below.refl _ _).alloc (Nat.le_refl _) (.cells #[.bool n2, .int .i64 t2, .int .i64 o2, .int .i64 r2, .int .i64 d2, .int .i64 i2] 23))).1)
  have KC := Lib.hid ((own6_alloc ((w.alloc (.cells #[.bool false, .int .i64 t0, .int .i64 o0, .int .i64 r0, .int .i64 d0, .int .i64 i0] 23)).alloc (.cells #[.bool false, .int .i64 t1, .int .i64 o1, .int .i64 r1, .int .i64 d1, .int .i64 i1] 23)) n2 t2 o2 r2 d2 i2 23 (w.heap.size + 1 + 1) (by simp)).1)
  have HB : Hid (Below w.heap.size w (((w.alloc (.cells #[.bool false, .int .i64 t0, .int .i64 o0, .int .i64 r0, .int .i64 d0, .int .i64 i0] 23)).alloc (.cells #[.bool false, .int .i64 t1, .int .i64 o1, .int .i64 r1, .int .i64 d1, .int .i64 i1] 23)).alloc (.cells #[.bool n2, .int .i64 t2, .int .i64 o2, .int .i64 r2, .int .i64 d2, .int .i64 i2] 23))) := (((Below.refl _ w).alloc (Nat.le_refl _) _).alloc (by simp) _).alloc (by simp; omega) _
  generalize (((w.alloc (.cells #[.bool false, .int .i64 t0, .int .i64 o0, .int .i64 r0, .int .i64 d0, .int .i64 i0] 23)).alloc (.cells #[.bool false, .int .i64 t1, .int .i64 o1, .int .i64 r1, .int .i64 d1, .int .i64 i1] 23)).alloc (.cells #[.bool n2, .int .i64 t2, .int .i64 o2, .int .i64 r2, .int .i64 d2, .int .i64 i2] 23)) = V1 at *
  obtain ⟨a0, a1, a2, a3, a4, a5⟩ := KA.out; obtain ⟨b0, b1, b2, b3, b4, b5⟩ := KB.out; obtain ⟨c0, c1, c2, c3, c4, c5⟩ := KC.out
  go_wp2_with (first
    | (go_at_call 14; refine (less_any _ _ _ _ _ _ _ _ _ _ _ _ _).mono ?_; rintro e V1 ⟨rfl, hb⟩; (first | rw [hAB] | rw [hBA] | rw [hAA] | rw [hBC] | rw [hAC]); replace KA := Lib.hid (KA.out.below hb); replace KB := Lib.hid (KB.out.below hb); replace KC := Lib.hid (KC.out.below hb); replace HB := Lib.hid (HB.out.trans (hb.mono HB.out.size)); clear hb; clear a0 a1 a2 a3 a4 a5 b0 b1 b2 b3 b4 b5 c0 c1 c2 c3 c4 c5; obtain ⟨a0, a1, a2, a3, a4, a5⟩ := KA.out; obtain ⟨b0, b1, b2, b3, b4, b5⟩ := KB.out; obtain ⟨c0, c1, c2, c3, c4, c5⟩ := KC.out)
    | (go_at_call 12; refine (check_any _ _ _ _ _ _ _).mono ?_; rintro e V1 ⟨rfl, hb⟩; (first | rw [hcA] | rw [hcB]); replace KA := Lib.hid (KA.out.below hb); replace KB := Lib.hid (KB.out.below hb); replace KC := Lib.hid (KC.out.below hb); replace HB := Lib.hid (HB.out.trans (hb.mono HB.out.size)); clear hb; clear a0 a1 a2 a3 a4 a5 b0 b1 b2 b3 b4 b5 c0 c1 c2 c3 c4 c5; obtain ⟨a0, a1, a2, a3, a4, a5⟩ := KA.out; obtain ⟨b0, b1, b2, b3, b4, b5⟩ := KB.out; obtain ⟨c0, c1, c2, c3, c4, c5⟩ := KC.out))
  have kc : ∀ w', Below V1.heap.size V1 w' → Cells6 w' w.heap.size false t0 o0 r0 d0 i0 ∧ Cells6 w' (w.heap.size + 1) false t1 o1 r1 d1 i1 := fun w' h => ⟨KA.out.below h, KB.out.below h⟩
  unfold Cells6 at kc
  refine wp_region_typed (C := fun w' => Below V1.heap.size V1 w') (X := fun w w' => Below w.heap.size w w') (n := 115) (by kernel_rfl) (by kernel_rfl) rfl (fun w => Below.refl _ w) (Below.refl _ _).drew ?_
  refine w_is (fun w => Below.refl _ w) _ (.inl rfl) (fun ρ w hC hc hfn hf => by have e3 : ρ (.tmp 3) = _ := hf 3 (by decide); (conv => lhs; simp [execOp, go_sem, hc, e3, kc w hC])) ?_
  refine w_call (Is _) (fun _ _ _ h _ => h) 16 (.inl rfl) (fun ρ w hC hc hfn hf => by have e69 : ρ (.tmp 69) = _ := hf 69 (by decide); exact ⟨_, by (conv => lhs; simp [execOp, resolve, invoke, go_sem, hc, hfn, e69]), (tc_below hC (clA w))⟩) ?_
  refine w_is (fun w => Below.refl _ w) _ (.inl rfl) (fun ρ w hC hc hfn hf => by have e4 : ρ (.tmp 4) = _ := hf 4 (by decide); (conv => lhs; simp [execOp, go_sem, hc, e4, kc w hC])) ?_
  refine w_call (Is _) (fun _ _ _ h _ => h) 16 (.inl rfl) (fun ρ w hC hc hfn hf => by have e71 : ρ (.tmp 71) = _ := hf 71 (by decide); exact ⟨_, by (conv => lhs; simp [execOp, resolve, invoke, go_sem, hc, hfn, e71]), (tc_below hC (clB w))⟩) ?_
  refine w_call (Is _) (fun _ _ _ h _ => h) 18 (.inl rfl) (fun ρ w hC hc hfn hf => by have e70 : ρ (.tmp 70) = _ := hf 70 (by decide); have e72 : ρ (.tmp 72) = _ := hf 72 (by decide); exact ⟨_, by (conv => lhs; simp [execOp, resolve, invoke, go_sem, hc, hfn, e70, e72]), (tc_below hC (order_any _ _ _ _ _ _ w))⟩) ?_
  refine w_is (fun w => Below.refl _ w) _ (.inl rfl) (fun ρ w hC hc hfn hf => by have e73 : ρ (.tmp 73) = _ := hf 73 (by decide); (conv => lhs; simp [execOp, go_sem, hc, e73])) ?_
  intro A V2 hC hn hd hf
  have y0 : A.eval (.tmp 0) = _ := Eq.trans (hf 0) (by conv => lhs; simp [go_sem])
  have y1 : A.eval (.tmp 1) = _ := Eq.trans (hf 1) (by conv => lhs; simp [go_sem])
  have y2 : A.eval (.tmp 2) = _ := Eq.trans (hf 2) (by conv => lhs; simp [go_sem])
  have y3 : A.eval (.tmp 3) = _ := Eq.trans (hf 3) (by conv => lhs; simp [go_sem])
  have y4 : A.eval (.tmp 4) = _ := Eq.trans (hf 4) (by conv => lhs; simp [go_sem])
  have y5 : A.eval (.tmp 5) = _ := Eq.trans (hf 5) (by conv => lhs; simp [go_sem])
  have y6 : A.eval (.tmp 6) = _ := Eq.trans (hf 6) (by conv => lhs; simp [go_sem])
  have y7 : A.eval (.tmp 7) = _ := Eq.trans (hf 7) (by conv => lhs; simp [go_sem])
  have y8 : A.eval (.tmp 8) = _ := Eq.trans (hf 8) (by conv => lhs; simp [go_sem])
  have y9 : A.eval (.tmp 9) = _ := Eq.trans (hf 9) (by conv => lhs; simp [go_sem])
  have y10 : A.eval (.tmp 10) = _ := hf 10
  have y11 : A.eval (.tmp 11) = _ := Eq.trans (hf 11) (by conv => lhs; simp [go_sem])
  have y12 : A.eval (.tmp 12) = _ := Eq.trans (hf 12) (by conv => lhs; simp [go_sem])
  have y13 : A.eval (.tmp 13) = _ := Eq.trans (hf 13) (by conv => lhs; simp [go_sem])
  have y14 : A.eval (.tmp 14) = _ := Eq.trans (hf 14) (by conv => lhs; simp [go_sem])
  have y15 : A.eval (.tmp 15) = _ := Eq.trans (hf 15) (by conv => lhs; simp [go_sem])
  have y16 : A.eval (.tmp 16) = _ := Eq.trans (hf 16) (by conv => lhs; simp [go_sem])
  have y17 : A.eval (.tmp 17) = _ := Eq.trans (hf 17) (by conv => lhs; simp [go_sem])
  have y18 : A.eval (.tmp 18) = _ := Eq.trans (hf 18) (by conv => lhs; simp [go_sem])
  have y19 : A.eval (.tmp 19) = _ := Eq.trans (hf 19) (by conv => lhs; simp [go_sem])
  have y20 : A.eval (.tmp 20) = _ := Eq.trans (hf 20) (by conv => lhs; simp [go_sem])
  have y21 : A.eval (.tmp 21) = _ := Eq.trans (hf 21) (by conv => lhs; simp [go_sem])
  have y22 : A.eval (.tmp 22) = _ := Eq.trans (hf 22) (by conv => lhs; simp [go_sem])
  have y23 : A.eval (.tmp 23) = _ := Eq.trans (hf 23) (by conv => lhs; simp [go_sem])
  have y24 : A.eval (.tmp 24) = _ := Eq.trans (hf 24) (by conv => lhs; simp [go_sem])
  have y25 : A.eval (.tmp 25) = _ := Eq.trans (hf 25) (by conv => lhs; simp [go_sem])
  have y26 : A.eval (.tmp 26) = _ := Eq.trans (hf 26) (by conv => lhs; simp [go_sem])
  have y27 : A.eval (.tmp 27) = _ := Eq.trans (hf 27) (by conv => lhs; simp [go_sem])
  have y28 : A.eval (.tmp 28) = _ := Eq.trans (hf 28) (by conv => lhs; simp [go_sem])
  have y29 : A.eval (.tmp 29) = _ := Eq.trans (hf 29) (by conv => lhs; simp [go_sem])
  have y30 : A.eval (.tmp 30) = _ := Eq.trans (hf 30) (by conv => lhs; simp [go_sem])
  have y31 : A.eval (.tmp 31) = _ := Eq.trans (hf 31) (by conv => lhs; simp [go_sem])
  have y32 : A.eval (.tmp 32) = _ := Eq.trans (hf 32) (by conv => lhs; simp [go_sem])
  have y33 : A.eval (.tmp 33) = _ := Eq.trans (hf 33) (by conv => lhs; simp [go_sem])
  have y34 : A.eval (.tmp 34) = _ := Eq.trans (hf 34) (by conv => lhs; simp [go_sem])
  have y35 : A.eval (.tmp 35) = _ := Eq.trans (hf 35) (by conv => lhs; simp [go_sem])
  have y36 : A.eval (.tmp 36) = _ := Eq.trans (hf 36) (by conv => lhs; simp [go_sem])
  have y37 : A.eval (.tmp 37) = _ := Eq.trans (hf 37) (by conv => lhs; simp [go_sem])
  have y38 : A.eval (.tmp 38) = _ := Eq.trans (hf 38) (by conv => lhs; simp [go_sem])
  have y39 : A.eval (.tmp 39) = _ := Eq.trans (hf 39) (by conv => lhs; simp [go_sem])
  have y40 : A.eval (.tmp 40) = _ := Eq.trans (hf 40) (by conv => lhs; simp [go_sem])
  have y41 : A.eval (.tmp 41) = _ := Eq.trans (hf 41) (by conv => lhs; simp [go_sem])
  have y42 : A.eval (.tmp 42) = _ := Eq.trans (hf 42) (by conv => lhs; simp [go_sem])
  have y43 : A.eval (.tmp 43) = _ := Eq.trans (hf 43) (by conv => lhs; simp [go_sem])
  have y44 : A.eval (.tmp 44) = _ := Eq.trans (hf 44) (by conv => lhs; simp [go_sem])
  have y45 : A.eval (.tmp 45) = _ := Eq.trans (hf 45) (by conv => lhs; simp [go_sem])
  have y46 : A.eval (.tmp 46) = _ := Eq.trans (hf 46) (by conv => lhs; simp [go_sem])
  have y47 : A.eval (.tmp 47) = _ := Eq.trans (hf 47) (by conv => lhs; simp [go_sem])
  have y48 : A.eval (.tmp 48) = _ := Eq.trans (hf 48) (by conv => lhs; simp [go_sem])
  have y49 : A.eval (.tmp 49) = _ := Eq.trans (hf 49) (by conv => lhs; simp [go_sem])
  have y50 : A.eval (.tmp 50) = _ := Eq.trans (hf 50) (by conv => lhs; simp [go_sem])
  have y51 : A.eval (.tmp 51) = _ := Eq.trans (hf 51) (by conv => lhs; simp [go_sem])
  have y52 : A.eval (.tmp 52) = _ := Eq.trans (hf 52) (by conv => lhs; simp [go_sem])
  have y53 : A.eval (.tmp 53) = _ := Eq.trans (hf 53) (by conv => lhs; simp [go_sem])
  have y54 : A.eval (.tmp 54) = _ := Eq.trans (hf 54) (by conv => lhs; simp [go_sem])
  have y55 : A.eval (.tmp 55) = _ := Eq.trans (hf 55) (by conv => lhs; simp [go_sem])
  have y56 : A.eval (.tmp 56) = _ := Eq.trans (hf 56) (by conv => lhs; simp [go_sem])
  have y57 : A.eval (.tmp 57) = _ := Eq.trans (hf 57) (by conv => lhs; simp [go_sem])
  have y58 : A.eval (.tmp 58) = _ := Eq.trans (hf 58) (by conv => lhs; simp [go_sem])
  have y59 : A.eval (.tmp 59) = _ := Eq.trans (hf 59) (by conv => lhs; simp [go_sem])
  have y60 : A.eval (.tmp 60) = _ := Eq.trans (hf 60) (by conv => lhs; simp [go_sem])
  have y61 : A.eval (.tmp 61) = _ := Eq.trans (hf 61) (by conv => lhs; simp [go_sem])
  have y62 : A.eval (.tmp 62) = _ := Eq.trans (hf 62) (by conv => lhs; simp [go_sem])
  have y63 : A.eval (.tmp 63) = _ := Eq.trans (hf 63) (by conv => lhs; simp [go_sem])
  have y64 : A.eval (.tmp 64) = _ := Eq.trans (hf 64) (by conv => lhs; simp [go_sem])
  have y65 : A.eval (.tmp 65) = _ := Eq.trans (hf 65) (by conv => lhs; simp [go_sem])
  have y66 : A.eval (.tmp 66) = _ := Eq.trans (hf 66) (by conv => lhs; simp [go_sem])
  have y67 : A.eval (.tmp 67) = _ := Eq.trans (hf 67) (by conv => lhs; simp [go_sem])
  have y68 : A.eval (.tmp 68) = _ := Eq.trans (hf 68) (by conv => lhs; simp [go_sem])
  have y69 : A.eval (.tmp 69) = _ := hf 69
  have y70 : A.eval (.tmp 70) = _ := hf 70
  have y71 : A.eval (.tmp 71) = _ := hf 71
  have y72 : A.eval (.tmp 72) = _ := hf 72
  have y73 : A.eval (.tmp 73) = _ := hf 73
  have y74 : A.eval (.tmp 74) = _ := Eq.trans (hf 74) (by conv => lhs; simp [go_sem])
  have y75 : A.eval (.tmp 75) = _ := Eq.trans (hf 75) (by conv => lhs; simp [go_sem])
  have y76 : A.eval (.tmp 76) = _ := Eq.trans (hf 76) (by conv => lhs; simp [go_sem])
  have y77 : A.eval (.tmp 77) = _ := Eq.trans (hf 77) (by conv => lhs; simp [go_sem])
  have y78 : A.eval (.tmp 78) = _ := Eq.trans (hf 78) (by conv => lhs; simp [go_sem])
  have y79 : A.eval (.tmp 79) = _ := Eq.trans (hf 79) (by conv => lhs; simp [go_sem])
  have y80 : A.eval (.tmp 80) = _ := Eq.trans (hf 80) (by conv => lhs; simp [go_sem])
  have y81 : A.eval (.tmp 81) = _ := Eq.trans (hf 81) (by conv => lhs; simp [go_sem])
  have y82 : A.eval (.tmp 82) = _ := Eq.trans (hf 82) (by conv => lhs; simp [go_sem])
  have y83 : A.eval (.tmp 83) = _ := Eq.trans (hf 83) (by conv => lhs; simp [go_sem])
  have y84 : A.eval (.tmp 84) = _ := Eq.trans (hf 84) (by conv => lhs; simp [go_sem])
  have y85 : A.eval (.tmp 85) = _ := Eq.trans (hf 85) (by conv => lhs; simp [go_sem])
  have y86 : A.eval (.tmp 86) = _ := Eq.trans (hf 86) (by conv => lhs; simp [go_sem])
  have y87 : A.eval (.tmp 87) = _ := Eq.trans (hf 87) (by conv => lhs; simp [go_sem])
  have y88 : A.eval (.tmp 88) = _ := Eq.trans (hf 88) (by conv => lhs; simp [go_sem])
  have y89 : A.eval (.tmp 89) = _ := Eq.trans (hf 89) (by conv => lhs; simp [go_sem])
  have y90 : A.eval (.tmp 90) = _ := Eq.trans (hf 90) (by conv => lhs; simp [go_sem])
  have y91 : A.eval (.tmp 91) = _ := Eq.trans (hf 91) (by conv => lhs; simp [go_sem])
  have y92 : A.eval (.tmp 92) = _ := Eq.trans (hf 92) (by conv => lhs; simp [go_sem])
  have y93 : A.eval (.tmp 93) = _ := Eq.trans (hf 93) (by conv => lhs; simp [go_sem])
  have y94 : A.eval (.tmp 94) = _ := Eq.trans (hf 94) (by conv => lhs; simp [go_sem])
  have y95 : A.eval (.tmp 95) = _ := Eq.trans (hf 95) (by conv => lhs; simp [go_sem])
  have y96 : A.eval (.tmp 96) = _ := Eq.trans (hf 96) (by conv => lhs; simp [go_sem])
  have y97 : A.eval (.tmp 97) = _ := Eq.trans (hf 97) (by conv => lhs; simp [go_sem])
  have y98 : A.eval (.tmp 98) = _ := Eq.trans (hf 98) (by conv => lhs; simp [go_sem])
  have y99 : A.eval (.tmp 99) = _ := Eq.trans (hf 99) (by conv => lhs; simp [go_sem])
  have y100 : A.eval (.tmp 100) = _ := Eq.trans (hf 100) (by conv => lhs; simp [go_sem])
  have y101 : A.eval (.tmp 101) = _ := Eq.trans (hf 101) (by conv => lhs; simp [go_sem])
  have y102 : A.eval (.tmp 102) = _ := Eq.trans (hf 102) (by conv => lhs; simp [go_sem])
  have y103 : A.eval (.tmp 103) = _ := Eq.trans (hf 103) (by conv => lhs; simp [go_sem])
  have y104 : A.eval (.tmp 104) = _ := Eq.trans (hf 104) (by conv => lhs; simp [go_sem])
  have y105 : A.eval (.tmp 105) = _ := Eq.trans (hf 105) (by conv => lhs; simp [go_sem])
  have y106 : A.eval (.tmp 106) = _ := Eq.trans (hf 106) (by conv => lhs; simp [go_sem])
  have y107 : A.eval (.tmp 107) = _ := Eq.trans (hf 107) (by conv => lhs; simp [go_sem])
  have y108 : A.eval (.tmp 108) = _ := Eq.trans (hf 108) (by conv => lhs; simp [go_sem])
  have y109 : A.eval (.tmp 109) = _ := Eq.trans (hf 109) (by conv => lhs; simp [go_sem])
  have y110 : A.eval (.tmp 110) = _ := Eq.trans (hf 110) (by conv => lhs; simp [go_sem])
  have y111 : A.eval (.tmp 111) = _ := Eq.trans (hf 111) (by conv => lhs; simp [go_sem])
  have y112 : A.eval (.tmp 112) = _ := Eq.trans (hf 112) (by conv => lhs; simp [go_sem])
  have y113 : A.eval (.tmp 113) = _ := Eq.trans (hf 113) (by conv => lhs; simp [go_sem])
  have y114 : A.eval (.tmp 114) = _ := Eq.trans (hf 114) (by conv => lhs; simp [go_sem])
  clear hf
  have hA := frame_eq hn
  rw [show List.range 115 = [0, 1, 2, 3, 4, 5, 6, 7, 8, 9, 10, 11, 12, 13, 14, 15, 16, 17, 18, 19, 20, 21, 22, 23, 24, 25, 26, 27, 28, 29, 30, 31, 32, 33, 34, 35, 36, 37, 38, 39, 40, 41, 42, 43, 44, 45, 46, 47, 48, 49, 50, 51, 52, 53, 54, 55, 56, 57, 58, 59, 60, 61, 62, 63, 64, 65, 66, 67, 68, 69, 70, 71, 72, 73, 74, 75, 76, 77, 78, 79, 80, 81, 82, 83, 84, 85, 86, 87, 88, 89, 90, 91, 92, 93, 94, 95, 96, 97, 98, 99, 100, 101, 102, 103, 104, 105, 106, 107, 108, 109, 110, 111, 112, 113, 114] from rfl, hd] at hA
  simp only [List.map_cons, List.map_nil, y0, y1, y2, y3, y4, y5, y6, y7, y8, y9, y10, y11, y12, y13, y14, y15, y16, y17, y18, y19, y20, y21, y22, y23, y24, y25, y26, y27, y28, y29, y30, y31, y32, y33, y34, y35, y36, y37, y38, y39, y40, y41, y42, y43, y44, y45, y46, y47, y48, y49, y50, y51, y52, y53, y54, y55, y56, y57, y58, y59, y60, y61, y62, y63, y64, y65, y66, y67, y68, y69, y70, y71, y72, y73, y74, y75, y76, y77, y78, y79, y80, y81, y82, y83, y84, y85, y86, y87, y88, y89, y90, y91, y92, y93, y94, y95, y96, y97, y98, y99, y100, y101, y102, y103, y104, y105, y106, y107, y108, y109, y110, y111, y112, y113, y114] at hA
  clear y0 y1 y2 y3 y4 y5 y6 y7 y8 y9 y10 y11 y12 y13 y14 y15 y16 y17 y18 y19 y20 y21 y22 y23 y24 y25 y26 y27 y28 y29 y30 y31 y32 y33 y34 y35 y36 y37 y38 y39 y40 y41 y42 y43 y44 y45 y46 y47 y48 y49 y50 y51 y52 y53 y54 y55 y56 y57 y58 y59 y60 y61 y62 y63 y64 y65 y66 y67 y68 y69 y70 y71 y72 y73 y74 y75 y76 y77 y78 y79 y80 y81 y82 y83 y84 y85 y86 y87 y88 y89 y90 y91 y92 y93 y94 y95 y96 y97 y98 y99 y100 y101 y102 y103 y104 y105 y106 y107 y108 y109 y110 y111 y112 y113 y114
  clear hn hd
  subst hA
  clear kc
  replace KA := Lib.hid (KA.out.below hC); replace KB := Lib.hid (KB.out.below hC); replace KC := Lib.hid (KC.out.below hC); replace HB := Lib.hid (HB.out.trans (hC.mono HB.out.size)); clear hC; clear a0 a1 a2 a3 a4 a5 b0 b1 b2 b3 b4 b5 c0 c1 c2 c3 c4 c5; obtain ⟨a0, a1, a2, a3, a4, a5⟩ := KA.out; obtain ⟨b0, b1, b2, b3, b4, b5⟩ := KB.out; obtain ⟨c0, c1, c2, c3, c4, c5⟩ := KC.out
  go_wp2_with fail
  have kc : ∀ w', Below V2.heap.size V2 w' → Cells6 w' w.heap.size false t0 o0 r0 d0 i0 ∧ Cells6 w' (w.heap.size + 1) false t1 o1 r1 d1 i1 := fun w' h => ⟨KA.out.below h, KB.out.below h⟩
  unfold Cells6 at kc
  refine wp_region_typed (C := fun w' => Below V2.heap.size V2 w') (X := fun w w' => Below w.heap.size w w') (n := 115) (by kernel_rfl) (by kernel_rfl) rfl (fun w => Below.refl _ w) (Below.refl _ _).drew ?_
  refine w_is (fun w => Below.refl _ w) _ (.inl rfl) (fun ρ w hC hc hfn hf => by have e4 : ρ (.tmp 4) = _ := hf 4 (by decide); (conv => lhs; simp [execOp, go_sem, hc, e4, kc w hC])) ?_
  refine w_call (Is _) (fun _ _ _ h _ => h) 16 (.inl rfl) (fun ρ w hC hc hfn hf => by have e74 : ρ (.tmp 74) = _ := hf 74 (by decide); exact ⟨_, by (conv => lhs; simp [execOp, resolve, invoke, go_sem, hc, hfn, e74]), (tc_below hC (clB w))⟩) ?_
  refine w_is (fun w => Below.refl _ w) _ (.inl rfl) (fun ρ w hC hc hfn hf => by have e3 : ρ (.tmp 3) = _ := hf 3 (by decide); (conv => lhs; simp [execOp, go_sem, hc, e3, kc w hC])) ?_
  refine w_call (Is _) (fun _ _ _ h _ => h) 16 (.inl rfl) (fun ρ w hC hc hfn hf => by have e76 : ρ (.tmp 76) = _ := hf 76 (by decide); exact ⟨_, by (conv => lhs; simp [execOp, resolve, invoke, go_sem, hc, hfn, e76]), (tc_below hC (clA w))⟩) ?_
  refine w_call (Is _) (fun _ _ _ h _ => h) 18 (.inl rfl) (fun ρ w hC hc hfn hf => by have e75 : ρ (.tmp 75) = _ := hf 75 (by decide); have e77 : ρ (.tmp 77) = _ := hf 77 (by decide); exact ⟨_, by (conv => lhs; simp [execOp, resolve, invoke, go_sem, hc, hfn, e75, e77]), (tc_below hC (order_any _ _ _ _ _ _ w))⟩) ?_
  refine w_is (fun w => Below.refl _ w) _ (.inl rfl) (fun ρ w hC hc hfn hf => by have e78 : ρ (.tmp 78) = _ := hf 78 (by decide); (conv => lhs; simp [execOp, go_sem, hc, e78])) ?_
  intro A V3 hC hn hd hf
  have y0 : A.eval (.tmp 0) = _ := Eq.trans (hf 0) (by conv => lhs; simp [go_sem])
  have y1 : A.eval (.tmp 1) = _ := Eq.trans (hf 1) (by conv => lhs; simp [go_sem])
  have y2 : A.eval (.tmp 2) = _ := Eq.trans (hf 2) (by conv => lhs; simp [go_sem])
  have y3 : A.eval (.tmp 3) = _ := Eq.trans (hf 3) (by conv => lhs; simp [go_sem])
  have y4 : A.eval (.tmp 4) = _ := Eq.trans (hf 4) (by conv => lhs; simp [go_sem])
  have y5 : A.eval (.tmp 5) = _ := Eq.trans (hf 5) (by conv => lhs; simp [go_sem])
  have y6 : A.eval (.tmp 6) = _ := Eq.trans (hf 6) (by conv => lhs; simp [go_sem])
  have y7 : A.eval (.tmp 7) = _ := Eq.trans (hf 7) (by conv => lhs; simp [go_sem])
  have y8 : A.eval (.tmp 8) = _ := Eq.trans (hf 8) (by conv => lhs; simp [go_sem])
  have y9 : A.eval (.tmp 9) = _ := Eq.trans (hf 9) (by conv => lhs; simp [go_sem])
  have y10 : A.eval (.tmp 10) = _ := Eq.trans (hf 10) (by conv => lhs; simp [go_sem])
  have y11 : A.eval (.tmp 11) = _ := hf 11
  have y12 : A.eval (.tmp 12) = _ := Eq.trans (hf 12) (by conv => lhs; simp [go_sem])
  have y13 : A.eval (.tmp 13) = _ := Eq.trans (hf 13) (by conv => lhs; simp [go_sem])
  have y14 : A.eval (.tmp 14) = _ := Eq.trans (hf 14) (by conv => lhs; simp [go_sem])
  have y15 : A.eval (.tmp 15) = _ := Eq.trans (hf 15) (by conv => lhs; simp [go_sem])
  have y16 : A.eval (.tmp 16) = _ := Eq.trans (hf 16) (by conv => lhs; simp [go_sem])
  have y17 : A.eval (.tmp 17) = _ := Eq.trans (hf 17) (by conv => lhs; simp [go_sem])
  have y18 : A.eval (.tmp 18) = _ := Eq.trans (hf 18) (by conv => lhs; simp [go_sem])
  have y19 : A.eval (.tmp 19) = _ := Eq.trans (hf 19) (by conv => lhs; simp [go_sem])
  have y20 : A.eval (.tmp 20) = _ := Eq.trans (hf 20) (by conv => lhs; simp [go_sem])
  have y21 : A.eval (.tmp 21) = _ := Eq.trans (hf 21) (by conv => lhs; simp [go_sem])
  have y22 : A.eval (.tmp 22) = _ := Eq.trans (hf 22) (by conv => lhs; simp [go_sem])
  have y23 : A.eval (.tmp 23) = _ := Eq.trans (hf 23) (by conv => lhs; simp [go_sem])
  have y24 : A.eval (.tmp 24) = _ := Eq.trans (hf 24) (by conv => lhs; simp [go_sem])
  have y25 : A.eval (.tmp 25) = _ := Eq.trans (hf 25) (by conv => lhs; simp [go_sem])
  have y26 : A.eval (.tmp 26) = _ := Eq.trans (hf 26) (by conv => lhs; simp [go_sem])
  have y27 : A.eval (.tmp 27) = _ := Eq.trans (hf 27) (by conv => lhs; simp [go_sem])
  have y28 : A.eval (.tmp 28) = _ := Eq.trans (hf 28) (by conv => lhs; simp [go_sem])
  have y29 : A.eval (.tmp 29) = _ := Eq.trans (hf 29) (by conv => lhs; simp [go_sem])
  have y30 : A.eval (.tmp 30) = _ := Eq.trans (hf 30) (by conv => lhs; simp [go_sem])
  have y31 : A.eval (.tmp 31) = _ := Eq.trans (hf 31) (by conv => lhs; simp [go_sem])
  have y32 : A.eval (.tmp 32) = _ := Eq.trans (hf 32) (by conv => lhs; simp [go_sem])
  have y33 : A.eval (.tmp 33) = _ := Eq.trans (hf 33) (by conv => lhs; simp [go_sem])
  have y34 : A.eval (.tmp 34) = _ := Eq.trans (hf 34) (by conv => lhs; simp [go_sem])
  have y35 : A.eval (.tmp 35) = _ := Eq.trans (hf 35) (by conv => lhs; simp [go_sem])
  have y36 : A.eval (.tmp 36) = _ := Eq.trans (hf 36) (by conv => lhs; simp [go_sem])
  have y37 : A.eval (.tmp 37) = _ := Eq.trans (hf 37) (by conv => lhs; simp [go_sem])
  have y38 : A.eval (.tmp 38) = _ := Eq.trans (hf 38) (by conv => lhs; simp [go_sem])
  have y39 : A.eval (.tmp 39) = _ := Eq.trans (hf 39) (by conv => lhs; simp [go_sem])
  have y40 : A.eval (.tmp 40) = _ := Eq.trans (hf 40) (by conv => lhs; simp [go_sem])
  have y41 : A.eval (.tmp 41) = _ := Eq.trans (hf 41) (by conv => lhs; simp [go_sem])
  have y42 : A.eval (.tmp 42) = _ := Eq.trans (hf 42) (by conv => lhs; simp [go_sem])
  have y43 : A.eval (.tmp 43) = _ := Eq.trans (hf 43) (by conv => lhs; simp [go_sem])
  have y44 : A.eval (.tmp 44) = _ := Eq.trans (hf 44) (by conv => lhs; simp [go_sem])
  have y45 : A.eval (.tmp 45) = _ := Eq.trans (hf 45) (by conv => lhs; simp [go_sem])
  have y46 : A.eval (.tmp 46) = _ := Eq.trans (hf 46) (by conv => lhs; simp [go_sem])
  have y47 : A.eval (.tmp 47) = _ := Eq.trans (hf 47) (by conv => lhs; simp [go_sem])
  have y48 : A.eval (.tmp 48) = _ := Eq.trans (hf 48) (by conv => lhs; simp [go_sem])
  have y49 : A.eval (.tmp 49) = _ := Eq.trans (hf 49) (by conv => lhs; simp [go_sem])
  have y50 : A.eval (.tmp 50) = _ := Eq.trans (hf 50) (by conv => lhs; simp [go_sem])
  have y51 : A.eval (.tmp 51) = _ := Eq.trans (hf 51) (by conv => lhs; simp [go_sem])
  have y52 : A.eval (.tmp 52) = _ := Eq.trans (hf 52) (by conv => lhs; simp [go_sem])
  have y53 : A.eval (.tmp 53) = _ := Eq.trans (hf 53) (by conv => lhs; simp [go_sem])
  have y54 : A.eval (.tmp 54) = _ := Eq.trans (hf 54) (by conv => lhs; simp [go_sem])
  have y55 : A.eval (.tmp 55) = _ := Eq.trans (hf 55) (by conv => lhs; simp [go_sem])
  have y56 : A.eval (.tmp 56) = _ := Eq.trans (hf 56) (by conv => lhs; simp [go_sem])
  have y57 : A.eval (.tmp 57) = _ := Eq.trans (hf 57) (by conv => lhs; simp [go_sem])
  have y58 : A.eval (.tmp 58) = _ := Eq.trans (hf 58) (by conv => lhs; simp [go_sem])
  have y59 : A.eval (.tmp 59) = _ := Eq.trans (hf 59) (by conv => lhs; simp [go_sem])
  have y60 : A.eval (.tmp 60) = _ := Eq.trans (hf 60) (by conv => lhs; simp [go_sem])
  have y61 : A.eval (.tmp 61) = _ := Eq.trans (hf 61) (by conv => lhs; simp [go_sem])
  have y62 : A.eval (.tmp 62) = _ := Eq.trans (hf 62) (by conv => lhs; simp [go_sem])
  have y63 : A.eval (.tmp 63) = _ := Eq.trans (hf 63) (by conv => lhs; simp [go_sem])
  have y64 : A.eval (.tmp 64) = _ := Eq.trans (hf 64) (by conv => lhs; simp [go_sem])
  have y65 : A.eval (.tmp 65) = _ := Eq.trans (hf 65) (by conv => lhs; simp [go_sem])
  have y66 : A.eval (.tmp 66) = _ := Eq.trans (hf 66) (by conv => lhs; simp [go_sem])
  have y67 : A.eval (.tmp 67) = _ := Eq.trans (hf 67) (by conv => lhs; simp [go_sem])
  have y68 : A.eval (.tmp 68) = _ := Eq.trans (hf 68) (by conv => lhs; simp [go_sem])
  have y69 : A.eval (.tmp 69) = _ := Eq.trans (hf 69) (by conv => lhs; simp [go_sem])
  have y70 : A.eval (.tmp 70) = _ := Eq.trans (hf 70) (by conv => lhs; simp [go_sem])
  have y71 : A.eval (.tmp 71) = _ := Eq.trans (hf 71) (by conv => lhs; simp [go_sem])
  have y72 : A.eval (.tmp 72) = _ := Eq.trans (hf 72) (by conv => lhs; simp [go_sem])
  have y73 : A.eval (.tmp 73) = _ := Eq.trans (hf 73) (by conv => lhs; simp [go_sem])
  have y74 : A.eval (.tmp 74) = _ := hf 74
  have y75 : A.eval (.tmp 75) = _ := hf 75
  have y76 : A.eval (.tmp 76) = _ := hf 76
  have y77 : A.eval (.tmp 77) = _ := hf 77
  have y78 : A.eval (.tmp 78) = _ := hf 78
  have y79 : A.eval (.tmp 79) = _ := Eq.trans (hf 79) (by conv => lhs; simp [go_sem])
  have y80 : A.eval (.tmp 80) = _ := Eq.trans (hf 80) (by conv => lhs; simp [go_sem])
  have y81 : A.eval (.tmp 81) = _ := Eq.trans (hf 81) (by conv => lhs; simp [go_sem])
  have y82 : A.eval (.tmp 82) = _ := Eq.trans (hf 82) (by conv => lhs; simp [go_sem])
  have y83 : A.eval (.tmp 83) = _ := Eq.trans (hf 83) (by conv => lhs; simp [go_sem])
  have y84 : A.eval (.tmp 84) = _ := Eq.trans (hf 84) (by conv => lhs; simp [go_sem])
  have y85 : A.eval (.tmp 85) = _ := Eq.trans (hf 85) (by conv => lhs; simp [go_sem])
  have y86 : A.eval (.tmp 86) = _ := Eq.trans (hf 86) (by conv => lhs; simp [go_sem])
  have y87 : A.eval (.tmp 87) = _ := Eq.trans (hf 87) (by conv => lhs; simp [go_sem])
  have y88 : A.eval (.tmp 88) = _ := Eq.trans (hf 88) (by conv => lhs; simp [go_sem])
  have y89 : A.eval (.tmp 89) = _ := Eq.trans (hf 89) (by conv => lhs; simp [go_sem])
  have y90 : A.eval (.tmp 90) = _ := Eq.trans (hf 90) (by conv => lhs; simp [go_sem])
  have y91 : A.eval (.tmp 91) = _ := Eq.trans (hf 91) (by conv => lhs; simp [go_sem])
  have y92 : A.eval (.tmp 92) = _ := Eq.trans (hf 92) (by conv => lhs; simp [go_sem])
  have y93 : A.eval (.tmp 93) = _ := Eq.trans (hf 93) (by conv => lhs; simp [go_sem])
  have y94 : A.eval (.tmp 94) = _ := Eq.trans (hf 94) (by conv => lhs; simp [go_sem])
  have y95 : A.eval (.tmp 95) = _ := Eq.trans (hf 95) (by conv => lhs; simp [go_sem])
  have y96 : A.eval (.tmp 96) = _ := Eq.trans (hf 96) (by conv => lhs; simp [go_sem])
  have y97 : A.eval (.tmp 97) = _ := Eq.trans (hf 97) (by conv => lhs; simp [go_sem])
  have y98 : A.eval (.tmp 98) = _ := Eq.trans (hf 98) (by conv => lhs; simp [go_sem])
  have y99 : A.eval (.tmp 99) = _ := Eq.trans (hf 99) (by conv => lhs; simp [go_sem])
  have y100 : A.eval (.tmp 100) = _ := Eq.trans (hf 100) (by conv => lhs; simp [go_sem])
  have y101 : A.eval (.tmp 101) = _ := Eq.trans (hf 101) (by conv => lhs; simp [go_sem])
  have y102 : A.eval (.tmp 102) = _ := Eq.trans (hf 102) (by conv => lhs; simp [go_sem])
  have y103 : A.eval (.tmp 103) = _ := Eq.trans (hf 103) (by conv => lhs; simp [go_sem])
  have y104 : A.eval (.tmp 104) = _ := Eq.trans (hf 104) (by conv => lhs; simp [go_sem])
  have y105 : A.eval (.tmp 105) = _ := Eq.trans (hf 105) (by conv => lhs; simp [go_sem])
  have y106 : A.eval (.tmp 106) = _ := Eq.trans (hf 106) (by conv => lhs; simp [go_sem])
  have y107 : A.eval (.tmp 107) = _ := Eq.trans (hf 107) (by conv => lhs; simp [go_sem])
  have y108 : A.eval (.tmp 108) = _ := Eq.trans (hf 108) (by conv => lhs; simp [go_sem])
  have y109 : A.eval (.tmp 109) = _ := Eq.trans (hf 109) (by conv => lhs; simp [go_sem])
  have y110 : A.eval (.tmp 110) = _ := Eq.trans (hf 110) (by conv => lhs; simp [go_sem])
  have y111 : A.eval (.tmp 111) = _ := Eq.trans (hf 111) (by conv => lhs; simp [go_sem])
  have y112 : A.eval (.tmp 112) = _ := Eq.trans (hf 112) (by conv => lhs; simp [go_sem])
  have y113 : A.eval (.tmp 113) = _ := Eq.trans (hf 113) (by conv => lhs; simp [go_sem])
  have y114 : A.eval (.tmp 114) = _ := Eq.trans (hf 114) (by conv => lhs; simp [go_sem])
  clear hf
  have hA := frame_eq hn
  rw [show List.range 115 = [0, 1, 2, 3, 4, 5, 6, 7, 8, 9, 10, 11, 12, 13, 14, 15, 16, 17, 18, 19, 20, 21, 22, 23, 24, 25, 26, 27, 28, 29, 30, 31, 32, 33, 34, 35, 36, 37, 38, 39, 40, 41, 42, 43, 44, 45, 46, 47, 48, 49, 50, 51, 52, 53, 54, 55, 56, 57, 58, 59, 60, 61, 62, 63, 64, 65, 66, 67, 68, 69, 70, 71, 72, 73, 74, 75, 76, 77, 78, 79, 80, 81, 82, 83, 84, 85, 86, 87, 88, 89, 90, 91, 92, 93, 94, 95, 96, 97, 98, 99, 100, 101, 102, 103, 104, 105, 106, 107, 108, 109, 110, 111, 112, 113, 114] from rfl, hd] at hA
  simp only [List.map_cons, List.map_nil, y0, y1, y2, y3, y4, y5, y6, y7, y8, y9, y10, y11, y12, y13, y14, y15, y16, y17, y18, y19, y20, y21, y22, y23, y24, y25, y26, y27, y28, y29, y30, y31, y32, y33, y34, y35, y36, y37, y38, y39, y40, y41, y42, y43, y44, y45, y46, y47, y48, y49, y50, y51, y52, y53, y54, y55, y56, y57, y58, y59, y60, y61, y62, y63, y64, y65, y66, y67, y68, y69, y70, y71, y72, y73, y74, y75, y76, y77, y78, y79, y80, y81, y82, y83, y84, y85, y86, y87, y88, y89, y90, y91, y92, y93, y94, y95, y96, y97, y98, y99, y100, y101, y102, y103, y104, y105, y106, y107, y108, y109, y110, y111, y112, y113, y114] at hA
  clear y0 y1 y2 y3 y4 y5 y6 y7 y8 y9 y10 y11 y12 y13 y14 y15 y16 y17 y18 y19 y20 y21 y22 y23 y24 y25 y26 y27 y28 y29 y30 y31 y32 y33 y34 y35 y36 y37 y38 y39 y40 y41 y42 y43 y44 y45 y46 y47 y48 y49 y50 y51 y52 y53 y54 y55 y56 y57 y58 y59 y60 y61 y62 y63 y64 y65 y66 y67 y68 y69 y70 y71 y72 y73 y74 y75 y76 y77 y78 y79 y80 y81 y82 y83 y84 y85 y86 y87 y88 y89 y90 y91 y92 y93 y94 y95 y96 y97 y98 y99 y100 y101 y102 y103 y104 y105 y106 y107 y108 y109 y110 y111 y112 y113 y114
  clear hn hd
  subst hA
  clear kc
  replace KA := Lib.hid (KA.out.below hC); replace KB := Lib.hid (KB.out.below hC); replace KC := Lib.hid (KC.out.below hC); replace HB := Lib.hid (HB.out.trans (hC.mono HB.out.size)); clear hC; clear a0 a1 a2 a3 a4 a5 b0 b1 b2 b3 b4 b5 c0 c1 c2 c3 c4 c5; obtain ⟨a0, a1, a2, a3, a4, a5⟩ := KA.out; obtain ⟨b0, b1, b2, b3, b4, b5⟩ := KB.out; obtain ⟨c0, c1, c2, c3, c4, c5⟩ := KC.out
  have hM := ord_neg (lv (told false t1 o1 r1 d1 i1) t1) (lv (told false t1 o1 r1 d1 i1) o1) (lv (told false t1 o1 r1 d1 i1) r1) (lv (told false t0 o0 r0 d0 i0) t0) (lv (told false t0 o0 r0 d0 i0) o0) (lv (told false t0 o0 r0 d0 i0) r0)
  have E1 := guard23
  have E2 := eql23
  generalize ordL (lv (told false t0 o0 r0 d0 i0) t0) (lv (told false t0 o0 r0 d0 i0) o0) (lv (told false t0 o0 r0 d0 i0) r0) (lv (told false t1 o1 r1 d1 i1) t1) (lv (told false t1 o1 r1 d1 i1) o1) (lv (told false t1 o1 r1 d1 i1) r1) = P at *
  generalize ordL (lv (told false t1 o1 r1 d1 i1) t1) (lv (told false t1 o1 r1 d1 i1) o1) (lv (told false t1 o1 r1 d1 i1) r1) (lv (told false t0 o0 r0 d0 i0) t0) (lv (told false t0 o0 r0 d0 i0) o0) (lv (told false t0 o0 r0 d0 i0) r0) = M at *
  clear clA clB
  rcases hP with hN | hN
  · subst hN
    obtain rfl : M = 0 := by omega
    clear hM
    go_wp2_with (first
      | (go_at_call 20; refine (awake_any _).mono ?_; rintro e V1 ⟨rfl, hb⟩; replace KA := Lib.hid (KA.out.below hb); replace KB := Lib.hid (KB.out.below hb); replace KC := Lib.hid (KC.out.below hb); replace HB := Lib.hid (HB.out.trans (hb.mono HB.out.size)); clear hb; clear a0 a1 a2 a3 a4 a5 b0 b1 b2 b3 b4 b5 c0 c1 c2 c3 c4 c5; obtain ⟨a0, a1, a2, a3, a4, a5⟩ := KA.out; obtain ⟨b0, b1, b2, b3, b4, b5⟩ := KB.out; obtain ⟨c0, c1, c2, c3, c4, c5⟩ := KC.out))
    go_ret
    exact ⟨rfl, HB.out⟩
  · subst hN
    obtain rfl : M = -1 := by omega
    clear hM
    go_wp2_with (first
      | (go_at_call 20; refine (awake_any _).mono ?_; rintro e V1 ⟨rfl, hb⟩; replace KA := Lib.hid (KA.out.below hb); replace KB := Lib.hid (KB.out.below hb); replace KC := Lib.hid (KC.out.below hb); replace HB := Lib.hid (HB.out.trans (hb.mono HB.out.size)); clear hb; clear a0 a1 a2 a3 a4 a5 b0 b1 b2 b3 b4 b5 c0 c1 c2 c3 c4 c5; obtain ⟨a0, a1, a2, a3, a4, a5⟩ := KA.out; obtain ⟨b0, b1, b2, b3, b4, b5⟩ := KB.out; obtain ⟨c0, c1, c2, c3, c4, c5⟩ := KC.out))
    go_ret
    exact ⟨rfl, HB.out⟩
end Go.Proofs.Ytkgckmlphfafjaa.heightOrder
