/- thalweglaw04.ObjectDoes: for any object the law answers true: the program finds it right or not, and has its bytes and how many, as the document does; no condition. -/
import Derived.Test.YthfbahpnjbngiaaOaw
import Derived.Test.YthfbahpnjbngiaaOfm
import Derived.Test.YthfbahpnjbngiaaOrb
import Derived.Test.YthfbahpnjbngiaaTyped
import Derived.Test.YthfbahpnjbngiaaTyp2
import Derived.WalkLawsBesides
import Derived.WalkKit
import Derived.ProofKit
import Derived.OpenShut
import Derived.ShutString
import Derived.ChangeOld
import Derived.Below
namespace Go.Proofs.Ythfbahpnjbngiaa.objectDoes
open Go.ChangeShapes Go.WideShapes Go.ChangeAt Go.RowKit
open Go.ChangeMaps (open_string shut_string)
set_option linter.unusedVariables false

theorem own : ownKnob Try.prog.godebug = none := by kernel_rfl
theorem laidOut : laidOutB Try.prog = true := by kernel_rfl
open Go.Sort

set_option maxHeartbeats 16000000 in
theorem case_ok (kd0 ds0 : Int) (hn0 : Bool) (ht0 ho0 hr0 hd0 hi0 lx0 ly0 lz0 nm0 : Int) (bs : List Int) (w : World) (cB : ∀ w, Calls Try.prog 13 #[.agg #[.int .i64 kd0, .int .i64 ds0, .bool hn0, .int .i64 ht0, .int .i64 ho0, .int .i64 hr0, .int .i64 hd0, .int .i64 hi0, .int .i64 lx0, .int .i64 ly0, .int .i64 lz0, .int .i64 nm0]] w (RetB bs 0 w)) (cD : ∀ w, Calls Try.prog 14 #[.agg #[.int .i64 kd0, .int .i64 ds0, .bool hn0, .int .i64 ht0, .int .i64 ho0, .int .i64 hr0, .int .i64 hd0, .int .i64 hi0, .int .i64 lx0, .int .i64 ly0, .int .i64 lz0, .int .i64 nm0]] w (RetB bs 0 w))
    (cC : ∀ w, Calls Try.prog 16 #[.agg #[.int .i64 kd0, .int .i64 ds0, .bool hn0, .int .i64 ht0, .int .i64 ho0, .int .i64 hr0, .int .i64 hd0, .int .i64 hi0, .int .i64 lx0, .int .i64 ly0, .int .i64 lz0, .int .i64 nm0]] w fun e w' => e = .returned (.int .i64 0) ∧ Below w.heap.size w w') (cR : ∀ w, Calls Try.prog 17 #[.agg #[.int .i64 kd0, .int .i64 ds0, .bool hn0, .int .i64 ht0, .int .i64 ho0, .int .i64 hr0, .int .i64 hd0, .int .i64 hi0, .int .i64 lx0, .int .i64 ly0, .int .i64 lz0, .int .i64 nm0]] w fun e w' => e = .returned (.bool true) ∧ Below w.heap.size w w')
    (cS : ∀ w, Calls Try.prog 18 #[.agg #[.int .i64 kd0, .int .i64 ds0, .bool hn0, .int .i64 ht0, .int .i64 ho0, .int .i64 hr0, .int .i64 hd0, .int .i64 hi0, .int .i64 lx0, .int .i64 ly0, .int .i64 lz0, .int .i64 nm0]] w fun e w' => e = .returned (.int .i64 bs.length) ∧ Below w.heap.size w w') :
    Calls Try.prog 4 #[.agg #[.int .i64 kd0, .int .i64 ds0, .bool hn0, .int .i64 ht0, .int .i64 ho0, .int .i64 hr0, .int .i64 hd0, .int .i64 hi0, .int .i64 lx0, .int .i64 ly0, .int .i64 lz0, .int .i64 nm0]] w fun e w' => e = .returned (.bool true) ∧ Below w.heap.size w w' := by
  go_enter Try.func4, Try.ntmps4
  go_wp2_with (first
    | (go_at_call 13; refine (cB _).mono ?_; rintro e V1 ⟨r1, rfl, hr1, hb⟩; have R1 : Hid (Bs V1 r1 bs) := hr1; have K := Lib.hid ((cells12_alloc w kd0 ds0 hn0 ht0 ho0 hr0 hd0 hi0 lx0 ly0 lz0 nm0 37).below hb); have HB : Hid (Below w.heap.size w V1) := ((Below.refl _ w).alloc (Nat.le_refl _) _).trans (hb.mono (by simp)); clear hb hr1; have ⟨c0, c1, c2, c3, c4, c5, c6, c7, c8, c9, c10, c11⟩ := K.out)
    | (go_at_call 14; refine (cD _).mono ?_; rintro e V4 ⟨r2, rfl, hr2, hb⟩; have R2 : Hid (Bs V4 r2 bs) := hr2; replace R1 := Lib.hid (Bs_below R1.out hb); replace K := Lib.hid (K.out.below hb); replace HB := Lib.hid (HB.out.trans (hb.mono HB.out.size)); clear c0 c1 c2 c3 c4 c5 c6 c7 c8 c9 c10 c11; have ⟨c0, c1, c2, c3, c4, c5, c6, c7, c8, c9, c10, c11⟩ := K.out; clear hr2 hb; obtain ⟨a2, l2, rfl⟩ : ∃ a2 l2, r2 = .slice a2 bs.length l2 := Bs_len R2.out))
  have kc : ∀ w', Below V4.heap.size V4 w' → Cells12 w' w.heap.size kd0 ds0 hn0 ht0 ho0 hr0 hd0 hi0 lx0 ly0 lz0 nm0 := fun w' h => K.out.below h
  unfold Cells12 at kc
  have hv1 : ∀ w', Below V4.heap.size V4 w' → (convert 24 9 r1).run Try.prog w' = .ok (.string (strOfNums bs)) w' := fun w' h => Bs_conv (Bs_below R1.out h)
  have hv2 : ∀ w', Below V4.heap.size V4 w' → (convert 24 9 (.slice a2 bs.length l2)).run Try.prog w' = .ok (.string (strOfNums bs)) w' := fun w' h => Bs_conv (Bs_below R2.out h)
  refine wp_region_typed (C := fun w' => Below V4.heap.size V4 w') (X := fun w w' => Below w.heap.size w w') (n := 45) (by kernel_rfl) (by kernel_rfl) rfl (fun w => Below.refl _ w) (Below.refl _ _).drew ?_
  refine w_call (Is _) (fun _ _ _ h _ => h) 15 (.inl rfl) (fun ρ w hC hc hfn hf => by exact ⟨_, by (conv => lhs; simp [execOp, resolve, invoke, go_sem, hc, hfn]), tc_below hC (oawake_any w)⟩) ?_
  refine w_is (fun w => Below.refl _ w) _ (.inl rfl) (fun ρ w hC hc hfn hf => by have e17 : ρ (.tmp 17) = _ := hf 17 (by decide); (conv => lhs; simp [execOp, go_sem, hc, e17])) ?_
  refine w_is (fun w => Below.refl _ w) _ (.inr ⟨1, 18, true, rfl, rfl, known_is rfl⟩) (fun ρ w hC hc hfn hf => by have e1 : ρ (.tmp 1) = _ := hf 1 (by decide); (conv => lhs; simp [execOp, go_sem, hc, e1, kc w hC])) ?_
  refine w_call (Is _) (fun _ _ _ h _ => h) 16 (.inr ⟨1, 18, true, rfl, rfl, known_is rfl⟩) (fun ρ w hC hc hfn hf => by have e19 : ρ (.tmp 19) = _ := hf 19 (by decide); exact ⟨_, by (conv => lhs; simp [execOp, resolve, invoke, go_sem, hc, hfn, e19]), tc_below hC (cC w)⟩) ?_
  refine w_is (fun w => Below.refl _ w) _ (.inr ⟨1, 18, true, rfl, rfl, known_is rfl⟩) (fun ρ w hC hc hfn hf => by have e20 : ρ (.tmp 20) = _ := hf 20 (by decide); (conv => lhs; simp [execOp, go_sem, hc, e20])) ?_
  refine w_is (fun w => Below.refl _ w) _ (.inr ⟨1, 18, true, rfl, rfl, known_is rfl⟩) (fun ρ w hC hc hfn hf => by have e1 : ρ (.tmp 1) = _ := hf 1 (by decide); (conv => lhs; simp [execOp, go_sem, hc, e1, kc w hC])) ?_
  refine w_call (Is _) (fun _ _ _ h _ => h) 17 (.inr ⟨1, 18, true, rfl, rfl, known_is rfl⟩) (fun ρ w hC hc hfn hf => by have e22 : ρ (.tmp 22) = _ := hf 22 (by decide); exact ⟨_, by (conv => lhs; simp [execOp, resolve, invoke, go_sem, hc, hfn, e22]), tc_below hC (cR w)⟩) ?_
  refine w_is (fun w => Below.refl _ w) _ (.inr ⟨1, 18, true, rfl, rfl, known_is rfl⟩) (fun ρ w hC hc hfn hf => by have e21 : ρ (.tmp 21) = _ := hf 21 (by decide); have e23 : ρ (.tmp 23) = _ := hf 23 (by decide); (conv => lhs; simp [execOp, go_sem, hc, e21, e23])) ?_
  refine w_is (fun w => Below.refl _ w) _ (.inl rfl) (fun ρ w hC hc hfn hf => by have e18 : ρ (.tmp 18) = _ := hf 18 (by decide); have e24 : ρ (.tmp 24) = _ := hf 24 (by decide); (conv => lhs; simp [execOp, go_sem, hc, e18, e24])) ?_
  refine w_is (fun w => Below.refl _ w) _ (.inl rfl) (fun ρ w hC hc hfn hf => by have e25 : ρ (.tmp 25) = _ := hf 25 (by decide); (conv => lhs; simp [execOp, go_sem, hc, e25])) ?_
  refine w_is (fun w => Below.refl _ w) _ (.inr ⟨9, 26, true, rfl, rfl, known_is rfl⟩) (fun ρ w hC hc hfn hf => by have e3 : ρ (.tmp 3) = _ := hf 3 (by decide); (conv => lhs; simp [execOp, go_sem, hc, e3])) ?_
  refine w_is (fun w => Below.refl _ w) _ (.inr ⟨9, 26, true, rfl, rfl, known_is rfl⟩) (fun ρ w hC hc hfn hf => by have e27 : ρ (.tmp 27) = _ := hf 27 (by decide); (conv => lhs; simp [execOp, go_sem, hc, e27, hv1 w hC])) ?_
  refine w_is (fun w => Below.refl _ w) _ (.inr ⟨9, 26, true, rfl, rfl, known_is rfl⟩) (fun ρ w hC hc hfn hf => by have e5 : ρ (.tmp 5) = _ := hf 5 (by decide); (conv => lhs; simp [execOp, go_sem, hc, e5])) ?_
  refine w_is (fun w => Below.refl _ w) _ (.inr ⟨9, 26, true, rfl, rfl, known_is rfl⟩) (fun ρ w hC hc hfn hf => by have e29 : ρ (.tmp 29) = _ := hf 29 (by decide); (conv => lhs; simp [execOp, go_sem, hc, e29, hv2 w hC])) ?_
  refine w_is (fun w => Below.refl _ w) _ (.inr ⟨9, 26, true, rfl, rfl, known_is rfl⟩) (fun ρ w hC hc hfn hf => by have e28 : ρ (.tmp 28) = _ := hf 28 (by decide); have e30 : ρ (.tmp 30) = _ := hf 30 (by decide); (conv => lhs; simp [execOp, go_sem, hc, e28, e30])) ?_
  refine w_is (fun w => Below.refl _ w) _ (.inl rfl) (fun ρ w hC hc hfn hf => by have e26 : ρ (.tmp 26) = _ := hf 26 (by decide); have e31 : ρ (.tmp 31) = _ := hf 31 (by decide); (conv => lhs; simp [execOp, go_sem, hc, e26, e31])) ?_
  refine w_is (fun w => Below.refl _ w) _ (.inl rfl) (fun ρ w hC hc hfn hf => by have e32 : ρ (.tmp 32) = _ := hf 32 (by decide); (conv => lhs; simp [execOp, go_sem, hc, e32])) ?_
  refine w_is (fun w => Below.refl _ w) _ (.inr ⟨16, 33, true, rfl, rfl, known_is rfl⟩) (fun ρ w hC hc hfn hf => by have e4 : ρ (.tmp 4) = _ := hf 4 (by decide); (conv => lhs; simp [execOp, go_sem, hc, e4])) ?_
  refine w_is (fun w => Below.refl _ w) _ (.inr ⟨16, 33, true, rfl, rfl, known_is rfl⟩) (fun ρ w hC hc hfn hf => by have e6 : ρ (.tmp 6) = _ := hf 6 (by decide); (conv => lhs; simp [execOp, go_sem, hc, e6])) ?_
  refine w_is (fun w => Below.refl _ w) _ (.inr ⟨16, 33, true, rfl, rfl, known_is rfl⟩) (fun ρ w hC hc hfn hf => by have e34 : ρ (.tmp 34) = _ := hf 34 (by decide); have e35 : ρ (.tmp 35) = _ := hf 35 (by decide); (conv => lhs; simp [execOp, go_sem, hc, e34, e35])) ?_
  refine w_is (fun w => Below.refl _ w) _ (.inl rfl) (fun ρ w hC hc hfn hf => by have e33 : ρ (.tmp 33) = _ := hf 33 (by decide); have e36 : ρ (.tmp 36) = _ := hf 36 (by decide); (conv => lhs; simp [execOp, go_sem, hc, e33, e36])) ?_
  refine w_is (fun w => Below.refl _ w) _ (.inl rfl) (fun ρ w hC hc hfn hf => by have e37 : ρ (.tmp 37) = _ := hf 37 (by decide); (conv => lhs; simp [execOp, go_sem, hc, e37])) ?_
  refine w_is (fun w => Below.refl _ w) _ (.inr ⟨21, 38, true, rfl, rfl, known_is rfl⟩) (fun ρ w hC hc hfn hf => by have e1 : ρ (.tmp 1) = _ := hf 1 (by decide); (conv => lhs; simp [execOp, go_sem, hc, e1, kc w hC])) ?_
  refine w_call (Is _) (fun _ _ _ h _ => h) 18 (.inr ⟨21, 38, true, rfl, rfl, known_is rfl⟩) (fun ρ w hC hc hfn hf => by have e39 : ρ (.tmp 39) = _ := hf 39 (by decide); exact ⟨_, by (conv => lhs; simp [execOp, resolve, invoke, go_sem, hc, hfn, e39]), tc_below hC (cS w)⟩) ?_
  refine w_is (fun w => Below.refl _ w) _ (.inr ⟨21, 38, true, rfl, rfl, known_is rfl⟩) (fun ρ w hC hc hfn hf => by have e5 : ρ (.tmp 5) = _ := hf 5 (by decide); (conv => lhs; simp [execOp, go_sem, hc, e5])) ?_
  refine w_is (fun w => Below.refl _ w) _ (.inr ⟨21, 38, true, rfl, rfl, known_is rfl⟩) (fun ρ w hC hc hfn hf => by have e41 : ρ (.tmp 41) = _ := hf 41 (by decide); (conv => lhs; simp [execOp, go_sem, hc, e41])) ?_
  refine w_is (fun w => Below.refl _ w) _ (.inr ⟨21, 38, true, rfl, rfl, known_is rfl⟩) (fun ρ w hC hc hfn hf => by have e40 : ρ (.tmp 40) = _ := hf 40 (by decide); have e42 : ρ (.tmp 42) = _ := hf 42 (by decide); (conv => lhs; simp [execOp, go_sem, hc, e40, e42])) ?_
  refine w_is (fun w => Below.refl _ w) _ (.inl rfl) (fun ρ w hC hc hfn hf => by have e38 : ρ (.tmp 38) = _ := hf 38 (by decide); have e43 : ρ (.tmp 43) = _ := hf 43 (by decide); (conv => lhs; simp [execOp, go_sem, hc, e38, e43])) ?_
  refine w_is (fun w => Below.refl _ w) _ (.inl rfl) (fun ρ w hC hc hfn hf => by have e44 : ρ (.tmp 44) = _ := hf 44 (by decide); (conv => lhs; simp [execOp, go_sem, hc, e44])) ?_
  intro A V5 hC hn hd hf
  have y0 : A.eval (.tmp 0) = _ := Eq.trans (hf 0) (by conv => lhs; simp [go_sem])
  have y1 : A.eval (.tmp 1) = _ := Eq.trans (hf 1) (by conv => lhs; simp [go_sem])
  have y2 : A.eval (.tmp 2) = _ := hf 2
  have y3 : A.eval (.tmp 3) = _ := Eq.trans (hf 3) (by conv => lhs; simp [go_sem])
  have y4 : A.eval (.tmp 4) = _ := Eq.trans (hf 4) (by conv => lhs; simp [go_sem])
  have y5 : A.eval (.tmp 5) = _ := Eq.trans (hf 5) (by conv => lhs; simp [go_sem])
  have y6 : A.eval (.tmp 6) = _ := Eq.trans (hf 6) (by conv => lhs; simp [go_sem])
  have y7 : A.eval (.tmp 7) = _ := Eq.trans (hf 7) (by conv => lhs; simp [go_sem])
  have y8 : A.eval (.tmp 8) = _ := Eq.trans (hf 8) (by conv => lhs; simp [go_sem])
  have y9 : A.eval (.tmp 9) = _ := Eq.trans (hf 9) (by conv => lhs; simp [go_sem])
  have y10 : A.eval (.tmp 10) = _ := Eq.trans (hf 10) (by conv => lhs; simp [go_sem])
  have y11 : A.eval (.tmp 11) = _ := Eq.trans (hf 11) (by conv => lhs; simp [go_sem])
  have y12 : A.eval (.tmp 12) = _ := Eq.trans (hf 12) (by conv => lhs; simp [go_sem])
  have y13 : A.eval (.tmp 13) = _ := Eq.trans (hf 13) (by conv => lhs; simp [go_sem])
  have y14 : A.eval (.tmp 14) = _ := Eq.trans (hf 14) (by conv => lhs; simp [go_sem])
  have y15 : A.eval (.tmp 15) = _ := Eq.trans (hf 15) (by conv => lhs; simp [go_sem])
  have y16 : A.eval (.tmp 16) = _ := Eq.trans (hf 16) (by conv => lhs; simp [go_sem])
  have y17 : A.eval (.tmp 17) = _ := hf 17
  have y18 : A.eval (.tmp 18) = _ := hf 18
  have y19 : A.eval (.tmp 19) = _ := hf 19
  have y20 : A.eval (.tmp 20) = _ := hf 20
  have y21 : A.eval (.tmp 21) = _ := hf 21
  have y22 : A.eval (.tmp 22) = _ := hf 22
  have y23 : A.eval (.tmp 23) = _ := hf 23
  have y24 : A.eval (.tmp 24) = _ := hf 24
  have y25 : A.eval (.tmp 25) = _ := hf 25
  have y26 : A.eval (.tmp 26) = _ := hf 26
  have y27 : A.eval (.tmp 27) = _ := hf 27
  have y28 : A.eval (.tmp 28) = _ := hf 28
  have y29 : A.eval (.tmp 29) = _ := hf 29
  have y30 : A.eval (.tmp 30) = _ := hf 30
  have y31 : A.eval (.tmp 31) = _ := hf 31
  have y32 : A.eval (.tmp 32) = _ := hf 32
  have y33 : A.eval (.tmp 33) = _ := hf 33
  have y34 : A.eval (.tmp 34) = _ := hf 34
  have y35 : A.eval (.tmp 35) = _ := hf 35
  have y36 : A.eval (.tmp 36) = _ := hf 36
  have y37 : A.eval (.tmp 37) = _ := hf 37
  have y38 : A.eval (.tmp 38) = _ := hf 38
  have y39 : A.eval (.tmp 39) = _ := hf 39
  have y40 : A.eval (.tmp 40) = _ := hf 40
  have y41 : A.eval (.tmp 41) = _ := hf 41
  have y42 : A.eval (.tmp 42) = _ := hf 42
  have y43 : A.eval (.tmp 43) = _ := hf 43
  have y44 : A.eval (.tmp 44) = _ := hf 44
  clear hf
  have hA := frame_eq hn
  rw [show List.range 45 = [0, 1, 2, 3, 4, 5, 6, 7, 8, 9, 10, 11, 12, 13, 14, 15, 16, 17, 18, 19, 20, 21, 22, 23, 24, 25, 26, 27, 28, 29, 30, 31, 32, 33, 34, 35, 36, 37, 38, 39, 40, 41, 42, 43, 44] from rfl, hd] at hA
  simp only [List.map_cons, List.map_nil, y0, y1, y2, y3, y4, y5, y6, y7, y8, y9, y10, y11, y12, y13, y14, y15, y16, y17, y18, y19, y20, y21, y22, y23, y24, y25, y26, y27, y28, y29, y30, y31, y32, y33, y34, y35, y36, y37, y38, y39, y40, y41, y42, y43, y44] at hA
  clear y0 y1 y2 y3 y4 y5 y6 y7 y8 y9 y10 y11 y12 y13 y14 y15 y16 y17 y18 y19 y20 y21 y22 y23 y24 y25 y26 y27 y28 y29 y30 y31 y32 y33 y34 y35 y36 y37 y38 y39 y40 y41 y42 y43 y44
  clear hn hd
  subst hA
  go_wp2_with fail
  go_ret
  exact ⟨rfl, HB.out.trans (hC.mono HB.out.size)⟩

set_option maxHeartbeats 16000000 in
theorem case_no (kd0 ds0 : Int) (hn0 : Bool) (ht0 ho0 hr0 hd0 hi0 lx0 ly0 lz0 nm0 : Int) (bs : List Int) (w : World) (cB : ∀ w, Calls Try.prog 13 #[.agg #[.int .i64 kd0, .int .i64 ds0, .bool hn0, .int .i64 ht0, .int .i64 ho0, .int .i64 hr0, .int .i64 hd0, .int .i64 hi0, .int .i64 lx0, .int .i64 ly0, .int .i64 lz0, .int .i64 nm0]] w (RetB bs 1 w)) (cD : ∀ w, Calls Try.prog 14 #[.agg #[.int .i64 kd0, .int .i64 ds0, .bool hn0, .int .i64 ht0, .int .i64 ho0, .int .i64 hr0, .int .i64 hd0, .int .i64 hi0, .int .i64 lx0, .int .i64 ly0, .int .i64 lz0, .int .i64 nm0]] w (RetB bs 1 w))
    (cC : ∀ w, Calls Try.prog 16 #[.agg #[.int .i64 kd0, .int .i64 ds0, .bool hn0, .int .i64 ht0, .int .i64 ho0, .int .i64 hr0, .int .i64 hd0, .int .i64 hi0, .int .i64 lx0, .int .i64 ly0, .int .i64 lz0, .int .i64 nm0]] w fun e w' => e = .returned (.int .i64 1) ∧ Below w.heap.size w w') (cR : ∀ w, Calls Try.prog 17 #[.agg #[.int .i64 kd0, .int .i64 ds0, .bool hn0, .int .i64 ht0, .int .i64 ho0, .int .i64 hr0, .int .i64 hd0, .int .i64 hi0, .int .i64 lx0, .int .i64 ly0, .int .i64 lz0, .int .i64 nm0]] w fun e w' => e = .returned (.bool false) ∧ Below w.heap.size w w')
    (cS : ∀ w, Calls Try.prog 18 #[.agg #[.int .i64 kd0, .int .i64 ds0, .bool hn0, .int .i64 ht0, .int .i64 ho0, .int .i64 hr0, .int .i64 hd0, .int .i64 hi0, .int .i64 lx0, .int .i64 ly0, .int .i64 lz0, .int .i64 nm0]] w fun e w' => e = .returned (.int .i64 bs.length) ∧ Below w.heap.size w w') :
    Calls Try.prog 4 #[.agg #[.int .i64 kd0, .int .i64 ds0, .bool hn0, .int .i64 ht0, .int .i64 ho0, .int .i64 hr0, .int .i64 hd0, .int .i64 hi0, .int .i64 lx0, .int .i64 ly0, .int .i64 lz0, .int .i64 nm0]] w fun e w' => e = .returned (.bool true) ∧ Below w.heap.size w w' := by
  go_enter Try.func4, Try.ntmps4
  go_wp2_with (first
    | (go_at_call 13; refine (cB _).mono ?_; rintro e V1 ⟨r1, rfl, hr1, hb⟩; have R1 : Hid (Bs V1 r1 bs) := hr1; have K := Lib.hid ((cells12_alloc w kd0 ds0 hn0 ht0 ho0 hr0 hd0 hi0 lx0 ly0 lz0 nm0 37).below hb); have HB : Hid (Below w.heap.size w V1) := ((Below.refl _ w).alloc (Nat.le_refl _) _).trans (hb.mono (by simp)); clear hb hr1; have ⟨c0, c1, c2, c3, c4, c5, c6, c7, c8, c9, c10, c11⟩ := K.out)
    | (go_at_call 14; refine (cD _).mono ?_; rintro e V4 ⟨r2, rfl, hr2, hb⟩; have R2 : Hid (Bs V4 r2 bs) := hr2; replace R1 := Lib.hid (Bs_below R1.out hb); replace K := Lib.hid (K.out.below hb); replace HB := Lib.hid (HB.out.trans (hb.mono HB.out.size)); clear c0 c1 c2 c3 c4 c5 c6 c7 c8 c9 c10 c11; have ⟨c0, c1, c2, c3, c4, c5, c6, c7, c8, c9, c10, c11⟩ := K.out; clear hr2 hb; obtain ⟨a2, l2, rfl⟩ : ∃ a2 l2, r2 = .slice a2 bs.length l2 := Bs_len R2.out))
  have kc : ∀ w', Below V4.heap.size V4 w' → Cells12 w' w.heap.size kd0 ds0 hn0 ht0 ho0 hr0 hd0 hi0 lx0 ly0 lz0 nm0 := fun w' h => K.out.below h
  unfold Cells12 at kc
  have hv1 : ∀ w', Below V4.heap.size V4 w' → (convert 24 9 r1).run Try.prog w' = .ok (.string (strOfNums bs)) w' := fun w' h => Bs_conv (Bs_below R1.out h)
  have hv2 : ∀ w', Below V4.heap.size V4 w' → (convert 24 9 (.slice a2 bs.length l2)).run Try.prog w' = .ok (.string (strOfNums bs)) w' := fun w' h => Bs_conv (Bs_below R2.out h)
  refine wp_region_typed (C := fun w' => Below V4.heap.size V4 w') (X := fun w w' => Below w.heap.size w w') (n := 45) (by kernel_rfl) (by kernel_rfl) rfl (fun w => Below.refl _ w) (Below.refl _ _).drew ?_
  refine w_call (Is _) (fun _ _ _ h _ => h) 15 (.inl rfl) (fun ρ w hC hc hfn hf => by exact ⟨_, by (conv => lhs; simp [execOp, resolve, invoke, go_sem, hc, hfn]), tc_below hC (oawake_any w)⟩) ?_
  refine w_is (fun w => Below.refl _ w) _ (.inl rfl) (fun ρ w hC hc hfn hf => by have e17 : ρ (.tmp 17) = _ := hf 17 (by decide); (conv => lhs; simp [execOp, go_sem, hc, e17])) ?_
  refine w_is (fun w => Below.refl _ w) _ (.inr ⟨1, 18, true, rfl, rfl, known_is rfl⟩) (fun ρ w hC hc hfn hf => by have e1 : ρ (.tmp 1) = _ := hf 1 (by decide); (conv => lhs; simp [execOp, go_sem, hc, e1, kc w hC])) ?_
  refine w_call (Is _) (fun _ _ _ h _ => h) 16 (.inr ⟨1, 18, true, rfl, rfl, known_is rfl⟩) (fun ρ w hC hc hfn hf => by have e19 : ρ (.tmp 19) = _ := hf 19 (by decide); exact ⟨_, by (conv => lhs; simp [execOp, resolve, invoke, go_sem, hc, hfn, e19]), tc_below hC (cC w)⟩) ?_
  refine w_is (fun w => Below.refl _ w) _ (.inr ⟨1, 18, true, rfl, rfl, known_is rfl⟩) (fun ρ w hC hc hfn hf => by have e20 : ρ (.tmp 20) = _ := hf 20 (by decide); (conv => lhs; simp [execOp, go_sem, hc, e20])) ?_
  refine w_is (fun w => Below.refl _ w) _ (.inr ⟨1, 18, true, rfl, rfl, known_is rfl⟩) (fun ρ w hC hc hfn hf => by have e1 : ρ (.tmp 1) = _ := hf 1 (by decide); (conv => lhs; simp [execOp, go_sem, hc, e1, kc w hC])) ?_
  refine w_call (Is _) (fun _ _ _ h _ => h) 17 (.inr ⟨1, 18, true, rfl, rfl, known_is rfl⟩) (fun ρ w hC hc hfn hf => by have e22 : ρ (.tmp 22) = _ := hf 22 (by decide); exact ⟨_, by (conv => lhs; simp [execOp, resolve, invoke, go_sem, hc, hfn, e22]), tc_below hC (cR w)⟩) ?_
  refine w_is (fun w => Below.refl _ w) _ (.inr ⟨1, 18, true, rfl, rfl, known_is rfl⟩) (fun ρ w hC hc hfn hf => by have e21 : ρ (.tmp 21) = _ := hf 21 (by decide); have e23 : ρ (.tmp 23) = _ := hf 23 (by decide); (conv => lhs; simp [execOp, go_sem, hc, e21, e23])) ?_
  refine w_is (fun w => Below.refl _ w) _ (.inl rfl) (fun ρ w hC hc hfn hf => by have e18 : ρ (.tmp 18) = _ := hf 18 (by decide); have e24 : ρ (.tmp 24) = _ := hf 24 (by decide); (conv => lhs; simp [execOp, go_sem, hc, e18, e24])) ?_
  refine w_is (fun w => Below.refl _ w) _ (.inl rfl) (fun ρ w hC hc hfn hf => by have e25 : ρ (.tmp 25) = _ := hf 25 (by decide); (conv => lhs; simp [execOp, go_sem, hc, e25])) ?_
  refine w_is (fun w => Below.refl _ w) _ (.inr ⟨9, 26, true, rfl, rfl, known_is rfl⟩) (fun ρ w hC hc hfn hf => by have e3 : ρ (.tmp 3) = _ := hf 3 (by decide); (conv => lhs; simp [execOp, go_sem, hc, e3])) ?_
  refine w_is (fun w => Below.refl _ w) _ (.inr ⟨9, 26, true, rfl, rfl, known_is rfl⟩) (fun ρ w hC hc hfn hf => by have e27 : ρ (.tmp 27) = _ := hf 27 (by decide); (conv => lhs; simp [execOp, go_sem, hc, e27, hv1 w hC])) ?_
  refine w_is (fun w => Below.refl _ w) _ (.inr ⟨9, 26, true, rfl, rfl, known_is rfl⟩) (fun ρ w hC hc hfn hf => by have e5 : ρ (.tmp 5) = _ := hf 5 (by decide); (conv => lhs; simp [execOp, go_sem, hc, e5])) ?_
  refine w_is (fun w => Below.refl _ w) _ (.inr ⟨9, 26, true, rfl, rfl, known_is rfl⟩) (fun ρ w hC hc hfn hf => by have e29 : ρ (.tmp 29) = _ := hf 29 (by decide); (conv => lhs; simp [execOp, go_sem, hc, e29, hv2 w hC])) ?_
  refine w_is (fun w => Below.refl _ w) _ (.inr ⟨9, 26, true, rfl, rfl, known_is rfl⟩) (fun ρ w hC hc hfn hf => by have e28 : ρ (.tmp 28) = _ := hf 28 (by decide); have e30 : ρ (.tmp 30) = _ := hf 30 (by decide); (conv => lhs; simp [execOp, go_sem, hc, e28, e30])) ?_
  refine w_is (fun w => Below.refl _ w) _ (.inl rfl) (fun ρ w hC hc hfn hf => by have e26 : ρ (.tmp 26) = _ := hf 26 (by decide); have e31 : ρ (.tmp 31) = _ := hf 31 (by decide); (conv => lhs; simp [execOp, go_sem, hc, e26, e31])) ?_
  refine w_is (fun w => Below.refl _ w) _ (.inl rfl) (fun ρ w hC hc hfn hf => by have e32 : ρ (.tmp 32) = _ := hf 32 (by decide); (conv => lhs; simp [execOp, go_sem, hc, e32])) ?_
  refine w_is (fun w => Below.refl _ w) _ (.inr ⟨16, 33, true, rfl, rfl, known_is rfl⟩) (fun ρ w hC hc hfn hf => by have e4 : ρ (.tmp 4) = _ := hf 4 (by decide); (conv => lhs; simp [execOp, go_sem, hc, e4])) ?_
  refine w_is (fun w => Below.refl _ w) _ (.inr ⟨16, 33, true, rfl, rfl, known_is rfl⟩) (fun ρ w hC hc hfn hf => by have e6 : ρ (.tmp 6) = _ := hf 6 (by decide); (conv => lhs; simp [execOp, go_sem, hc, e6])) ?_
  refine w_is (fun w => Below.refl _ w) _ (.inr ⟨16, 33, true, rfl, rfl, known_is rfl⟩) (fun ρ w hC hc hfn hf => by have e34 : ρ (.tmp 34) = _ := hf 34 (by decide); have e35 : ρ (.tmp 35) = _ := hf 35 (by decide); (conv => lhs; simp [execOp, go_sem, hc, e34, e35])) ?_
  refine w_is (fun w => Below.refl _ w) _ (.inl rfl) (fun ρ w hC hc hfn hf => by have e33 : ρ (.tmp 33) = _ := hf 33 (by decide); have e36 : ρ (.tmp 36) = _ := hf 36 (by decide); (conv => lhs; simp [execOp, go_sem, hc, e33, e36])) ?_
  refine w_is (fun w => Below.refl _ w) _ (.inl rfl) (fun ρ w hC hc hfn hf => by have e37 : ρ (.tmp 37) = _ := hf 37 (by decide); (conv => lhs; simp [execOp, go_sem, hc, e37])) ?_
  refine w_is (fun w => Below.refl _ w) _ (.inr ⟨21, 38, true, rfl, rfl, known_is rfl⟩) (fun ρ w hC hc hfn hf => by have e1 : ρ (.tmp 1) = _ := hf 1 (by decide); (conv => lhs; simp [execOp, go_sem, hc, e1, kc w hC])) ?_
  refine w_call (Is _) (fun _ _ _ h _ => h) 18 (.inr ⟨21, 38, true, rfl, rfl, known_is rfl⟩) (fun ρ w hC hc hfn hf => by have e39 : ρ (.tmp 39) = _ := hf 39 (by decide); exact ⟨_, by (conv => lhs; simp [execOp, resolve, invoke, go_sem, hc, hfn, e39]), tc_below hC (cS w)⟩) ?_
  refine w_is (fun w => Below.refl _ w) _ (.inr ⟨21, 38, true, rfl, rfl, known_is rfl⟩) (fun ρ w hC hc hfn hf => by have e5 : ρ (.tmp 5) = _ := hf 5 (by decide); (conv => lhs; simp [execOp, go_sem, hc, e5])) ?_
  refine w_is (fun w => Below.refl _ w) _ (.inr ⟨21, 38, true, rfl, rfl, known_is rfl⟩) (fun ρ w hC hc hfn hf => by have e41 : ρ (.tmp 41) = _ := hf 41 (by decide); (conv => lhs; simp [execOp, go_sem, hc, e41])) ?_
  refine w_is (fun w => Below.refl _ w) _ (.inr ⟨21, 38, true, rfl, rfl, known_is rfl⟩) (fun ρ w hC hc hfn hf => by have e40 : ρ (.tmp 40) = _ := hf 40 (by decide); have e42 : ρ (.tmp 42) = _ := hf 42 (by decide); (conv => lhs; simp [execOp, go_sem, hc, e40, e42])) ?_
  refine w_is (fun w => Below.refl _ w) _ (.inl rfl) (fun ρ w hC hc hfn hf => by have e38 : ρ (.tmp 38) = _ := hf 38 (by decide); have e43 : ρ (.tmp 43) = _ := hf 43 (by decide); (conv => lhs; simp [execOp, go_sem, hc, e38, e43])) ?_
  refine w_is (fun w => Below.refl _ w) _ (.inl rfl) (fun ρ w hC hc hfn hf => by have e44 : ρ (.tmp 44) = _ := hf 44 (by decide); (conv => lhs; simp [execOp, go_sem, hc, e44])) ?_
  intro A V5 hC hn hd hf
  have y0 : A.eval (.tmp 0) = _ := Eq.trans (hf 0) (by conv => lhs; simp [go_sem])
  have y1 : A.eval (.tmp 1) = _ := Eq.trans (hf 1) (by conv => lhs; simp [go_sem])
  have y2 : A.eval (.tmp 2) = _ := hf 2
  have y3 : A.eval (.tmp 3) = _ := Eq.trans (hf 3) (by conv => lhs; simp [go_sem])
  have y4 : A.eval (.tmp 4) = _ := Eq.trans (hf 4) (by conv => lhs; simp [go_sem])
  have y5 : A.eval (.tmp 5) = _ := Eq.trans (hf 5) (by conv => lhs; simp [go_sem])
  have y6 : A.eval (.tmp 6) = _ := Eq.trans (hf 6) (by conv => lhs; simp [go_sem])
  have y7 : A.eval (.tmp 7) = _ := Eq.trans (hf 7) (by conv => lhs; simp [go_sem])
  have y8 : A.eval (.tmp 8) = _ := Eq.trans (hf 8) (by conv => lhs; simp [go_sem])
  have y9 : A.eval (.tmp 9) = _ := Eq.trans (hf 9) (by conv => lhs; simp [go_sem])
  have y10 : A.eval (.tmp 10) = _ := Eq.trans (hf 10) (by conv => lhs; simp [go_sem])
  have y11 : A.eval (.tmp 11) = _ := Eq.trans (hf 11) (by conv => lhs; simp [go_sem])
  have y12 : A.eval (.tmp 12) = _ := Eq.trans (hf 12) (by conv => lhs; simp [go_sem])
  have y13 : A.eval (.tmp 13) = _ := Eq.trans (hf 13) (by conv => lhs; simp [go_sem])
  have y14 : A.eval (.tmp 14) = _ := Eq.trans (hf 14) (by conv => lhs; simp [go_sem])
  have y15 : A.eval (.tmp 15) = _ := Eq.trans (hf 15) (by conv => lhs; simp [go_sem])
  have y16 : A.eval (.tmp 16) = _ := Eq.trans (hf 16) (by conv => lhs; simp [go_sem])
  have y17 : A.eval (.tmp 17) = _ := hf 17
  have y18 : A.eval (.tmp 18) = _ := hf 18
  have y19 : A.eval (.tmp 19) = _ := hf 19
  have y20 : A.eval (.tmp 20) = _ := hf 20
  have y21 : A.eval (.tmp 21) = _ := hf 21
  have y22 : A.eval (.tmp 22) = _ := hf 22
  have y23 : A.eval (.tmp 23) = _ := hf 23
  have y24 : A.eval (.tmp 24) = _ := hf 24
  have y25 : A.eval (.tmp 25) = _ := hf 25
  have y26 : A.eval (.tmp 26) = _ := hf 26
  have y27 : A.eval (.tmp 27) = _ := hf 27
  have y28 : A.eval (.tmp 28) = _ := hf 28
  have y29 : A.eval (.tmp 29) = _ := hf 29
  have y30 : A.eval (.tmp 30) = _ := hf 30
  have y31 : A.eval (.tmp 31) = _ := hf 31
  have y32 : A.eval (.tmp 32) = _ := hf 32
  have y33 : A.eval (.tmp 33) = _ := hf 33
  have y34 : A.eval (.tmp 34) = _ := hf 34
  have y35 : A.eval (.tmp 35) = _ := hf 35
  have y36 : A.eval (.tmp 36) = _ := hf 36
  have y37 : A.eval (.tmp 37) = _ := hf 37
  have y38 : A.eval (.tmp 38) = _ := hf 38
  have y39 : A.eval (.tmp 39) = _ := hf 39
  have y40 : A.eval (.tmp 40) = _ := hf 40
  have y41 : A.eval (.tmp 41) = _ := hf 41
  have y42 : A.eval (.tmp 42) = _ := hf 42
  have y43 : A.eval (.tmp 43) = _ := hf 43
  have y44 : A.eval (.tmp 44) = _ := hf 44
  clear hf
  have hA := frame_eq hn
  rw [show List.range 45 = [0, 1, 2, 3, 4, 5, 6, 7, 8, 9, 10, 11, 12, 13, 14, 15, 16, 17, 18, 19, 20, 21, 22, 23, 24, 25, 26, 27, 28, 29, 30, 31, 32, 33, 34, 35, 36, 37, 38, 39, 40, 41, 42, 43, 44] from rfl, hd] at hA
  simp only [List.map_cons, List.map_nil, y0, y1, y2, y3, y4, y5, y6, y7, y8, y9, y10, y11, y12, y13, y14, y15, y16, y17, y18, y19, y20, y21, y22, y23, y24, y25, y26, y27, y28, y29, y30, y31, y32, y33, y34, y35, y36, y37, y38, y39, y40, y41, y42, y43, y44] at hA
  clear y0 y1 y2 y3 y4 y5 y6 y7 y8 y9 y10 y11 y12 y13 y14 y15 y16 y17 y18 y19 y20 y21 y22 y23 y24 y25 y26 y27 y28 y29 y30 y31 y32 y33 y34 y35 y36 y37 y38 y39 y40 y41 y42 y43 y44
  clear hn hd
  subst hA
  go_wp2_with fail
  go_ret
  exact ⟨rfl, HB.out.trans (hC.mono HB.out.size)⟩

theorem walk (kd0 ds0 : Int) (hn0 : Bool) (ht0 ho0 hr0 hd0 hi0 lx0 ly0 lz0 nm0 : Int) (w : World) :
    Calls Try.prog 4 #[.agg #[.int .i64 kd0, .int .i64 ds0, .bool hn0, .int .i64 ht0, .int .i64 ho0, .int .i64 hr0, .int .i64 hd0, .int .i64 hi0, .int .i64 lx0, .int .i64 ly0, .int .i64 lz0, .int .i64 nm0]] w fun e w' => e = .returned (.bool true) ∧ Below w.heap.size w w' := by
  have cB := obytes_any kd0 ds0 hn0 ht0 ho0 hr0 hd0 hi0 lx0 ly0 lz0 nm0
  have cD := orbytes_any kd0 ds0 hn0 ht0 ho0 hr0 hd0 hi0 lx0 ly0 lz0 nm0
  have cC := ocheck_any kd0 ds0 hn0 ht0 ho0 hr0 hd0 hi0 lx0 ly0 lz0 nm0
  have cR := oright_any kd0 ds0 hn0 ht0 ho0 hr0 hd0 hi0 lx0 ly0 lz0 nm0
  have cS := osize_any kd0 ds0 hn0 ht0 ho0 hr0 hd0 hi0 lx0 ly0 lz0 nm0
  by_cases h : ObOk kd0 ds0 hn0 ht0 ho0 hr0 hd0 hi0 lx0 ly0 lz0 nm0
  · rw [obc_ok h] at cB cD cC
    rw [decide_eq_true h] at cR
    exact case_ok kd0 ds0 hn0 ht0 ho0 hr0 hd0 hi0 lx0 ly0 lz0 nm0 _ w cB cD cC cR cS
  · rw [obc_no h] at cB cD cC
    rw [decide_eq_false h] at cR
    exact case_no kd0 ds0 hn0 ht0 ho0 hr0 hd0 hi0 lx0 ly0 lz0 nm0 _ w cB cD cC cR cS

set_option maxRecDepth 100000 in
theorem lifted (os : Os) (started : os.Started) (H : Type) (enc : TypeId × Value → H) :
    ReturnsInHanded {} Try.checked os 4 .any (Rows.objectDoesSpec.pre6 enc Try.prog Try.f4 Rows.objectDoesRow.domain false) (Rows.objectDoesSpec.post enc Try.prog Try.f4 false true false false) := by
  refine returnsInHanded_of_change (C := Try.checked) own started (by kernel_rfl) Try.func4
    (ChangeSpec.witness6 (enc := enc) (C := Try.checked) false ⟨#[], #[.agg #[.int .i64 0, .int .i64 0, .bool false, .int .i64 0, .int .i64 0, .int .i64 0, .int .i64 0, .int .i64 0, .int .i64 0, .int .i64 0, .int .i64 0, .int .i64 0]], []⟩ 16 (by kernel_rfl) (by kernel_rfl) (by kernel_rfl) (by kernel_rfl)) ?_
  intro W base args ds gs before hval0 hW hcnd _
  have hval : ∀ (j : Nat) t v, Try.f4.params[j]? = some t → args[j]? = some v → Value.okWide Try.prog W .any base t v := hval0
  have hW' := hW
  obtain ⟨p, q, hA0, hV, rfl, hfz, hnd⟩ := hW
  have hA : DataW.TrodAll enc Try.prog W 0 (fun _ => true) true Try.f4.params.toList args.toList ds p := hA0
  rw [Try.params4] at hA hval
  obtain ⟨v0, vs0, e0, ds0, p0, q0, hargs, rfl, rfl, h0, x0⟩ := trodAll_cons hA
  obtain ⟨rfl, rfl, rfl⟩ := trodAll_nil x0
  obtain rfl : args = #[v0] := by cases args; simp_all
  obtain ⟨rfl, rfl⟩ := trodVars_none hV
  have k0 := h0
  have lt0 : ∀ x ∈ p0, x.block < W.heap.size := by obtain ⟨m, hm⟩ := k0; exact DataW.trod_lt m _ _ _ hm
  obtain ⟨kd0, ds0, hn0, ht0, ho0, hr0, hd0, hi0, lx0, ly0, lz0, nm0, rfl⟩ := ob_form (hval 0 37 v0 rfl rfl) h0
  clear hA0 hval0
  refine (walk kd0 ds0 hn0 ht0 ho0 hr0 hd0 hi0 lx0 ly0 lz0 nm0 W).mono fun e W' ⟨he, bel⟩ => ?_
  subst he
  exact ⟨_, rfl, _, _, _, [], _, [], hW', trodAll_mk1 (shut_bool Try.underlying4 _), (trodAll_cons_mk (Below.trod laidOut (by kernel_rfl) (of_decide_eq_true (by kernel_rfl)) k0 bel lt0) trodAll_mk0), rfl, bel.frame _, fun h => by cases h⟩

theorem over : Rows.objectDoesRow.holds Try.pinned (OpenSpec.ofChange Rows.objectDoesSpec) :=
  OpenClaim.holds_of_wide 4 Try.f4 rfl rfl rfl rfl rfl rfl rfl ⟨rfl, rfl, rfl, rfl, rfl⟩ rfl rfl rfl rfl rfl (by kernel_rfl) Try.func4 (by kernel_rfl)
    (of_decide_eq_true (by kernel_rfl)) (by unfold Func.isWrapper; first | (rw [if_pos (by decide +kernel)]; kernel_rfl) | (rw [if_neg (by decide +kernel)]; exact ⟨rfl, rfl⟩))
    (fun os started H enc _ => lifted os started H enc)

theorem proved : Rows.ObjectDoesSaid := over
#print axioms proved
end Go.Proofs.Ythfbahpnjbngiaa.objectDoes
