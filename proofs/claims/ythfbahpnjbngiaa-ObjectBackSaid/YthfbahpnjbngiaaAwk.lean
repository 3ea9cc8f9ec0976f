/- The document's examples of layer 2: awake answers true. No conditions. -/
import Derived.Test.YthfbahpnjbngiaaByt
import Derived.Test.YthfbahpnjbngiaaLes
import Derived.Test.YthfbahpnjbngiaaPlain
namespace Go.Proofs.Ythfbahpnjbngiaa
open Go.RowKit Go.Sort

set_option maxHeartbeats 8000000 in
theorem awake_any (w : World) : Calls Try.prog 12 #[] w fun e w' => e = .returned (.bool true) ∧ Below w.heap.size w w' := by
  have cL1 : ∀ w, Calls Try.prog 30 #[.agg #[.bool false, .int .i64 0, .int .i64 0, .int .i64 0, .int .i64 0, .int .i64 3], .agg #[.bool false, .int .i64 0, .int .i64 0, .int .i64 0, .int .i64 1, .int .i64 2]] w fun e w' => e = .returned (.bool true) ∧ Below w.heap.size w w' := fun w => by
    have h := less_any false 0 0 0 0 3 false 0 0 0 1 2 w
    rwa [show lessB false 0 0 0 0 3 false 0 0 0 1 2 = true from by decide] at h
  have cL2 : ∀ w, Calls Try.prog 30 #[.agg #[.bool false, .int .i64 0, .int .i64 0, .int .i64 0, .int .i64 1, .int .i64 2], .agg #[.bool false, .int .i64 0, .int .i64 0, .int .i64 0, .int .i64 1, .int .i64 2]] w fun e w' => e = .returned (.bool false) ∧ Below w.heap.size w w' := fun w => by
    have h := less_any false 0 0 0 1 2 false 0 0 0 1 2 w
    rwa [show lessB false 0 0 0 1 2 false 0 0 0 1 2 = false from by decide] at h
  have cA : ∀ w, Calls Try.prog 29 #[.agg #[.int .i64 0, .int .i64 0, .int .i64 0], .int .i64 1, .int .i64 2] w fun e w' => e = .returned (.tuple #[.agg #[.bool false, .int .i64 0, .int .i64 0, .int .i64 0, .int .i64 1, .int .i64 2], .int .i64 0]) ∧ Below w.heap.size w w' := fun w => by
    have h := at_any 0 0 0 1 2 w
    rwa [atV, if_pos (by decide)] at h
  go_enter Try.func12, Try.ntmps12
  go_wp2_with (first
    | (go_at_call 29; refine (cA _).mono ?_; rintro e w1 ⟨rfl, hb1⟩)
    | (go_at_call 27; refine (null_any _ _).mono ?_; rintro e w2 ⟨rfl, hb2⟩)
    | (go_at_call 9; refine (bytes_null 0 0 0 0 5 _ (by decide)).mono ?_; rintro e W ⟨r, rfl, hr, hb3⟩; have K := Lib.hid (((own6_alloc w1 false 0 0 0 1 2 23 w1.heap.size rfl).below hb2).below hb3); have HB := Lib.hid (((hb1.alloc hb1.size _).trans (hb2.mono (Nat.le_trans hb1.size (by simp)))).trans (hb3.mono (Nat.le_trans hb1.size (Nat.le_trans (by simp) hb2.size)))); have R := Lib.hid hr; clear hr hb1 hb2 hb3))
  have kc : ∀ w', Below W.heap.size W w' → Cells6 w' w1.heap.size false 0 0 0 1 2 := fun w' h => (K.out.below h).1
  unfold Cells6 at kc
  have hcv : ∀ w', Below W.heap.size W w' → (convert 24 9 r).run Try.prog w' = .ok (.string { data := #[0, 5] }) w' := fun w' h => Bs_conv (Bs_below R.out h)
  refine wp_region_typed (C := fun w' => Below W.heap.size W w') (X := fun w w' => Below w.heap.size w w') (n := 38) (by kernel_rfl) (by kernel_rfl) rfl (fun w => Below.refl _ w) (Below.refl _ _).drew ?_
  refine w_call (Is _) (fun _ _ _ h _ => h) 31 (.inl rfl) (fun ρ w hC hc hfn hf => by exact ⟨_, by (conv => lhs; simp [execOp, resolve, invoke, go_sem, hc, hfn]), (tc_below hC (zero_any 3 w))⟩) ?_
  refine w_is (fun w => Below.refl _ w) _ (.inl rfl) (fun ρ w hC hc hfn hf => by have e1 : ρ (.tmp 1) = _ := hf 1 (by decide); (conv => lhs; simp [execOp, go_sem, hc, e1, kc w hC])) ?_
  refine w_call (Is _) (fun _ _ _ h _ => h) 30 (.inl rfl) (fun ρ w hC hc hfn hf => by have e15 : ρ (.tmp 15) = _ := hf 15 (by decide); have e16 : ρ (.tmp 16) = _ := hf 16 (by decide); exact ⟨_, by (conv => lhs; simp [execOp, resolve, invoke, go_sem, hc, hfn, e15, e16]), (tc_below hC (cL1 w))⟩) ?_
  refine w_is (fun w => Below.refl _ w) _ (.inl rfl) (fun ρ w hC hc hfn hf => by have e17 : ρ (.tmp 17) = _ := hf 17 (by decide); (conv => lhs; simp [execOp, go_sem, hc, e17])) ?_
  refine w_is (fun w => Below.refl _ w) _ (.inr ⟨3, 18, true, rfl, rfl, known_is rfl⟩) (fun ρ w hC hc hfn hf => by have e2 : ρ (.tmp 2) = _ := hf 2 (by decide); (conv => lhs; simp [execOp, go_sem, hc, e2])) ?_
  refine w_is (fun w => Below.refl _ w) _ (.inr ⟨3, 18, true, rfl, rfl, known_is rfl⟩) (fun ρ w hC hc hfn hf => by have e19 : ρ (.tmp 19) = _ := hf 19 (by decide); (conv => lhs; simp [execOp, go_sem, hc, e19])) ?_
  refine w_is (fun w => Below.refl _ w) _ (.inl rfl) (fun ρ w hC hc hfn hf => by have e18 : ρ (.tmp 18) = _ := hf 18 (by decide); have e20 : ρ (.tmp 20) = _ := hf 20 (by decide); (conv => lhs; simp [execOp, go_sem, hc, e18, e20])) ?_
  refine w_is (fun w => Below.refl _ w) _ (.inl rfl) (fun ρ w hC hc hfn hf => by have e21 : ρ (.tmp 21) = _ := hf 21 (by decide); (conv => lhs; simp [execOp, go_sem, hc, e21])) ?_
  refine w_is (fun w => Below.refl _ w) _ (.inr ⟨7, 22, true, rfl, rfl, known_is rfl⟩) (fun ρ w hC hc hfn hf => by have e3 : ρ (.tmp 3) = _ := hf 3 (by decide); (conv => lhs; simp [execOp, go_sem, hc, e3])) ?_
  refine w_is (fun w => Below.refl _ w) _ (.inr ⟨7, 22, true, rfl, rfl, known_is rfl⟩) (fun ρ w hC hc hfn hf => by have e23 : ρ (.tmp 23) = _ := hf 23 (by decide); (conv => lhs; simp [execOp, go_sem, hc, e23, hcv w hC])) ?_
  refine w_is (fun w => Below.refl _ w) _ (.inr ⟨7, 22, true, rfl, rfl, known_is rfl⟩) (fun ρ w hC hc hfn hf => by have e24 : ρ (.tmp 24) = _ := hf 24 (by decide); (conv => lhs; simp [execOp, go_sem, hc, e24])) ?_
  refine w_is (fun w => Below.refl _ w) _ (.inl rfl) (fun ρ w hC hc hfn hf => by have e22 : ρ (.tmp 22) = _ := hf 22 (by decide); have e25 : ρ (.tmp 25) = _ := hf 25 (by decide); (conv => lhs; simp [execOp, go_sem, hc, e22, e25])) ?_
  refine w_is (fun w => Below.refl _ w) _ (.inl rfl) (fun ρ w hC hc hfn hf => by have e26 : ρ (.tmp 26) = _ := hf 26 (by decide); (conv => lhs; simp [execOp, go_sem, hc, e26])) ?_
  refine w_is (fun w => Below.refl _ w) _ (.inr ⟨12, 27, true, rfl, rfl, known_is rfl⟩) (fun ρ w hC hc hfn hf => by have e4 : ρ (.tmp 4) = _ := hf 4 (by decide); (conv => lhs; simp [execOp, go_sem, hc, e4])) ?_
  refine w_is (fun w => Below.refl _ w) _ (.inr ⟨12, 27, true, rfl, rfl, known_is rfl⟩) (fun ρ w hC hc hfn hf => by have e2 : ρ (.tmp 2) = _ := hf 2 (by decide); (conv => lhs; simp [execOp, go_sem, hc, e2])) ?_
  refine w_is (fun w => Below.refl _ w) _ (.inr ⟨12, 27, true, rfl, rfl, known_is rfl⟩) (fun ρ w hC hc hfn hf => by have e28 : ρ (.tmp 28) = _ := hf 28 (by decide); have e29 : ρ (.tmp 29) = _ := hf 29 (by decide); (conv => lhs; simp [execOp, go_sem, hc, e28, e29])) ?_
  refine w_is (fun w => Below.refl _ w) _ (.inl rfl) (fun ρ w hC hc hfn hf => by have e27 : ρ (.tmp 27) = _ := hf 27 (by decide); have e30 : ρ (.tmp 30) = _ := hf 30 (by decide); (conv => lhs; simp [execOp, go_sem, hc, e27, e30])) ?_
  refine w_is (fun w => Below.refl _ w) _ (.inl rfl) (fun ρ w hC hc hfn hf => by have e31 : ρ (.tmp 31) = _ := hf 31 (by decide); (conv => lhs; simp [execOp, go_sem, hc, e31])) ?_
  refine w_is (fun w => Below.refl _ w) _ (.inr ⟨17, 32, true, rfl, rfl, known_is rfl⟩) (fun ρ w hC hc hfn hf => by have e1 : ρ (.tmp 1) = _ := hf 1 (by decide); (conv => lhs; simp [execOp, go_sem, hc, e1, kc w hC])) ?_
  refine w_is (fun w => Below.refl _ w) _ (.inr ⟨17, 32, true, rfl, rfl, known_is rfl⟩) (fun ρ w hC hc hfn hf => by have e1 : ρ (.tmp 1) = _ := hf 1 (by decide); (conv => lhs; simp [execOp, go_sem, hc, e1, kc w hC])) ?_
  refine w_call (Is _) (fun _ _ _ h _ => h) 30 (.inr ⟨17, 32, true, rfl, rfl, known_is rfl⟩) (fun ρ w hC hc hfn hf => by have e33 : ρ (.tmp 33) = _ := hf 33 (by decide); have e34 : ρ (.tmp 34) = _ := hf 34 (by decide); exact ⟨_, by (conv => lhs; simp [execOp, resolve, invoke, go_sem, hc, hfn, e33, e34]), (tc_below hC (cL2 w))⟩) ?_
  refine w_is (fun w => Below.refl _ w) _ (.inr ⟨17, 32, true, rfl, rfl, known_is rfl⟩) (fun ρ w hC hc hfn hf => by have e35 : ρ (.tmp 35) = _ := hf 35 (by decide); (conv => lhs; simp [execOp, go_sem, hc, e35])) ?_
  refine w_is (fun w => Below.refl _ w) _ (.inl rfl) (fun ρ w hC hc hfn hf => by have e32 : ρ (.tmp 32) = _ := hf 32 (by decide); have e36 : ρ (.tmp 36) = _ := hf 36 (by decide); (conv => lhs; simp [execOp, go_sem, hc, e32, e36])) ?_
  refine w_is (fun w => Below.refl _ w) _ (.inl rfl) (fun ρ w hC hc hfn hf => by have e37 : ρ (.tmp 37) = _ := hf 37 (by decide); (conv => lhs; simp [execOp, go_sem, hc, e37])) ?_
  intro A W4 hC hn hd hf
  have y0 : A.eval (.tmp 0) = _ := hf 0
  have y1 : A.eval (.tmp 1) = _ := Eq.trans (hf 1) (by conv => lhs; simp [go_sem])
  have y2 : A.eval (.tmp 2) = _ := Eq.trans (hf 2) (by conv => lhs; simp [go_sem])
  have y3 : A.eval (.tmp 3) = _ := Eq.trans (hf 3) (by conv => lhs; simp [go_sem])
  have y4 : A.eval (.tmp 4) = _ := Eq.trans (hf 4) (by conv => lhs; simp [go_sem])
  have y5 : A.eval (.tmp 5) = _ := Eq.trans (hf 5) (by conv => lhs; simp [go_sem])
  have y6 : A.eval (.tmp 6) = _ := Eq.trans (hf 6) (by conv => lhs; simp [go_sem])
  have y7 : A.eval (.tmp 7) = _ := Eq.trans (hf 7) (by conv => lhs; simp [go_sem])
  have y8 : A.eval (.tmp 8) = _ := Eq.trans (hf 8) (by conv => lhs; simp [go_sem])
  have y9 : A.eval (.tmp 9) = _ := Eq.trans (hf 9) (by conv => lhs; simp [go_sem])
  have y10 : A.eval (.tmp 10) = _ := Eq.trans (hf 10) (by conv => lhs; simp [go_sem])
  have y11 : A.eval (.tmp 11) = _ := Eq.trans (hf 11) (by conv => lhs; simp [go_sem])
  have y12 : A.eval (.tmp 12) = _ := Eq.trans (hf 12) (by conv => lhs; simp [go_sem])
  have y13 : A.eval (.tmp 13) = _ := Eq.trans (hf 13) (by conv => lhs; simp [go_sem])
  have y14 : A.eval (.tmp 14) = _ := Eq.trans (hf 14) (by conv => lhs; simp [go_sem])
  have y15 : A.eval (.tmp 15) = _ := hf 15
  have y16 : A.eval (.tmp 16) = _ := hf 16
  have y17 : A.eval (.tmp 17) = _ := hf 17
  have y18 : A.eval (.tmp 18) = _ := hf 18
  have y19 : A.eval (.tmp 19) = _ := hf 19
  have y20 : A.eval (.tmp 20) = _ := hf 20
  have y21 : A.eval (.tmp 21) = _ := hf 21
  have y22 : A.eval (.tmp 22) = _ := hf 22
  have y23 : A.eval (.tmp 23) = _ := hf 23
  have y24 : A.eval (.tmp 24) = _ := hf 24
  have y25 : A.eval (.tmp 25) = _ := hf 25
  have y26 : A.eval (.tmp 26) = _ := hf 26
  have y27 : A.eval (.tmp 27) = _ := hf 27
  have y28 : A.eval (.tmp 28) = _ := hf 28
  have y29 : A.eval (.tmp 29) = _ := hf 29
  have y30 : A.eval (.tmp 30) = _ := hf 30
  have y31 : A.eval (.tmp 31) = _ := hf 31
  have y32 : A.eval (.tmp 32) = _ := hf 32
  have y33 : A.eval (.tmp 33) = _ := hf 33
  have y34 : A.eval (.tmp 34) = _ := hf 34
  have y35 : A.eval (.tmp 35) = _ := hf 35
  have y36 : A.eval (.tmp 36) = _ := hf 36
  have y37 : A.eval (.tmp 37) = _ := hf 37
  clear hf
  have hA := frame_eq hn
  rw [show List.range 38 = [0, 1, 2, 3, 4, 5, 6, 7, 8, 9, 10, 11, 12, 13, 14, 15, 16, 17, 18, 19, 20, 21, 22, 23, 24, 25, 26, 27, 28, 29, 30, 31, 32, 33, 34, 35, 36, 37] from rfl, hd] at hA
  simp only [List.map_cons, List.map_nil, y0, y1, y2, y3, y4, y5, y6, y7, y8, y9, y10, y11, y12, y13, y14, y15, y16, y17, y18, y19, y20, y21, y22, y23, y24, y25, y26, y27, y28, y29, y30, y31, y32, y33, y34, y35, y36, y37] at hA
  clear y0 y1 y2 y3 y4 y5 y6 y7 y8 y9 y10 y11 y12 y13 y14 y15 y16 y17 y18 y19 y20 y21 y22 y23 y24 y25 y26 y27 y28 y29 y30 y31 y32 y33 y34 y35 y36 y37
  clear hn hd
  subst hA
  go_wp2_with fail
  go_ret
  exact ⟨rfl, HB.out.trans (hC.mono HB.out.size)⟩
#print axioms awake_any
end Go.Proofs.Ythfbahpnjbngiaa
