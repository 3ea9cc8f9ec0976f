/- Which height is less. No conditions. -/
import Derived.Test.YtmimgpnogjgliaaRht
namespace Go.Proofs.Ytmimgpnogjgliaa
set_option maxRecDepth 100000
open Go.RowKit Go.Sort

/-- The order of two rows of five. -/
def cmp5 (t o r d i t' o' r' d' i' : Int) : Int := cmpL [t, o, r, d, i] [t', o', r', d', i']
theorem cmpL_app : ∀ (xs ys us vs : List Int), xs.length = ys.length → cmpL (xs ++ us) (ys ++ vs) = if cmpL xs ys = 0 then cmpL us vs else cmpL xs ys
  | [], [], us, vs, _ => by simp [cmpL]
  | x :: xs, y :: ys, us, vs, h => by
    have ih := cmpL_app xs ys us vs (by simpa using h)
    simp only [List.cons_append, cmpL]
    by_cases h1 : x < y
    · simp [h1]
    · by_cases h2 : y < x
      · simp [h1, h2]
      · simp only [h1, h2, if_false]; exact ih
  | [], _ :: _, _, _, h => by cases h
  | _ :: _, [], _, _, h => by cases h
theorem cmpL_one (x y : Int) : cmpL [x] [y] = cmpI x y := rfl
theorem or_cmp5 (t o r d i t' o' r' d' i' : Int) : orL [ordL t o r t' o' r', cmpI d d', cmpI i i'] = cmp5 t o r d i t' o' r' d' i' := by
  have e1 : cmp5 t o r d i t' o' r' d' i' = cmpL ([t, o, r] ++ ([d] ++ [i])) ([t', o', r'] ++ ([d'] ++ [i'])) := rfl
  rw [e1, cmpL_app [t, o, r] [t', o', r'] _ _ rfl, cmpL_app [d] [d'] _ _ rfl, cmpL_one, cmpL_one]
  simp only [orL, ordL]
  by_cases h : cmpI i i' = 0
  · rw [if_pos h, h]
    rfl
  · rw [if_neg h]
    rfl
def lessB (n : Bool) (t o r d i : Int) (n' : Bool) (t' o' r' d' i' : Int) : Bool := told n t o r d i && (told n' t' o' r' d' i' && decide (cmp5 t o r d i t' o' r' d' i' < 0))
set_option maxHeartbeats 8000000 in
theorem less_tt (n : Bool) (t o r d i : Int) (n' : Bool) (t' o' r' d' i' : Int) (w : World) (hd1 : told n t o r d i = true) (hd2 : told n' t' o' r' d' i' = true) :
    Calls Try.prog 24 #[.agg #[.bool n, .int .i64 t, .int .i64 o, .int .i64 r, .int .i64 d, .int .i64 i], .agg #[.bool n', .int .i64 t', .int .i64 o', .int .i64 r', .int .i64 d', .int .i64 i']] w fun e w' => e = .returned (.bool (decide (cmp5 t o r d i t' o' r' d' i' < 0))) ∧ Below w.heap.size w w' := by
  have H1 := Lib.hid hd1
  have H2 := Lib.hid hd2
  have cl1 : ∀ w, Calls Try.prog 30 #[.agg #[.bool n, .int .i64 t, .int .i64 o, .int .i64 r, .int .i64 d, .int .i64 i]] w fun e w' => e = .returned (.agg #[.int .i64 t, .int .i64 o, .int .i64 r]) ∧ Below w.heap.size w w' := fun w => by have h := level_any n t o r d i w; rwa [levV, if_pos H1.out] at h
  have cl2 : ∀ w, Calls Try.prog 30 #[.agg #[.bool n', .int .i64 t', .int .i64 o', .int .i64 r', .int .i64 d', .int .i64 i']] w fun e w' => e = .returned (.agg #[.int .i64 t', .int .i64 o', .int .i64 r']) ∧ Below w.heap.size w w' := fun w => by have h := level_any n' t' o' r' d' i' w; rwa [levV, if_pos H2.out] at h
  go_enter Try.func24, Try.ntmps24
  go_wp2_with (first
    | (go_at_call 45; refine (isTold_any _ _ _ _ _ _ _).mono ?_; rintro e W1 ⟨rfl, hb⟩; rw [hd1]; have c1 := ((cells6_alloc w n t o r d i 24).below ((Below.refl _ _).alloc (Nat.le_refl _) (.cells #[.bool n', .int .i64 t', .int .i64 o', .int .i64 r', .int .i64 d', .int .i64 i'] 24))).below hb; have c2 := ((own6_alloc (w.alloc (.cells #[.bool n, .int .i64 t, .int .i64 o, .int .i64 r, .int .i64 d, .int .i64 i] 24)) n' t' o' r' d' i' 24 (w.heap.size + 1) (by simp)).below hb).1; have HB : Hid (Below w.heap.size w W1) := (((Below.refl _ w).alloc (Nat.le_refl _) _).alloc (by simp) _).trans (hb.mono (by simp; omega)); clear hb; have ⟨a0, a1, a2, a3, a4, a5⟩ := c1; have ⟨b0, b1, b2, b3, b4, b5⟩ := c2)
    | (go_at_call 45; refine (isTold_any _ _ _ _ _ _ _).mono ?_; rintro e W2 ⟨rfl, hb⟩; rw [hd2]; have k1 := c1.below hb; have k2 := c2.below hb; have HB2 := Lib.hid (HB.out.trans (hb.mono HB.out.size)); clear hb a0 a1 a2 a3 a4 a5 b0 b1 b2 b3 b4 b5 c1 c2 HB))
  have kc : ∀ w', Below W2.heap.size W2 w' → Cells6 w' w.heap.size n t o r d i ∧ Cells6 w' (w.heap.size + 1) n' t' o' r' d' i' := fun w' h => ⟨k1.below h, k2.below h⟩
  unfold Cells6 at kc
  refine wp_region_typed (C := fun w' => Below W2.heap.size W2 w') (X := fun w w' => Below w.heap.size w w') (n := 31) (by kernel_rfl) (by kernel_rfl) rfl (fun w => Below.refl _ w) (Below.refl _ _).drew ?_
  refine w_is (fun w => Below.refl _ w) _ (.inl rfl) (fun ρ w hC hc hfn hf => by have e2 : ρ (.tmp 2) = _ := hf 2 (by decide); (conv => lhs; simp [execOp, go_sem, hc, e2, kc w hC])) ?_
  refine w_call (Is _) (fun _ _ _ h _ => h) 30 (.inl rfl) (fun ρ w hC hc hfn hf => by have e13 : ρ (.tmp 13) = _ := hf 13 (by decide); exact ⟨_, by (conv => lhs; simp [execOp, resolve, invoke, go_sem, hc, hfn, e13]), (tc_below hC (cl1 w))⟩) ?_
  refine w_is (fun w => Below.refl _ w) _ (.inl rfl) (fun ρ w hC hc hfn hf => by have e3 : ρ (.tmp 3) = _ := hf 3 (by decide); (conv => lhs; simp [execOp, go_sem, hc, e3, kc w hC])) ?_
  refine w_call (Is _) (fun _ _ _ h _ => h) 30 (.inl rfl) (fun ρ w hC hc hfn hf => by have e15 : ρ (.tmp 15) = _ := hf 15 (by decide); exact ⟨_, by (conv => lhs; simp [execOp, resolve, invoke, go_sem, hc, hfn, e15]), (tc_below hC (cl2 w))⟩) ?_
  refine w_call (Is _) (fun _ _ _ h _ => h) 29 (.inl rfl) (fun ρ w hC hc hfn hf => by have e14 : ρ (.tmp 14) = _ := hf 14 (by decide); have e16 : ρ (.tmp 16) = _ := hf 16 (by decide); exact ⟨_, by (conv => lhs; simp [execOp, resolve, invoke, go_sem, hc, hfn, e14, e16]), (tc_below hC (order_any _ _ _ _ _ _ w))⟩) ?_
  refine w_is (fun w => Below.refl _ w) _ (.inl rfl) (fun ρ w hC hc hfn hf => by have e2 : ρ (.tmp 2) = _ := hf 2 (by decide); (conv => lhs; simp [execOp, go_sem, hc, e2])) ?_
  refine w_is (fun w => Below.refl _ w) _ (.inl rfl) (fun ρ w hC hc hfn hf => by have e18 : ρ (.tmp 18) = _ := hf 18 (by decide); (conv => lhs; simp [execOp, go_sem, hc, e18, kc w hC])) ?_
  refine w_is (fun w => Below.refl _ w) _ (.inl rfl) (fun ρ w hC hc hfn hf => by have e3 : ρ (.tmp 3) = _ := hf 3 (by decide); (conv => lhs; simp [execOp, go_sem, hc, e3])) ?_
  refine w_is (fun w => Below.refl _ w) _ (.inl rfl) (fun ρ w hC hc hfn hf => by have e20 : ρ (.tmp 20) = _ := hf 20 (by decide); (conv => lhs; simp [execOp, go_sem, hc, e20, kc w hC])) ?_
  refine w_call (Is _) (fun _ _ _ h _ => h) 47 (.inl rfl) (fun ρ w hC hc hfn hf => by have e19 : ρ (.tmp 19) = _ := hf 19 (by decide); have e21 : ρ (.tmp 21) = _ := hf 21 (by decide); exact ⟨_, by (conv => lhs; simp [execOp, resolve, invoke, go_sem, hc, hfn, e19, e21]), (tc_same hC (compare_any _ _ w))⟩) ?_
  refine w_is (fun w => Below.refl _ w) _ (.inl rfl) (fun ρ w hC hc hfn hf => by have e2 : ρ (.tmp 2) = _ := hf 2 (by decide); (conv => lhs; simp [execOp, go_sem, hc, e2])) ?_
  refine w_is (fun w => Below.refl _ w) _ (.inl rfl) (fun ρ w hC hc hfn hf => by have e23 : ρ (.tmp 23) = _ := hf 23 (by decide); (conv => lhs; simp [execOp, go_sem, hc, e23, kc w hC])) ?_
  refine w_is (fun w => Below.refl _ w) _ (.inl rfl) (fun ρ w hC hc hfn hf => by have e3 : ρ (.tmp 3) = _ := hf 3 (by decide); (conv => lhs; simp [execOp, go_sem, hc, e3])) ?_
  refine w_is (fun w => Below.refl _ w) _ (.inl rfl) (fun ρ w hC hc hfn hf => by have e25 : ρ (.tmp 25) = _ := hf 25 (by decide); (conv => lhs; simp [execOp, go_sem, hc, e25, kc w hC])) ?_
  refine w_call (Is _) (fun _ _ _ h _ => h) 47 (.inl rfl) (fun ρ w hC hc hfn hf => by have e24 : ρ (.tmp 24) = _ := hf 24 (by decide); have e26 : ρ (.tmp 26) = _ := hf 26 (by decide); exact ⟨_, by (conv => lhs; simp [execOp, resolve, invoke, go_sem, hc, hfn, e24, e26]), (tc_same hC (compare_any _ _ w))⟩) ?_
  refine w_make (fun v w => Ints w v [_, _, _]) (fun _ _ _ h hb => h.below hb) (.inl rfl) (fun ρ w hC hc hfn hf => by have e17 : ρ (.tmp 17) = _ := hf 17 (by decide); have e22 : ρ (.tmp 22) = _ := hf 22 (by decide); have e27 : ρ (.tmp 27) = _ := hf 27 (by decide); exact ⟨_, _, by (conv => lhs; simp [execOp, go_sem, hc, e17, e22, e27]), hC.alloc hC.size _, (Below.refl _ w).alloc (Nat.le_refl _) _, ints3 _ _ _ _ _ _ rfl⟩) ?_
  refine w_call (Is _) (fun _ _ _ h _ => h) 46 (.inl rfl) (fun ρ w hC hc hfn hf => by have e28 := hf 28 (by decide); exact ⟨_, by (conv => lhs; simp [execOp, resolve, invoke, go_sem, hc, hfn]), (tc_same hC (or_any _ _ w e28))⟩) ?_
  refine w_is (fun w => Below.refl _ w) _ (.inl rfl) (fun ρ w hC hc hfn hf => by have e29 : ρ (.tmp 29) = _ := hf 29 (by decide); (conv => lhs; simp [execOp, go_sem, hc, e29])) ?_
  refine w_is (fun w => Below.refl _ w) _ (.inl rfl) (fun ρ w hC hc hfn hf => by have e30 : ρ (.tmp 30) = _ := hf 30 (by decide); (conv => lhs; simp [execOp, go_sem, hc, e30])) ?_
  intro A W4 hC hn hd hf
  have y0 : A.eval (.tmp 0) = _ := Eq.trans (hf 0) (by conv => lhs; simp [go_sem])
  have y1 : A.eval (.tmp 1) = _ := Eq.trans (hf 1) (by conv => lhs; simp [go_sem])
  have y2 : A.eval (.tmp 2) = _ := Eq.trans (hf 2) (by conv => lhs; simp [go_sem])
  have y3 : A.eval (.tmp 3) = _ := Eq.trans (hf 3) (by conv => lhs; simp [go_sem])
  have y4 : A.eval (.tmp 4) = _ := hf 4
  have y5 : A.eval (.tmp 5) = _ := Eq.trans (hf 5) (by conv => lhs; simp [go_sem])
  have y6 : A.eval (.tmp 6) = _ := Eq.trans (hf 6) (by conv => lhs; simp [go_sem])
  have y7 : A.eval (.tmp 7) = _ := Eq.trans (hf 7) (by conv => lhs; simp [go_sem])
  have y8 : A.eval (.tmp 8) = _ := Eq.trans (hf 8) (by conv => lhs; simp [go_sem])
  have y9 : A.eval (.tmp 9) = _ := Eq.trans (hf 9) (by conv => lhs; simp [go_sem])
  have y10 : A.eval (.tmp 10) = _ := Eq.trans (hf 10) (by conv => lhs; simp [go_sem])
  have y11 : A.eval (.tmp 11) = _ := Eq.trans (hf 11) (by conv => lhs; simp [go_sem])
  have y12 : A.eval (.tmp 12) = _ := Eq.trans (hf 12) (by conv => lhs; simp [go_sem])
  have y13 : A.eval (.tmp 13) = _ := hf 13
  have y14 : A.eval (.tmp 14) = _ := hf 14
  have y15 : A.eval (.tmp 15) = _ := hf 15
  have y16 : A.eval (.tmp 16) = _ := hf 16
  have y17 : A.eval (.tmp 17) = _ := hf 17
  have y18 : A.eval (.tmp 18) = _ := hf 18
  have y19 : A.eval (.tmp 19) = _ := hf 19
  have y20 : A.eval (.tmp 20) = _ := hf 20
  have y21 : A.eval (.tmp 21) = _ := hf 21
  have y22 : A.eval (.tmp 22) = _ := hf 22
  have y23 : A.eval (.tmp 23) = _ := hf 23
  have y24 : A.eval (.tmp 24) = _ := hf 24
  have y25 : A.eval (.tmp 25) = _ := hf 25
  have y26 : A.eval (.tmp 26) = _ := hf 26
  have y27 : A.eval (.tmp 27) = _ := hf 27
  have y28 := hf 28
  have y29 : A.eval (.tmp 29) = _ := hf 29
  have y30 : A.eval (.tmp 30) = _ := hf 30
  clear hf
  have hA := frame_eq hn
  rw [show List.range 31 = [0, 1, 2, 3, 4, 5, 6, 7, 8, 9, 10, 11, 12, 13, 14, 15, 16, 17, 18, 19, 20, 21, 22, 23, 24, 25, 26, 27, 28, 29, 30] from rfl, hd] at hA
  simp only [List.map_cons, List.map_nil, y0, y1, y2, y3, y4, y5, y6, y7, y8, y9, y10, y11, y12, y13, y14, y15, y16, y17, y18, y19, y20, y21, y22, y23, y24, y25, y26, y27, y29, y30] at hA
  change (fun v w => Ints w v [_, _, _]) (A.eval (.tmp 28)) W4 at y28
  clear y0 y1 y2 y3 y4 y5 y6 y7 y8 y9 y10 y11 y12 y13 y14 y15 y16 y17 y18 y19 y20 y21 y22 y23 y24 y25 y26 y27 y29 y30
  generalize A.eval (.tmp 28) = v28 at *
  clear hn hd
  subst hA
  go_wp2_with fail
  go_ret
  exact ⟨by rw [← or_cmp5]; rfl, HB2.out.trans (hC.mono HB2.out.size)⟩
set_option maxHeartbeats 4000000 in
theorem less_f (n : Bool) (t o r d i : Int) (n' : Bool) (t' o' r' d' i' : Int) (w : World) (hd1 : told n t o r d i = false) :
    Calls Try.prog 24 #[.agg #[.bool n, .int .i64 t, .int .i64 o, .int .i64 r, .int .i64 d, .int .i64 i], .agg #[.bool n', .int .i64 t', .int .i64 o', .int .i64 r', .int .i64 d', .int .i64 i']] w fun e w' => e = .returned (.bool false) ∧ Below w.heap.size w w' := by
  go_enter Try.func24, Try.ntmps24
  go_wp2_with (go_at_call 45; refine (isTold_any _ _ _ _ _ _ _).mono ?_; rintro e W1 ⟨rfl, hb⟩; rw [hd1]; have HB : Hid (Below w.heap.size w W1) := (((Below.refl _ w).alloc (Nat.le_refl _) _).alloc (by simp) _).trans (hb.mono (by simp; omega)); clear hb)
  go_ret
  exact ⟨rfl, HB.out⟩
set_option maxHeartbeats 4000000 in
theorem less_tf (n : Bool) (t o r d i : Int) (n' : Bool) (t' o' r' d' i' : Int) (w : World) (hd1 : told n t o r d i = true) (hd2 : told n' t' o' r' d' i' = false) :
    Calls Try.prog 24 #[.agg #[.bool n, .int .i64 t, .int .i64 o, .int .i64 r, .int .i64 d, .int .i64 i], .agg #[.bool n', .int .i64 t', .int .i64 o', .int .i64 r', .int .i64 d', .int .i64 i']] w fun e w' => e = .returned (.bool false) ∧ Below w.heap.size w w' := by
  go_enter Try.func24, Try.ntmps24
  go_wp2_with (first
    | (go_at_call 45; refine (isTold_any _ _ _ _ _ _ _).mono ?_; rintro e W1 ⟨rfl, hb⟩; rw [hd1]; have c2 := ((own6_alloc (w.alloc (.cells #[.bool n, .int .i64 t, .int .i64 o, .int .i64 r, .int .i64 d, .int .i64 i] 24)) n' t' o' r' d' i' 24 (w.heap.size + 1) (by simp)).below hb).1; have HB : Hid (Below w.heap.size w W1) := (((Below.refl _ w).alloc (Nat.le_refl _) _).alloc (by simp) _).trans (hb.mono (by simp; omega)); clear hb; have ⟨b0, b1, b2, b3, b4, b5⟩ := c2; clear c2)
    | (go_at_call 45; refine (isTold_any _ _ _ _ _ _ _).mono ?_; rintro e W2 ⟨rfl, hb⟩; rw [hd2]; have HB2 := Lib.hid (HB.out.trans (hb.mono HB.out.size)); clear hb b0 b1 b2 b3 b4 b5 HB))
  go_ret
  exact ⟨rfl, HB2.out⟩
theorem less_any (n : Bool) (t o r d i : Int) (n' : Bool) (t' o' r' d' i' : Int) (w : World) :
    Calls Try.prog 24 #[.agg #[.bool n, .int .i64 t, .int .i64 o, .int .i64 r, .int .i64 d, .int .i64 i], .agg #[.bool n', .int .i64 t', .int .i64 o', .int .i64 r', .int .i64 d', .int .i64 i']] w fun e w' => e = .returned (.bool (lessB n t o r d i n' t' o' r' d' i')) ∧ Below w.heap.size w w' := by
  unfold lessB
  cases hd1 : told n t o r d i with
  | false => exact less_f _ _ _ _ _ _ _ _ _ _ _ _ w hd1
  | true =>
    cases hd2 : told n' t' o' r' d' i' with
    | false => exact less_tf _ _ _ _ _ _ _ _ _ _ _ _ w hd1 hd2
    | true => exact less_tt _ _ _ _ _ _ _ _ _ _ _ _ w hd1 hd2
set_option maxHeartbeats 8000000 in
theorem rless_f (n : Bool) (t o r d i : Int) (n' : Bool) (t' o' r' d' i' : Int) (w : World) (hd1 : told n t o r d i = false) :
    Calls Try.prog 35 #[.agg #[.bool n, .int .i64 t, .int .i64 o, .int .i64 r, .int .i64 d, .int .i64 i], .agg #[.bool n', .int .i64 t', .int .i64 o', .int .i64 r', .int .i64 d', .int .i64 i']] w fun e w' => e = .returned (.bool false) ∧ Below w.heap.size w w' := by
  have ct1 : ∀ w, Calls Try.prog 34 #[.agg #[.bool n, .int .i64 t, .int .i64 o, .int .i64 r, .int .i64 d, .int .i64 i]] w fun e w' => e = .returned (.bool false) ∧ Below w.heap.size w w' := fun w => by rw [← hd1]; exact rtold_any n t o r d i w
  go_enter Try.func35, Try.ntmps35
  go_wp2
  have c1 := (cells6_alloc w n t o r d i 24).below ((Below.refl _ _).alloc (Nat.le_refl _) (.cells #[.bool n', .int .i64 t', .int .i64 o', .int .i64 r', .int .i64 d', .int .i64 i'] 24))
  have c2 := cells6_alloc (w.alloc (.cells #[.bool n, .int .i64 t, .int .i64 o, .int .i64 r, .int .i64 d, .int .i64 i] 24)) n' t' o' r' d' i' 24
  have hbel : Below w.heap.size w ((w.alloc (.cells #[.bool n, .int .i64 t, .int .i64 o, .int .i64 r, .int .i64 d, .int .i64 i] 24)).alloc (.cells #[.bool n', .int .i64 t', .int .i64 o', .int .i64 r', .int .i64 d', .int .i64 i'] 24)) := ((Below.refl _ w).alloc (Nat.le_refl _) _).alloc (by simp) _
  generalize (w.alloc (.cells #[.bool n, .int .i64 t, .int .i64 o, .int .i64 r, .int .i64 d, .int .i64 i] 24)).alloc (.cells #[.bool n', .int .i64 t', .int .i64 o', .int .i64 r', .int .i64 d', .int .i64 i'] 24) = W at *
  have kc : ∀ w', Below W.heap.size W w' → Cells6 w' w.heap.size n t o r d i ∧ Cells6 w' (w.heap.size + 1) n' t' o' r' d' i' := fun w' h => ⟨c1.below h, by simpa using c2.below h⟩
  unfold Cells6 at kc
  refine wp_region_typed (C := fun w' => Below W.heap.size W w') (X := fun w w' => Below w.heap.size w w') (n := 19) (by kernel_rfl) (by kernel_rfl) rfl (fun w => Below.refl _ w) (Below.refl _ _).drew ?_
  refine w_is (fun w => Below.refl _ w) _ (.inl rfl) (fun ρ w hC hc hfn hf => by have e2 : ρ (.tmp 2) = _ := hf 2 (by decide); (conv => lhs; simp [execOp, go_sem, hc, e2, kc w hC])) ?_
  refine w_call (Is _) (fun _ _ _ h _ => h) 34 (.inl rfl) (fun ρ w hC hc hfn hf => by have e5 : ρ (.tmp 5) = _ := hf 5 (by decide); exact ⟨_, by (conv => lhs; simp [execOp, resolve, invoke, go_sem, hc, hfn, e5]), (tc_below hC (ct1 w))⟩) ?_
  refine w_is (fun w => Below.refl _ w) _ (.inl rfl) (fun ρ w hC hc hfn hf => by have e6 : ρ (.tmp 6) = _ := hf 6 (by decide); (conv => lhs; simp [execOp, go_sem, hc, e6])) ?_
  refine w_skip rfl rfl (known_is rfl) ?_
  refine w_skip rfl rfl (known_is rfl) ?_
  refine w_is (fun w => Below.refl _ w) _ (.inl rfl) (fun ρ w hC hc hfn hf => by have e7 : ρ (.tmp 7) = _ := hf 7 (by decide); have e9 : ρ (.tmp 9) = _ := hf 9 (by decide); (conv => lhs; simp [execOp, go_sem, hc, e7, e9])) ?_
  refine w_is (fun w => Below.refl _ w) _ (.inl rfl) (fun ρ w hC hc hfn hf => by have e10 : ρ (.tmp 10) = _ := hf 10 (by decide); (conv => lhs; simp [execOp, go_sem, hc, e10])) ?_
  refine w_skip rfl rfl (known_is rfl) ?_
  refine w_skip rfl rfl (known_is rfl) ?_
  refine w_skip rfl rfl (known_is rfl) ?_
  refine w_skip rfl rfl (known_is rfl) ?_
  refine w_skip rfl rfl (known_is rfl) ?_
  refine w_skip rfl rfl (known_is rfl) ?_
  refine w_is (fun w => Below.refl _ w) _ (.inl rfl) (fun ρ w hC hc hfn hf => by have e11 : ρ (.tmp 11) = _ := hf 11 (by decide); have e17 : ρ (.tmp 17) = _ := hf 17 (by decide); (conv => lhs; simp [execOp, go_sem, hc, e11, e17])) ?_
  refine w_is (fun w => Below.refl _ w) _ (.inl rfl) (fun ρ w hC hc hfn hf => by have e18 : ρ (.tmp 18) = _ := hf 18 (by decide); (conv => lhs; simp [execOp, go_sem, hc, e18])) ?_
  intro A W4 hC hn hd hf
  have y0 : A.eval (.tmp 0) = _ := Eq.trans (hf 0) (by conv => lhs; simp [go_sem])
  have y1 : A.eval (.tmp 1) = _ := Eq.trans (hf 1) (by conv => lhs; simp [go_sem])
  have y2 : A.eval (.tmp 2) = _ := Eq.trans (hf 2) (by conv => lhs; simp [go_sem])
  have y3 : A.eval (.tmp 3) = _ := Eq.trans (hf 3) (by conv => lhs; simp [go_sem])
  have y4 : A.eval (.tmp 4) = _ := hf 4
  have y5 : A.eval (.tmp 5) = _ := hf 5
  have y6 : A.eval (.tmp 6) = _ := hf 6
  have y7 : A.eval (.tmp 7) = _ := hf 7
  have y8 : A.eval (.tmp 8) = _ := hf 8
  have y9 : A.eval (.tmp 9) = _ := hf 9
  have y10 : A.eval (.tmp 10) = _ := hf 10
  have y11 : A.eval (.tmp 11) = _ := hf 11
  have y12 : A.eval (.tmp 12) = _ := hf 12
  have y13 : A.eval (.tmp 13) = _ := hf 13
  have y14 : A.eval (.tmp 14) = _ := hf 14
  have y15 : A.eval (.tmp 15) = _ := hf 15
  have y16 : A.eval (.tmp 16) = _ := hf 16
  have y17 : A.eval (.tmp 17) = _ := hf 17
  have y18 : A.eval (.tmp 18) = _ := hf 18
  clear hf
  have hA := frame_eq hn
  rw [show List.range 19 = [0, 1, 2, 3, 4, 5, 6, 7, 8, 9, 10, 11, 12, 13, 14, 15, 16, 17, 18] from rfl, hd] at hA
  simp only [List.map_cons, List.map_nil, y0, y1, y2, y3, y4, y5, y6, y7, y8, y9, y10, y11, y12, y13, y14, y15, y16, y17, y18] at hA
  clear y0 y1 y2 y3 y4 y5 y6 y7 y8 y9 y10 y11 y12 y13 y14 y15 y16 y17 y18
  clear hn hd
  subst hA
  go_wp2_with fail
  go_ret
  exact ⟨rfl, hbel.trans (hC.mono hbel.size)⟩
set_option maxHeartbeats 8000000 in
theorem rless_tf (n : Bool) (t o r d i : Int) (n' : Bool) (t' o' r' d' i' : Int) (w : World) (hd1 : told n t o r d i = true) (hd2 : told n' t' o' r' d' i' = false) :
    Calls Try.prog 35 #[.agg #[.bool n, .int .i64 t, .int .i64 o, .int .i64 r, .int .i64 d, .int .i64 i], .agg #[.bool n', .int .i64 t', .int .i64 o', .int .i64 r', .int .i64 d', .int .i64 i']] w fun e w' => e = .returned (.bool false) ∧ Below w.heap.size w w' := by
  have ct1 : ∀ w, Calls Try.prog 34 #[.agg #[.bool n, .int .i64 t, .int .i64 o, .int .i64 r, .int .i64 d, .int .i64 i]] w fun e w' => e = .returned (.bool true) ∧ Below w.heap.size w w' := fun w => by rw [← hd1]; exact rtold_any n t o r d i w
  have ct2 : ∀ w, Calls Try.prog 34 #[.agg #[.bool n', .int .i64 t', .int .i64 o', .int .i64 r', .int .i64 d', .int .i64 i']] w fun e w' => e = .returned (.bool false) ∧ Below w.heap.size w w' := fun w => by rw [← hd2]; exact rtold_any n' t' o' r' d' i' w
  go_enter Try.func35, Try.ntmps35
  go_wp2
  have c1 := (cells6_alloc w n t o r d i 24).below ((Below.refl _ _).alloc (Nat.le_refl _) (.cells #[.bool n', .int .i64 t', .int .i64 o', .int .i64 r', .int .i64 d', .int .i64 i'] 24))
  have c2 := cells6_alloc (w.alloc (.cells #[.bool n, .int .i64 t, .int .i64 o, .int .i64 r, .int .i64 d, .int .i64 i] 24)) n' t' o' r' d' i' 24
  have hbel : Below w.heap.size w ((w.alloc (.cells #[.bool n, .int .i64 t, .int .i64 o, .int .i64 r, .int .i64 d, .int .i64 i] 24)).alloc (.cells #[.bool n', .int .i64 t', .int .i64 o', .int .i64 r', .int .i64 d', .int .i64 i'] 24)) := ((Below.refl _ w).alloc (Nat.le_refl _) _).alloc (by simp) _
  generalize (w.alloc (.cells #[.bool n, .int .i64 t, .int .i64 o, .int .i64 r, .int .i64 d, .int .i64 i] 24)).alloc (.cells #[.bool n', .int .i64 t', .int .i64 o', .int .i64 r', .int .i64 d', .int .i64 i'] 24) = W at *
  have kc : ∀ w', Below W.heap.size W w' → Cells6 w' w.heap.size n t o r d i ∧ Cells6 w' (w.heap.size + 1) n' t' o' r' d' i' := fun w' h => ⟨c1.below h, by simpa using c2.below h⟩
  unfold Cells6 at kc
  refine wp_region_typed (C := fun w' => Below W.heap.size W w') (X := fun w w' => Below w.heap.size w w') (n := 19) (by kernel_rfl) (by kernel_rfl) rfl (fun w => Below.refl _ w) (Below.refl _ _).drew ?_
  refine w_is (fun w => Below.refl _ w) _ (.inl rfl) (fun ρ w hC hc hfn hf => by have e2 : ρ (.tmp 2) = _ := hf 2 (by decide); (conv => lhs; simp [execOp, go_sem, hc, e2, kc w hC])) ?_
  refine w_call (Is _) (fun _ _ _ h _ => h) 34 (.inl rfl) (fun ρ w hC hc hfn hf => by have e5 : ρ (.tmp 5) = _ := hf 5 (by decide); exact ⟨_, by (conv => lhs; simp [execOp, resolve, invoke, go_sem, hc, hfn, e5]), (tc_below hC (ct1 w))⟩) ?_
  refine w_is (fun w => Below.refl _ w) _ (.inl rfl) (fun ρ w hC hc hfn hf => by have e6 : ρ (.tmp 6) = _ := hf 6 (by decide); (conv => lhs; simp [execOp, go_sem, hc, e6])) ?_
  refine w_is (fun w => Below.refl _ w) _ (.inr ⟨2, 7, true, rfl, rfl, known_is rfl⟩) (fun ρ w hC hc hfn hf => by have e3 : ρ (.tmp 3) = _ := hf 3 (by decide); (conv => lhs; simp [execOp, go_sem, hc, e3, kc w hC])) ?_
  refine w_call (Is _) (fun _ _ _ h _ => h) 34 (.inr ⟨2, 7, true, rfl, rfl, known_is rfl⟩) (fun ρ w hC hc hfn hf => by have e8 : ρ (.tmp 8) = _ := hf 8 (by decide); exact ⟨_, by (conv => lhs; simp [execOp, resolve, invoke, go_sem, hc, hfn, e8]), (tc_below hC (ct2 w))⟩) ?_
  refine w_is (fun w => Below.refl _ w) _ (.inl rfl) (fun ρ w hC hc hfn hf => by have e7 : ρ (.tmp 7) = _ := hf 7 (by decide); have e9 : ρ (.tmp 9) = _ := hf 9 (by decide); (conv => lhs; simp [execOp, go_sem, hc, e7, e9])) ?_
  refine w_is (fun w => Below.refl _ w) _ (.inl rfl) (fun ρ w hC hc hfn hf => by have e10 : ρ (.tmp 10) = _ := hf 10 (by decide); (conv => lhs; simp [execOp, go_sem, hc, e10])) ?_
  refine w_skip rfl rfl (known_is rfl) ?_
  refine w_skip rfl rfl (known_is rfl) ?_
  refine w_skip rfl rfl (known_is rfl) ?_
  refine w_skip rfl rfl (known_is rfl) ?_
  refine w_skip rfl rfl (known_is rfl) ?_
  refine w_skip rfl rfl (known_is rfl) ?_
  refine w_is (fun w => Below.refl _ w) _ (.inl rfl) (fun ρ w hC hc hfn hf => by have e11 : ρ (.tmp 11) = _ := hf 11 (by decide); have e17 : ρ (.tmp 17) = _ := hf 17 (by decide); (conv => lhs; simp [execOp, go_sem, hc, e11, e17])) ?_
  refine w_is (fun w => Below.refl _ w) _ (.inl rfl) (fun ρ w hC hc hfn hf => by have e18 : ρ (.tmp 18) = _ := hf 18 (by decide); (conv => lhs; simp [execOp, go_sem, hc, e18])) ?_
  intro A W4 hC hn hd hf
  have y0 : A.eval (.tmp 0) = _ := Eq.trans (hf 0) (by conv => lhs; simp [go_sem])
  have y1 : A.eval (.tmp 1) = _ := Eq.trans (hf 1) (by conv => lhs; simp [go_sem])
  have y2 : A.eval (.tmp 2) = _ := Eq.trans (hf 2) (by conv => lhs; simp [go_sem])
  have y3 : A.eval (.tmp 3) = _ := Eq.trans (hf 3) (by conv => lhs; simp [go_sem])
  have y4 : A.eval (.tmp 4) = _ := hf 4
  have y5 : A.eval (.tmp 5) = _ := hf 5
  have y6 : A.eval (.tmp 6) = _ := hf 6
  have y7 : A.eval (.tmp 7) = _ := hf 7
  have y8 : A.eval (.tmp 8) = _ := hf 8
  have y9 : A.eval (.tmp 9) = _ := hf 9
  have y10 : A.eval (.tmp 10) = _ := hf 10
  have y11 : A.eval (.tmp 11) = _ := hf 11
  have y12 : A.eval (.tmp 12) = _ := hf 12
  have y13 : A.eval (.tmp 13) = _ := hf 13
  have y14 : A.eval (.tmp 14) = _ := hf 14
  have y15 : A.eval (.tmp 15) = _ := hf 15
  have y16 : A.eval (.tmp 16) = _ := hf 16
  have y17 : A.eval (.tmp 17) = _ := hf 17
  have y18 : A.eval (.tmp 18) = _ := hf 18
  clear hf
  have hA := frame_eq hn
  rw [show List.range 19 = [0, 1, 2, 3, 4, 5, 6, 7, 8, 9, 10, 11, 12, 13, 14, 15, 16, 17, 18] from rfl, hd] at hA
  simp only [List.map_cons, List.map_nil, y0, y1, y2, y3, y4, y5, y6, y7, y8, y9, y10, y11, y12, y13, y14, y15, y16, y17, y18] at hA
  clear y0 y1 y2 y3 y4 y5 y6 y7 y8 y9 y10 y11 y12 y13 y14 y15 y16 y17 y18
  clear hn hd
  subst hA
  go_wp2_with fail
  go_ret
  exact ⟨rfl, hbel.trans (hC.mono hbel.size)⟩
set_option maxHeartbeats 8000000 in
theorem rless_tt (n : Bool) (t o r d i : Int) (n' : Bool) (t' o' r' d' i' : Int) (w : World) (hd1 : told n t o r d i = true) (hd2 : told n' t' o' r' d' i' = true) :
    Calls Try.prog 35 #[.agg #[.bool n, .int .i64 t, .int .i64 o, .int .i64 r, .int .i64 d, .int .i64 i], .agg #[.bool n', .int .i64 t', .int .i64 o', .int .i64 r', .int .i64 d', .int .i64 i']] w fun e w' => e = .returned (.bool (decide (cmp5 t o r d i t' o' r' d' i' < 0))) ∧ Below w.heap.size w w' := by
  have ct1 : ∀ w, Calls Try.prog 34 #[.agg #[.bool n, .int .i64 t, .int .i64 o, .int .i64 r, .int .i64 d, .int .i64 i]] w fun e w' => e = .returned (.bool true) ∧ Below w.heap.size w w' := fun w => by rw [← hd1]; exact rtold_any n t o r d i w
  have ct2 : ∀ w, Calls Try.prog 34 #[.agg #[.bool n', .int .i64 t', .int .i64 o', .int .i64 r', .int .i64 d', .int .i64 i']] w fun e w' => e = .returned (.bool true) ∧ Below w.heap.size w w' := fun w => by rw [← hd2]; exact rtold_any n' t' o' r' d' i' w
  go_enter Try.func35, Try.ntmps35
  go_wp2
  have c1 := (cells6_alloc w n t o r d i 24).below ((Below.refl _ _).alloc (Nat.le_refl _) (.cells #[.bool n', .int .i64 t', .int .i64 o', .int .i64 r', .int .i64 d', .int .i64 i'] 24))
  have c2 := cells6_alloc (w.alloc (.cells #[.bool n, .int .i64 t, .int .i64 o, .int .i64 r, .int .i64 d, .int .i64 i] 24)) n' t' o' r' d' i' 24
  have hbel : Below w.heap.size w ((w.alloc (.cells #[.bool n, .int .i64 t, .int .i64 o, .int .i64 r, .int .i64 d, .int .i64 i] 24)).alloc (.cells #[.bool n', .int .i64 t', .int .i64 o', .int .i64 r', .int .i64 d', .int .i64 i'] 24)) := ((Below.refl _ w).alloc (Nat.le_refl _) _).alloc (by simp) _
  generalize (w.alloc (.cells #[.bool n, .int .i64 t, .int .i64 o, .int .i64 r, .int .i64 d, .int .i64 i] 24)).alloc (.cells #[.bool n', .int .i64 t', .int .i64 o', .int .i64 r', .int .i64 d', .int .i64 i'] 24) = W at *
  have kc : ∀ w', Below W.heap.size W w' → Cells6 w' w.heap.size n t o r d i ∧ Cells6 w' (w.heap.size + 1) n' t' o' r' d' i' := fun w' h => ⟨c1.below h, by simpa using c2.below h⟩
  unfold Cells6 at kc
  refine wp_region_typed (C := fun w' => Below W.heap.size W w') (X := fun w w' => Below w.heap.size w w') (n := 19) (by kernel_rfl) (by kernel_rfl) rfl (fun w => Below.refl _ w) (Below.refl _ _).drew ?_
  refine w_is (fun w => Below.refl _ w) _ (.inl rfl) (fun ρ w hC hc hfn hf => by have e2 : ρ (.tmp 2) = _ := hf 2 (by decide); (conv => lhs; simp [execOp, go_sem, hc, e2, kc w hC])) ?_
  refine w_call (Is _) (fun _ _ _ h _ => h) 34 (.inl rfl) (fun ρ w hC hc hfn hf => by have e5 : ρ (.tmp 5) = _ := hf 5 (by decide); exact ⟨_, by (conv => lhs; simp [execOp, resolve, invoke, go_sem, hc, hfn, e5]), (tc_below hC (ct1 w))⟩) ?_
  refine w_is (fun w => Below.refl _ w) _ (.inl rfl) (fun ρ w hC hc hfn hf => by have e6 : ρ (.tmp 6) = _ := hf 6 (by decide); (conv => lhs; simp [execOp, go_sem, hc, e6])) ?_
  refine w_is (fun w => Below.refl _ w) _ (.inr ⟨2, 7, true, rfl, rfl, known_is rfl⟩) (fun ρ w hC hc hfn hf => by have e3 : ρ (.tmp 3) = _ := hf 3 (by decide); (conv => lhs; simp [execOp, go_sem, hc, e3, kc w hC])) ?_
  refine w_call (Is _) (fun _ _ _ h _ => h) 34 (.inr ⟨2, 7, true, rfl, rfl, known_is rfl⟩) (fun ρ w hC hc hfn hf => by have e8 : ρ (.tmp 8) = _ := hf 8 (by decide); exact ⟨_, by (conv => lhs; simp [execOp, resolve, invoke, go_sem, hc, hfn, e8]), (tc_below hC (ct2 w))⟩) ?_
  refine w_is (fun w => Below.refl _ w) _ (.inl rfl) (fun ρ w hC hc hfn hf => by have e7 : ρ (.tmp 7) = _ := hf 7 (by decide); have e9 : ρ (.tmp 9) = _ := hf 9 (by decide); (conv => lhs; simp [execOp, go_sem, hc, e7, e9])) ?_
  refine w_is (fun w => Below.refl _ w) _ (.inl rfl) (fun ρ w hC hc hfn hf => by have e10 : ρ (.tmp 10) = _ := hf 10 (by decide); (conv => lhs; simp [execOp, go_sem, hc, e10])) ?_
  refine w_is (fun w => Below.refl _ w) _ (.inr ⟨6, 11, true, rfl, rfl, known_is rfl⟩) (fun ρ w hC hc hfn hf => by have e2 : ρ (.tmp 2) = _ := hf 2 (by decide); (conv => lhs; simp [execOp, go_sem, hc, e2, kc w hC])) ?_
  refine w_call (fun v w => Ints w v _) (fun _ _ _ h hb => h.below hb) 56 (.inr ⟨6, 11, true, rfl, rfl, known_is rfl⟩) (fun ρ w hC hc hfn hf => by have e12 : ρ (.tmp 12) = _ := hf 12 (by decide); exact ⟨_, by (conv => lhs; simp [execOp, resolve, invoke, go_sem, hc, hfn, e12]), (tc_some hC (rrow_any _ _ _ _ _ _ w))⟩) ?_
  refine w_is (fun w => Below.refl _ w) _ (.inr ⟨6, 11, true, rfl, rfl, known_is rfl⟩) (fun ρ w hC hc hfn hf => by have e3 : ρ (.tmp 3) = _ := hf 3 (by decide); (conv => lhs; simp [execOp, go_sem, hc, e3, kc w hC])) ?_
  refine w_call (fun v w => Ints w v _) (fun _ _ _ h hb => h.below hb) 56 (.inr ⟨6, 11, true, rfl, rfl, known_is rfl⟩) (fun ρ w hC hc hfn hf => by have e14 : ρ (.tmp 14) = _ := hf 14 (by decide); exact ⟨_, by (conv => lhs; simp [execOp, resolve, invoke, go_sem, hc, hfn, e14]), (tc_some hC (rrow_any _ _ _ _ _ _ w))⟩) ?_
  refine w_call (Is _) (fun _ _ _ h _ => h) 55 (.inr ⟨6, 11, true, rfl, rfl, known_is rfl⟩) (fun ρ w hC hc hfn hf => by have e13 := hf 13 (by decide); have e15 := hf 15 (by decide); exact ⟨_, by (conv => lhs; simp [execOp, resolve, invoke, go_sem, hc, hfn]), (tc_below hC (rcompare_any _ _ _ _ w e13 e15 rfl))⟩) ?_
  refine w_is (fun w => Below.refl _ w) _ (.inr ⟨6, 11, true, rfl, rfl, known_is rfl⟩) (fun ρ w hC hc hfn hf => by have e16 : ρ (.tmp 16) = _ := hf 16 (by decide); (conv => lhs; simp [execOp, go_sem, hc, e16])) ?_
  refine w_is (fun w => Below.refl _ w) _ (.inl rfl) (fun ρ w hC hc hfn hf => by have e11 : ρ (.tmp 11) = _ := hf 11 (by decide); have e17 : ρ (.tmp 17) = _ := hf 17 (by decide); (conv => lhs; simp [execOp, go_sem, hc, e11, e17])) ?_
  refine w_is (fun w => Below.refl _ w) _ (.inl rfl) (fun ρ w hC hc hfn hf => by have e18 : ρ (.tmp 18) = _ := hf 18 (by decide); (conv => lhs; simp [execOp, go_sem, hc, e18])) ?_
  intro A W4 hC hn hd hf
  have y0 : A.eval (.tmp 0) = _ := Eq.trans (hf 0) (by conv => lhs; simp [go_sem])
  have y1 : A.eval (.tmp 1) = _ := Eq.trans (hf 1) (by conv => lhs; simp [go_sem])
  have y2 : A.eval (.tmp 2) = _ := Eq.trans (hf 2) (by conv => lhs; simp [go_sem])
  have y3 : A.eval (.tmp 3) = _ := Eq.trans (hf 3) (by conv => lhs; simp [go_sem])
  have y4 : A.eval (.tmp 4) = _ := hf 4
  have y5 : A.eval (.tmp 5) = _ := hf 5
  have y6 : A.eval (.tmp 6) = _ := hf 6
  have y7 : A.eval (.tmp 7) = _ := hf 7
  have y8 : A.eval (.tmp 8) = _ := hf 8
  have y9 : A.eval (.tmp 9) = _ := hf 9
  have y10 : A.eval (.tmp 10) = _ := hf 10
  have y11 : A.eval (.tmp 11) = _ := hf 11
  have y12 : A.eval (.tmp 12) = _ := hf 12
  have y13 := hf 13
  have y14 : A.eval (.tmp 14) = _ := hf 14
  have y15 := hf 15
  have y16 : A.eval (.tmp 16) = _ := hf 16
  have y17 : A.eval (.tmp 17) = _ := hf 17
  have y18 : A.eval (.tmp 18) = _ := hf 18
  clear hf
  have hA := frame_eq hn
  rw [show List.range 19 = [0, 1, 2, 3, 4, 5, 6, 7, 8, 9, 10, 11, 12, 13, 14, 15, 16, 17, 18] from rfl, hd] at hA
  simp only [List.map_cons, List.map_nil, y0, y1, y2, y3, y4, y5, y6, y7, y8, y9, y10, y11, y12, y14, y16, y17, y18] at hA
  change (fun v w => Ints w v _) (A.eval (.tmp 13)) W4 at y13
  change (fun v w => Ints w v _) (A.eval (.tmp 15)) W4 at y15
  clear y0 y1 y2 y3 y4 y5 y6 y7 y8 y9 y10 y11 y12 y14 y16 y17 y18
  generalize A.eval (.tmp 13) = v13 at *
  generalize A.eval (.tmp 15) = v15 at *
  clear hn hd
  subst hA
  go_wp2_with fail
  go_ret
  exact ⟨rfl, hbel.trans (hC.mono hbel.size)⟩
theorem rless_any (n : Bool) (t o r d i : Int) (n' : Bool) (t' o' r' d' i' : Int) (w : World) :
    Calls Try.prog 35 #[.agg #[.bool n, .int .i64 t, .int .i64 o, .int .i64 r, .int .i64 d, .int .i64 i], .agg #[.bool n', .int .i64 t', .int .i64 o', .int .i64 r', .int .i64 d', .int .i64 i']] w fun e w' => e = .returned (.bool (lessB n t o r d i n' t' o' r' d' i')) ∧ Below w.heap.size w w' := by
  unfold lessB
  cases hd1 : told n t o r d i with
  | false => exact rless_f _ _ _ _ _ _ _ _ _ _ _ _ w hd1
  | true =>
    cases hd2 : told n' t' o' r' d' i' with
    | false => exact rless_tf _ _ _ _ _ _ _ _ _ _ _ _ w hd1 hd2
    | true => exact rless_tt _ _ _ _ _ _ _ _ _ _ _ _ w hd1 hd2
end Go.Proofs.Ytmimgpnogjgliaa

