/- The reference's views: Below, Above. No conditions but on lengths. -/
import Derived.Test.YtahhhegknmiinaaVro
namespace Go.Proofs.Ytahhhegknmiinaa
set_option maxRecDepth 100000
open Go.RowKit

def belF (l : List Vw) (own : Hx) : List Vw := l.filter (fun y => lsx y.2 own)
def belV (l : List Vw) (own : Hx) : List Int := (vordL (belF l own)).map (·.1)
theorem belF_le (l : List Vw) (own : Hx) : (belF l own).length ≤ l.length := List.length_filter_le _ _
theorem bel_step (l : List Vw) (own : Hx) (k : Nat) (h : k < l.length) : belF (l.take (k + 1)) own = belF (l.take k) own ++ if lsx (l.getD k zVw).2 own = true then [l.getD k zVw] else [] := by
  rw [vtake_succ l k h]
  unfold belF
  rw [List.filter_append]
  congr 1
  generalize l.getD k zVw = z
  cases hd : lsx z.2 own with
  | true => rw [if_pos rfl, List.filter_cons_of_pos (by simpa using hd)]; rfl
  | false => rw [if_neg (by simp), List.filter_cons_of_neg (by simp [hd])]; rfl
set_option maxHeartbeats 4000000 in
theorem rvbel_any (v : Value) (l : List Vw) (own : Hx) (w : World) (hv : Vs w v l) (hl : l.length ≤ 1000) :
    Calls Try.prog 24 #[v, hxV own] w fun e w' => (∃ a c, e = .returned (.slice a (belV l own).length c) ∧ OwI w' w.heap.size (.slice a (belV l own).length c) (belV l own)) ∧ Below w.heap.size w w' := by
  obtain ⟨a, c, rfl⟩ := hv.form
  obtain ⟨w1, hw1⟩ : ∃ w1, w.alloc (.cells #[.bool own.1, .int .i64 own.2.1, .int .i64 own.2.2.1, .int .i64 own.2.2.2.1, .int .i64 own.2.2.2.2.1, .int .i64 own.2.2.2.2.2] 24) = w1 := ⟨_, rfl⟩
  have hb0 : Below w.heap.size w w1 := hw1 ▸ (Below.refl _ w).alloc (Nat.le_refl _) _
  have OV := Lib.hid (hw1 ▸ own6_alloc w own.1 own.2.1 own.2.2.1 own.2.2.2.1 own.2.2.2.2.1 own.2.2.2.2.2 24 w.heap.size rfl : Own6 w1 w.heap.size own.1 own.2.1 own.2.2.1 own.2.2.2.1 own.2.2.2.2.1 own.2.2.2.2.2)
  have HV := Lib.hid (hv.below hb0)
  have HB0 := Lib.hid hb0
  clear hv hb0
  go_enter Try.func24, Try.ntmps24
  go_upto_region 1 with (fail)
  clear hw1
  go_wp2_with fail
  go_loopw [5, 6] (fun lv i wr => ∃ (k : Nat) (ax : Option Addr) (cx : Nat) (xs : List Vw), k ≤ l.length ∧ i = .int .i64 k ∧ lv = .slice ax xs.length cx ∧ Hid (belF (l.take k) own = xs) ∧ Hid (OwV wr w1.heap.size (.slice ax xs.length cx) xs) ∧ Hid (Below w1.heap.size w1 wr)) (fun _ i _ => l.length - (intOf i).toNat)
  case atStart => exact ⟨0, none, 0, [], Nat.zero_le _, rfl, rfl, rfl, OwV_nil w1 _, Below.refl _ _⟩
  case round =>
    obtain ⟨k, ax, cx, xs, hk, rfl, rfl, HF, HO, HB⟩ := hrel
    have hxl : xs.length ≤ k := by
      have h1 := belF_le (l.take k) own
      rw [HF.out, List.length_take] at h1
      omega
    by_cases hlt : k < l.length
    · have hst := bel_step l own k hlt
      rw [HF.out] at hst
      obtain ⟨b2, off, rfl⟩ : ∃ b2 off, a = some ⟨b2, off, none⟩ := by
        obtain ⟨b2, off, h, _⟩ := HV.out.at hlt
        exact ⟨b2, off, h⟩
      obtain ⟨y, hy⟩ : ∃ y, l.getD k zVw = y := ⟨_, rfl⟩
      rw [hy] at hst
      have HY := Lib.hid hy
      clear hy
      have kc : ∀ w', Below wr.heap.size wr w' → C7 w' b2 (off + k * 7) y ∧ Cells6 w' w.heap.size own.1 own.2.1 own.2.2.1 own.2.2.2.1 own.2.2.2.2.1 own.2.2.2.2.2 := fun w' hb => by
        have hb9 := HB.out.trans (hb.mono HB.out.size)
        have h1 := (HV.out.below hb9).all hlt
        rw [HY.out] at h1
        exact ⟨h1.2, (OV.out.below hb9).1⟩
      simp only [C7, Cells6] at kc
      have cX := fun W => rless_any y.2.1 y.2.2.1 y.2.2.2.1 y.2.2.2.2.1 y.2.2.2.2.2.1 y.2.2.2.2.2.2 own.1 own.2.1 own.2.2.1 own.2.2.2.1 own.2.2.2.2.1 own.2.2.2.2.2 W
      cases g3 : lsx y.2 own with
      | true =>
        rw [show lessB y.2.1 y.2.2.1 y.2.2.2.1 y.2.2.2.2.1 y.2.2.2.2.2.1 y.2.2.2.2.2.2 own.1 own.2.1 own.2.2.1 own.2.2.2.1 own.2.2.2.2.1 own.2.2.2.2.2 = true from g3] at cX
        rw [g3, if_pos rfl] at hst
        have HST := Lib.hid hst
        clear hst g3
        go_upto_region 5 with (fail)
        refine wp_region_typed (C := fun w' => Below wr.heap.size wr w') (X := fun w w' => Below w.heap.size w w') (n := 29) (by kernel_rfl) (by kernel_rfl) rfl (fun w => Below.refl _ w) (Below.refl _ _).drew ?_
        refine w_is (fun w => Below.refl _ w) _ (.inl rfl) (fun ρ w hC hc hfn hf => by have e0 : ρ (.tmp 0) = _ := hf 0 (by decide); (conv => lhs; simp [execOp, go_sem, hc, e0])) ?_
        refine w_is (fun w => Below.refl _ w) _ (.inl rfl) (fun ρ w hC hc hfn hf => by have e6 : ρ (.tmp 6) = _ := hf 6 (by decide); (conv => lhs; simp [execOp, go_sem, hc, e6])) ?_
        refine w_is (fun w => Below.refl _ w) _ (.inl rfl) (fun ρ w hC hc hfn hf => by have e13 : ρ (.tmp 13) = _ := hf 13 (by decide); have e14 : ρ (.tmp 14) = _ := hf 14 (by decide); (conv => lhs; simp [execOp, go_sem, hc, e13, e14, hlt])) ?_
        refine w_is (fun w => Below.refl _ w) _ (.inl rfl) (fun ρ w hC hc hfn hf => by have e15 : ρ (.tmp 15) = _ := hf 15 (by decide); (conv => lhs; simp [execOp, go_sem, hc, e15])) ?_
        refine w_is (fun w => Below.refl _ w) _ (.inl rfl) (fun ρ w hC hc hfn hf => by have e16 : ρ (.tmp 16) = _ := hf 16 (by decide); (conv => lhs; simp [execOp, go_sem, hc, e16, kc w hC])) ?_
        refine w_is (fun w => Below.refl _ w) _ (.inl rfl) (fun ρ w hC hc hfn hf => by have e3 : ρ (.tmp 3) = _ := hf 3 (by decide); (conv => lhs; simp [execOp, go_sem, hc, e3, kc w hC])) ?_
        refine w_call (Is _) (fun _ _ _ h _ => h) 39 (.inl rfl) (fun ρ w hC hc hfn hf => by have e17 : ρ (.tmp 17) = _ := hf 17 (by decide); have e18 : ρ (.tmp 18) = _ := hf 18 (by decide); exact ⟨_, by (conv => lhs; simp [execOp, resolve, invoke, go_sem, hc, hfn, e17, e18]), tc_below hC (cX w)⟩) ?_
        intro A V5 hC hn hd hf
        have y0 : A.eval (.tmp 0) = _ := Eq.trans (hf 0) (by conv => lhs; simp [go_sem])
        have y1 : A.eval (.tmp 1) = _ := Eq.trans (hf 1) (by conv => lhs; simp [go_sem])
        have y2 : A.eval (.tmp 2) = _ := Eq.trans (hf 2) (by conv => lhs; simp [go_sem])
        have y3 : A.eval (.tmp 3) = _ := Eq.trans (hf 3) (by conv => lhs; simp [go_sem])
        have y4 : A.eval (.tmp 4) = _ := Eq.trans (hf 4) (by conv => lhs; simp [go_sem])
        have y5 : A.eval (.tmp 5) = _ := Eq.trans (hf 5) (by conv => lhs; simp [go_sem])
        have y6 : A.eval (.tmp 6) = _ := Eq.trans (hf 6) (by conv => lhs; simp [go_sem])
        have y7 : A.eval (.tmp 7) = _ := Eq.trans (hf 7) (by conv => lhs; simp [go_sem])
        have y8 : A.eval (.tmp 8) = _ := Eq.trans (hf 8) (by conv => lhs; simp [go_sem])
        have y9 : A.eval (.tmp 9) = _ := Eq.trans (hf 9) (by conv => lhs; simp [go_sem])
        have y10 : A.eval (.tmp 10) = _ := Eq.trans (hf 10) (by conv => lhs; simp [go_sem])
        have y11 : A.eval (.tmp 11) = _ := Eq.trans (hf 11) (by conv => lhs; simp [go_sem])
        have y12 : A.eval (.tmp 12) = _ := Eq.trans (hf 12) (by conv => lhs; simp [go_sem])
        have y13 : A.eval (.tmp 13) = _ := hf 13
        have y14 : A.eval (.tmp 14) = _ := hf 14
        have y15 : A.eval (.tmp 15) = _ := hf 15
        have y16 : A.eval (.tmp 16) = _ := hf 16
        have y17 : A.eval (.tmp 17) = _ := hf 17
        have y18 : A.eval (.tmp 18) = _ := hf 18
        have y19 : A.eval (.tmp 19) = _ := hf 19
        have y20 : A.eval (.tmp 20) = _ := Eq.trans (hf 20) (by conv => lhs; simp [go_sem])
        have y21 : A.eval (.tmp 21) = _ := Eq.trans (hf 21) (by conv => lhs; simp [go_sem])
        have y22 : A.eval (.tmp 22) = _ := Eq.trans (hf 22) (by conv => lhs; simp [go_sem])
        have y23 : A.eval (.tmp 23) = _ := Eq.trans (hf 23) (by conv => lhs; simp [go_sem])
        have y24 : A.eval (.tmp 24) = _ := Eq.trans (hf 24) (by conv => lhs; simp [go_sem])
        have y25 : A.eval (.tmp 25) = _ := Eq.trans (hf 25) (by conv => lhs; simp [go_sem])
        have y26 : A.eval (.tmp 26) = _ := Eq.trans (hf 26) (by conv => lhs; simp [go_sem])
        have y27 : A.eval (.tmp 27) = _ := Eq.trans (hf 27) (by conv => lhs; simp [go_sem])
        have y28 : A.eval (.tmp 28) = _ := Eq.trans (hf 28) (by conv => lhs; simp [go_sem])
        clear hf
        have hA := frame_eq hn
        rw [show List.range 29 = [0, 1, 2, 3, 4, 5, 6, 7, 8, 9, 10, 11, 12, 13, 14, 15, 16, 17, 18, 19, 20, 21, 22, 23, 24, 25, 26, 27, 28] from rfl, hd] at hA
        simp only [List.map_cons, List.map_nil, y0, y1, y2, y3, y4, y5, y6, y7, y8, y9, y10, y11, y12, y13, y14, y15, y16, y17, y18, y19, y20, y21, y22, y23, y24, y25, y26, y27, y28] at hA
        clear y0 y1 y2 y3 y4 y5 y6 y7 y8 y9 y10 y11 y12 y13 y14 y15 y16 y17 y18 y19 y20 y21 y22 y23 y24 y25 y26 y27 y28
        clear hn hd
        subst hA
        have HB5 := Lib.hid (HB.out.trans (hC.mono HB.out.size))
        have HO5 := Lib.hid (HO.out.below hC)
        clear hC
        obtain ⟨hB8, p0, p1, p2, p3, p4, p5, p6⟩ := (HV.out.below HB5.out).all hlt
        rw [HY.out] at p0 p1 p2 p3 p4 p5 p6
        have HLE1 : Hid (xs.length ≤ 3000) := by show _ ≤ _; omega
        have HSW : Hid (w1.heap.size ≤ V5.heap.size) := HB5.out.size
        go_wp2_with (at_builtin; refine vapp1_any rfl (.tmp 20) (.tmp 25) rfl V5 y rfl w1.heap.size (.slice ax xs.length cx) xs rfl rfl HO5.out HLE1.out HSW.out ?_; intro g1 cap1 wa ho9 hb9; have HO1 := Lib.hid ho9; have HA1 := Lib.hid hb9; clear ho9 hb9)
        go_roundw
        case rel => exact ⟨k + 1, some ⟨g1, 0, none⟩, cap1, xs ++ [y], by omega, by go_num, by rw [List.length_append]; rfl, HST.out, by have h9 := HO1.out; rw [List.length_append]; exact h9, HB5.out.trans HA1.out⟩
        case measure => simp [intOf]; omega
      | false =>
        rw [show lessB y.2.1 y.2.2.1 y.2.2.2.1 y.2.2.2.2.1 y.2.2.2.2.2.1 y.2.2.2.2.2.2 own.1 own.2.1 own.2.2.1 own.2.2.2.1 own.2.2.2.2.1 own.2.2.2.2.2 = false from g3] at cX
        rw [g3, if_neg (by simp), List.append_nil] at hst
        have HST := Lib.hid hst
        clear hst g3
        go_upto_region 5 with (fail)
        refine wp_region_typed (C := fun w' => Below wr.heap.size wr w') (X := fun w w' => Below w.heap.size w w') (n := 29) (by kernel_rfl) (by kernel_rfl) rfl (fun w => Below.refl _ w) (Below.refl _ _).drew ?_
        refine w_is (fun w => Below.refl _ w) _ (.inl rfl) (fun ρ w hC hc hfn hf => by have e0 : ρ (.tmp 0) = _ := hf 0 (by decide); (conv => lhs; simp [execOp, go_sem, hc, e0])) ?_
        refine w_is (fun w => Below.refl _ w) _ (.inl rfl) (fun ρ w hC hc hfn hf => by have e6 : ρ (.tmp 6) = _ := hf 6 (by decide); (conv => lhs; simp [execOp, go_sem, hc, e6])) ?_
        refine w_is (fun w => Below.refl _ w) _ (.inl rfl) (fun ρ w hC hc hfn hf => by have e13 : ρ (.tmp 13) = _ := hf 13 (by decide); have e14 : ρ (.tmp 14) = _ := hf 14 (by decide); (conv => lhs; simp [execOp, go_sem, hc, e13, e14, hlt])) ?_
        refine w_is (fun w => Below.refl _ w) _ (.inl rfl) (fun ρ w hC hc hfn hf => by have e15 : ρ (.tmp 15) = _ := hf 15 (by decide); (conv => lhs; simp [execOp, go_sem, hc, e15])) ?_
        refine w_is (fun w => Below.refl _ w) _ (.inl rfl) (fun ρ w hC hc hfn hf => by have e16 : ρ (.tmp 16) = _ := hf 16 (by decide); (conv => lhs; simp [execOp, go_sem, hc, e16, kc w hC])) ?_
        refine w_is (fun w => Below.refl _ w) _ (.inl rfl) (fun ρ w hC hc hfn hf => by have e3 : ρ (.tmp 3) = _ := hf 3 (by decide); (conv => lhs; simp [execOp, go_sem, hc, e3, kc w hC])) ?_
        refine w_call (Is _) (fun _ _ _ h _ => h) 39 (.inl rfl) (fun ρ w hC hc hfn hf => by have e17 : ρ (.tmp 17) = _ := hf 17 (by decide); have e18 : ρ (.tmp 18) = _ := hf 18 (by decide); exact ⟨_, by (conv => lhs; simp [execOp, resolve, invoke, go_sem, hc, hfn, e17, e18]), tc_below hC (cX w)⟩) ?_
        intro A V5 hC hn hd hf
        have y0 : A.eval (.tmp 0) = _ := Eq.trans (hf 0) (by conv => lhs; simp [go_sem])
        have y1 : A.eval (.tmp 1) = _ := Eq.trans (hf 1) (by conv => lhs; simp [go_sem])
        have y2 : A.eval (.tmp 2) = _ := Eq.trans (hf 2) (by conv => lhs; simp [go_sem])
        have y3 : A.eval (.tmp 3) = _ := Eq.trans (hf 3) (by conv => lhs; simp [go_sem])
        have y4 : A.eval (.tmp 4) = _ := Eq.trans (hf 4) (by conv => lhs; simp [go_sem])
        have y5 : A.eval (.tmp 5) = _ := Eq.trans (hf 5) (by conv => lhs; simp [go_sem])
        have y6 : A.eval (.tmp 6) = _ := Eq.trans (hf 6) (by conv => lhs; simp [go_sem])
        have y7 : A.eval (.tmp 7) = _ := Eq.trans (hf 7) (by conv => lhs; simp [go_sem])
        have y8 : A.eval (.tmp 8) = _ := Eq.trans (hf 8) (by conv => lhs; simp [go_sem])
        have y9 : A.eval (.tmp 9) = _ := Eq.trans (hf 9) (by conv => lhs; simp [go_sem])
        have y10 : A.eval (.tmp 10) = _ := Eq.trans (hf 10) (by conv => lhs; simp [go_sem])
        have y11 : A.eval (.tmp 11) = _ := Eq.trans (hf 11) (by conv => lhs; simp [go_sem])
        have y12 : A.eval (.tmp 12) = _ := Eq.trans (hf 12) (by conv => lhs; simp [go_sem])
        have y13 : A.eval (.tmp 13) = _ := hf 13
        have y14 : A.eval (.tmp 14) = _ := hf 14
        have y15 : A.eval (.tmp 15) = _ := hf 15
        have y16 : A.eval (.tmp 16) = _ := hf 16
        have y17 : A.eval (.tmp 17) = _ := hf 17
        have y18 : A.eval (.tmp 18) = _ := hf 18
        have y19 : A.eval (.tmp 19) = _ := hf 19
        have y20 : A.eval (.tmp 20) = _ := Eq.trans (hf 20) (by conv => lhs; simp [go_sem])
        have y21 : A.eval (.tmp 21) = _ := Eq.trans (hf 21) (by conv => lhs; simp [go_sem])
        have y22 : A.eval (.tmp 22) = _ := Eq.trans (hf 22) (by conv => lhs; simp [go_sem])
        have y23 : A.eval (.tmp 23) = _ := Eq.trans (hf 23) (by conv => lhs; simp [go_sem])
        have y24 : A.eval (.tmp 24) = _ := Eq.trans (hf 24) (by conv => lhs; simp [go_sem])
        have y25 : A.eval (.tmp 25) = _ := Eq.trans (hf 25) (by conv => lhs; simp [go_sem])
        have y26 : A.eval (.tmp 26) = _ := Eq.trans (hf 26) (by conv => lhs; simp [go_sem])
        have y27 : A.eval (.tmp 27) = _ := Eq.trans (hf 27) (by conv => lhs; simp [go_sem])
        have y28 : A.eval (.tmp 28) = _ := Eq.trans (hf 28) (by conv => lhs; simp [go_sem])
        clear hf
        have hA := frame_eq hn
        rw [show List.range 29 = [0, 1, 2, 3, 4, 5, 6, 7, 8, 9, 10, 11, 12, 13, 14, 15, 16, 17, 18, 19, 20, 21, 22, 23, 24, 25, 26, 27, 28] from rfl, hd] at hA
        simp only [List.map_cons, List.map_nil, y0, y1, y2, y3, y4, y5, y6, y7, y8, y9, y10, y11, y12, y13, y14, y15, y16, y17, y18, y19, y20, y21, y22, y23, y24, y25, y26, y27, y28] at hA
        clear y0 y1 y2 y3 y4 y5 y6 y7 y8 y9 y10 y11 y12 y13 y14 y15 y16 y17 y18 y19 y20 y21 y22 y23 y24 y25 y26 y27 y28
        clear hn hd
        subst hA
        have HB5 := Lib.hid (HB.out.trans (hC.mono HB.out.size))
        have HO5 := Lib.hid (HO.out.below hC)
        clear hC
        go_wp2_with fail
        go_roundw
        case rel => exact ⟨k + 1, ax, cx, xs, by omega, by go_num, rfl, HST.out, HO5.out, HB5.out⟩
        case measure => simp [intOf]; omega
    · obtain rfl : k = l.length := by omega
      rw [List.take_length] at HF
      have C0 := rvord_any (.slice ax xs.length cx) xs wr HO.out.vs (by omega)
      obtain ⟨R, hR⟩ : ∃ R, belV l own = R := ⟨_, rfl⟩
      rw [show (vordL xs).map (·.1) = R by rw [← hR, ← HF.out]; rfl] at C0
      have C1 := Lib.hid C0
      have HR := Lib.hid hR
      clear C0 hR
      have HBX := Lib.hid (HB0.out.trans (HB.out.mono HB0.out.size))
      go_wp2_with (go_at_call 42; refine C1.out.mono ?_; rintro e w5 ⟨⟨a5, c5, rfl, ho⟩, hb5⟩; have HO9 := Lib.hid (ho.mono HBX.out.size); have HB9 := Lib.hid (HBX.out.trans (hb5.mono HBX.out.size)); clear ho hb5 C1)
      go_ret
      rw [HR.out]
      exact ⟨⟨_, _, rfl, HO9.out⟩, HB9.out⟩
def aboF (l : List Vw) (own : Hx) : List Vw := l.filter (fun y => lsx own y.2)
def aboV (l : List Vw) (own : Hx) : List Int := (vordL (aboF l own)).map (·.1)
theorem aboF_le (l : List Vw) (own : Hx) : (aboF l own).length ≤ l.length := List.length_filter_le _ _
theorem abo_step (l : List Vw) (own : Hx) (k : Nat) (h : k < l.length) : aboF (l.take (k + 1)) own = aboF (l.take k) own ++ if lsx own (l.getD k zVw).2 = true then [l.getD k zVw] else [] := by
  rw [vtake_succ l k h]
  unfold aboF
  rw [List.filter_append]
  congr 1
  generalize l.getD k zVw = z
  cases hd : lsx own z.2 with
  | true => rw [if_pos rfl, List.filter_cons_of_pos (by simpa using hd)]; rfl
  | false => rw [if_neg (by simp), List.filter_cons_of_neg (by simp [hd])]; rfl
set_option maxHeartbeats 4000000 in
theorem rvabo_any (v : Value) (l : List Vw) (own : Hx) (w : World) (hv : Vs w v l) (hl : l.length ≤ 1000) :
    Calls Try.prog 26 #[v, hxV own] w fun e w' => (∃ a c, e = .returned (.slice a (aboV l own).length c) ∧ OwI w' w.heap.size (.slice a (aboV l own).length c) (aboV l own)) ∧ Below w.heap.size w w' := by
  obtain ⟨a, c, rfl⟩ := hv.form
  obtain ⟨w1, hw1⟩ : ∃ w1, w.alloc (.cells #[.bool own.1, .int .i64 own.2.1, .int .i64 own.2.2.1, .int .i64 own.2.2.2.1, .int .i64 own.2.2.2.2.1, .int .i64 own.2.2.2.2.2] 24) = w1 := ⟨_, rfl⟩
  have hb0 : Below w.heap.size w w1 := hw1 ▸ (Below.refl _ w).alloc (Nat.le_refl _) _
  have OV := Lib.hid (hw1 ▸ own6_alloc w own.1 own.2.1 own.2.2.1 own.2.2.2.1 own.2.2.2.2.1 own.2.2.2.2.2 24 w.heap.size rfl : Own6 w1 w.heap.size own.1 own.2.1 own.2.2.1 own.2.2.2.1 own.2.2.2.2.1 own.2.2.2.2.2)
  have HV := Lib.hid (hv.below hb0)
  have HB0 := Lib.hid hb0
  clear hv hb0
  go_enter Try.func26, Try.ntmps26
  go_upto_region 1 with (fail)
  clear hw1
  go_wp2_with fail
  go_loopw [5, 6] (fun lv i wr => ∃ (k : Nat) (ax : Option Addr) (cx : Nat) (xs : List Vw), k ≤ l.length ∧ i = .int .i64 k ∧ lv = .slice ax xs.length cx ∧ Hid (aboF (l.take k) own = xs) ∧ Hid (OwV wr w1.heap.size (.slice ax xs.length cx) xs) ∧ Hid (Below w1.heap.size w1 wr)) (fun _ i _ => l.length - (intOf i).toNat)
  case atStart => exact ⟨0, none, 0, [], Nat.zero_le _, rfl, rfl, rfl, OwV_nil w1 _, Below.refl _ _⟩
  case round =>
    obtain ⟨k, ax, cx, xs, hk, rfl, rfl, HF, HO, HB⟩ := hrel
    have hxl : xs.length ≤ k := by
      have h1 := aboF_le (l.take k) own
      rw [HF.out, List.length_take] at h1
      omega
    by_cases hlt : k < l.length
    · have hst := abo_step l own k hlt
      rw [HF.out] at hst
      obtain ⟨b2, off, rfl⟩ : ∃ b2 off, a = some ⟨b2, off, none⟩ := by
        obtain ⟨b2, off, h, _⟩ := HV.out.at hlt
        exact ⟨b2, off, h⟩
      obtain ⟨y, hy⟩ : ∃ y, l.getD k zVw = y := ⟨_, rfl⟩
      rw [hy] at hst
      have HY := Lib.hid hy
      clear hy
      have kc : ∀ w', Below wr.heap.size wr w' → C7 w' b2 (off + k * 7) y ∧ Cells6 w' w.heap.size own.1 own.2.1 own.2.2.1 own.2.2.2.1 own.2.2.2.2.1 own.2.2.2.2.2 := fun w' hb => by
        have hb9 := HB.out.trans (hb.mono HB.out.size)
        have h1 := (HV.out.below hb9).all hlt
        rw [HY.out] at h1
        exact ⟨h1.2, (OV.out.below hb9).1⟩
      simp only [C7, Cells6] at kc
      have cX := fun W => rless_any own.1 own.2.1 own.2.2.1 own.2.2.2.1 own.2.2.2.2.1 own.2.2.2.2.2 y.2.1 y.2.2.1 y.2.2.2.1 y.2.2.2.2.1 y.2.2.2.2.2.1 y.2.2.2.2.2.2 W
      cases g3 : lsx own y.2 with
      | true =>
        rw [show lessB own.1 own.2.1 own.2.2.1 own.2.2.2.1 own.2.2.2.2.1 own.2.2.2.2.2 y.2.1 y.2.2.1 y.2.2.2.1 y.2.2.2.2.1 y.2.2.2.2.2.1 y.2.2.2.2.2.2 = true from g3] at cX
        rw [g3, if_pos rfl] at hst
        have HST := Lib.hid hst
        clear hst g3
        go_upto_region 5 with (fail)
        refine wp_region_typed (C := fun w' => Below wr.heap.size wr w') (X := fun w w' => Below w.heap.size w w') (n := 29) (by kernel_rfl) (by kernel_rfl) rfl (fun w => Below.refl _ w) (Below.refl _ _).drew ?_
        refine w_is (fun w => Below.refl _ w) _ (.inl rfl) (fun ρ w hC hc hfn hf => by have e3 : ρ (.tmp 3) = _ := hf 3 (by decide); (conv => lhs; simp [execOp, go_sem, hc, e3, kc w hC])) ?_
        refine w_is (fun w => Below.refl _ w) _ (.inl rfl) (fun ρ w hC hc hfn hf => by have e0 : ρ (.tmp 0) = _ := hf 0 (by decide); (conv => lhs; simp [execOp, go_sem, hc, e0])) ?_
        refine w_is (fun w => Below.refl _ w) _ (.inl rfl) (fun ρ w hC hc hfn hf => by have e6 : ρ (.tmp 6) = _ := hf 6 (by decide); (conv => lhs; simp [execOp, go_sem, hc, e6])) ?_
        refine w_is (fun w => Below.refl _ w) _ (.inl rfl) (fun ρ w hC hc hfn hf => by have e14 : ρ (.tmp 14) = _ := hf 14 (by decide); have e15 : ρ (.tmp 15) = _ := hf 15 (by decide); (conv => lhs; simp [execOp, go_sem, hc, e14, e15, hlt])) ?_
        refine w_is (fun w => Below.refl _ w) _ (.inl rfl) (fun ρ w hC hc hfn hf => by have e16 : ρ (.tmp 16) = _ := hf 16 (by decide); (conv => lhs; simp [execOp, go_sem, hc, e16])) ?_
        refine w_is (fun w => Below.refl _ w) _ (.inl rfl) (fun ρ w hC hc hfn hf => by have e17 : ρ (.tmp 17) = _ := hf 17 (by decide); (conv => lhs; simp [execOp, go_sem, hc, e17, kc w hC])) ?_
        refine w_call (Is _) (fun _ _ _ h _ => h) 39 (.inl rfl) (fun ρ w hC hc hfn hf => by have e13 : ρ (.tmp 13) = _ := hf 13 (by decide); have e18 : ρ (.tmp 18) = _ := hf 18 (by decide); exact ⟨_, by (conv => lhs; simp [execOp, resolve, invoke, go_sem, hc, hfn, e13, e18]), tc_below hC (cX w)⟩) ?_
        intro A V5 hC hn hd hf
        have y0 : A.eval (.tmp 0) = _ := Eq.trans (hf 0) (by conv => lhs; simp [go_sem])
        have y1 : A.eval (.tmp 1) = _ := Eq.trans (hf 1) (by conv => lhs; simp [go_sem])
        have y2 : A.eval (.tmp 2) = _ := Eq.trans (hf 2) (by conv => lhs; simp [go_sem])
        have y3 : A.eval (.tmp 3) = _ := Eq.trans (hf 3) (by conv => lhs; simp [go_sem])
        have y4 : A.eval (.tmp 4) = _ := Eq.trans (hf 4) (by conv => lhs; simp [go_sem])
        have y5 : A.eval (.tmp 5) = _ := Eq.trans (hf 5) (by conv => lhs; simp [go_sem])
        have y6 : A.eval (.tmp 6) = _ := Eq.trans (hf 6) (by conv => lhs; simp [go_sem])
        have y7 : A.eval (.tmp 7) = _ := Eq.trans (hf 7) (by conv => lhs; simp [go_sem])
        have y8 : A.eval (.tmp 8) = _ := Eq.trans (hf 8) (by conv => lhs; simp [go_sem])
        have y9 : A.eval (.tmp 9) = _ := Eq.trans (hf 9) (by conv => lhs; simp [go_sem])
        have y10 : A.eval (.tmp 10) = _ := Eq.trans (hf 10) (by conv => lhs; simp [go_sem])
        have y11 : A.eval (.tmp 11) = _ := Eq.trans (hf 11) (by conv => lhs; simp [go_sem])
        have y12 : A.eval (.tmp 12) = _ := Eq.trans (hf 12) (by conv => lhs; simp [go_sem])
        have y13 : A.eval (.tmp 13) = _ := hf 13
        have y14 : A.eval (.tmp 14) = _ := hf 14
        have y15 : A.eval (.tmp 15) = _ := hf 15
        have y16 : A.eval (.tmp 16) = _ := hf 16
        have y17 : A.eval (.tmp 17) = _ := hf 17
        have y18 : A.eval (.tmp 18) = _ := hf 18
        have y19 : A.eval (.tmp 19) = _ := hf 19
        have y20 : A.eval (.tmp 20) = _ := Eq.trans (hf 20) (by conv => lhs; simp [go_sem])
        have y21 : A.eval (.tmp 21) = _ := Eq.trans (hf 21) (by conv => lhs; simp [go_sem])
        have y22 : A.eval (.tmp 22) = _ := Eq.trans (hf 22) (by conv => lhs; simp [go_sem])
        have y23 : A.eval (.tmp 23) = _ := Eq.trans (hf 23) (by conv => lhs; simp [go_sem])
        have y24 : A.eval (.tmp 24) = _ := Eq.trans (hf 24) (by conv => lhs; simp [go_sem])
        have y25 : A.eval (.tmp 25) = _ := Eq.trans (hf 25) (by conv => lhs; simp [go_sem])
        have y26 : A.eval (.tmp 26) = _ := Eq.trans (hf 26) (by conv => lhs; simp [go_sem])
        have y27 : A.eval (.tmp 27) = _ := Eq.trans (hf 27) (by conv => lhs; simp [go_sem])
        have y28 : A.eval (.tmp 28) = _ := Eq.trans (hf 28) (by conv => lhs; simp [go_sem])
        clear hf
        have hA := frame_eq hn
        rw [show List.range 29 = [0, 1, 2, 3, 4, 5, 6, 7, 8, 9, 10, 11, 12, 13, 14, 15, 16, 17, 18, 19, 20, 21, 22, 23, 24, 25, 26, 27, 28] from rfl, hd] at hA
        simp only [List.map_cons, List.map_nil, y0, y1, y2, y3, y4, y5, y6, y7, y8, y9, y10, y11, y12, y13, y14, y15, y16, y17, y18, y19, y20, y21, y22, y23, y24, y25, y26, y27, y28] at hA
        clear y0 y1 y2 y3 y4 y5 y6 y7 y8 y9 y10 y11 y12 y13 y14 y15 y16 y17 y18 y19 y20 y21 y22 y23 y24 y25 y26 y27 y28
        clear hn hd
        subst hA
        have HB5 := Lib.hid (HB.out.trans (hC.mono HB.out.size))
        have HO5 := Lib.hid (HO.out.below hC)
        clear hC
        obtain ⟨hB8, p0, p1, p2, p3, p4, p5, p6⟩ := (HV.out.below HB5.out).all hlt
        rw [HY.out] at p0 p1 p2 p3 p4 p5 p6
        have HLE1 : Hid (xs.length ≤ 3000) := by show _ ≤ _; omega
        have HSW : Hid (w1.heap.size ≤ V5.heap.size) := HB5.out.size
        go_wp2_with (at_builtin; refine vapp1_any rfl (.tmp 20) (.tmp 25) rfl V5 y rfl w1.heap.size (.slice ax xs.length cx) xs rfl rfl HO5.out HLE1.out HSW.out ?_; intro g1 cap1 wa ho9 hb9; have HO1 := Lib.hid ho9; have HA1 := Lib.hid hb9; clear ho9 hb9)
        go_roundw
        case rel => exact ⟨k + 1, some ⟨g1, 0, none⟩, cap1, xs ++ [y], by omega, by go_num, by rw [List.length_append]; rfl, HST.out, by have h9 := HO1.out; rw [List.length_append]; exact h9, HB5.out.trans HA1.out⟩
        case measure => simp [intOf]; omega
      | false =>
        rw [show lessB own.1 own.2.1 own.2.2.1 own.2.2.2.1 own.2.2.2.2.1 own.2.2.2.2.2 y.2.1 y.2.2.1 y.2.2.2.1 y.2.2.2.2.1 y.2.2.2.2.2.1 y.2.2.2.2.2.2 = false from g3] at cX
        rw [g3, if_neg (by simp), List.append_nil] at hst
        have HST := Lib.hid hst
        clear hst g3
        go_upto_region 5 with (fail)
        refine wp_region_typed (C := fun w' => Below wr.heap.size wr w') (X := fun w w' => Below w.heap.size w w') (n := 29) (by kernel_rfl) (by kernel_rfl) rfl (fun w => Below.refl _ w) (Below.refl _ _).drew ?_
        refine w_is (fun w => Below.refl _ w) _ (.inl rfl) (fun ρ w hC hc hfn hf => by have e3 : ρ (.tmp 3) = _ := hf 3 (by decide); (conv => lhs; simp [execOp, go_sem, hc, e3, kc w hC])) ?_
        refine w_is (fun w => Below.refl _ w) _ (.inl rfl) (fun ρ w hC hc hfn hf => by have e0 : ρ (.tmp 0) = _ := hf 0 (by decide); (conv => lhs; simp [execOp, go_sem, hc, e0])) ?_
        refine w_is (fun w => Below.refl _ w) _ (.inl rfl) (fun ρ w hC hc hfn hf => by have e6 : ρ (.tmp 6) = _ := hf 6 (by decide); (conv => lhs; simp [execOp, go_sem, hc, e6])) ?_
        refine w_is (fun w => Below.refl _ w) _ (.inl rfl) (fun ρ w hC hc hfn hf => by have e14 : ρ (.tmp 14) = _ := hf 14 (by decide); have e15 : ρ (.tmp 15) = _ := hf 15 (by decide); (conv => lhs; simp [execOp, go_sem, hc, e14, e15, hlt])) ?_
        refine w_is (fun w => Below.refl _ w) _ (.inl rfl) (fun ρ w hC hc hfn hf => by have e16 : ρ (.tmp 16) = _ := hf 16 (by decide); (conv => lhs; simp [execOp, go_sem, hc, e16])) ?_
        refine w_is (fun w => Below.refl _ w) _ (.inl rfl) (fun ρ w hC hc hfn hf => by have e17 : ρ (.tmp 17) = _ := hf 17 (by decide); (conv => lhs; simp [execOp, go_sem, hc, e17, kc w hC])) ?_
        refine w_call (Is _) (fun _ _ _ h _ => h) 39 (.inl rfl) (fun ρ w hC hc hfn hf => by have e13 : ρ (.tmp 13) = _ := hf 13 (by decide); have e18 : ρ (.tmp 18) = _ := hf 18 (by decide); exact ⟨_, by (conv => lhs; simp [execOp, resolve, invoke, go_sem, hc, hfn, e13, e18]), tc_below hC (cX w)⟩) ?_
        intro A V5 hC hn hd hf
        have y0 : A.eval (.tmp 0) = _ := Eq.trans (hf 0) (by conv => lhs; simp [go_sem])
        have y1 : A.eval (.tmp 1) = _ := Eq.trans (hf 1) (by conv => lhs; simp [go_sem])
        have y2 : A.eval (.tmp 2) = _ := Eq.trans (hf 2) (by conv => lhs; simp [go_sem])
        have y3 : A.eval (.tmp 3) = _ := Eq.trans (hf 3) (by conv => lhs; simp [go_sem])
        have y4 : A.eval (.tmp 4) = _ := Eq.trans (hf 4) (by conv => lhs; simp [go_sem])
        have y5 : A.eval (.tmp 5) = _ := Eq.trans (hf 5) (by conv => lhs; simp [go_sem])
        have y6 : A.eval (.tmp 6) = _ := Eq.trans (hf 6) (by conv => lhs; simp [go_sem])
        have y7 : A.eval (.tmp 7) = _ := Eq.trans (hf 7) (by conv => lhs; simp [go_sem])
        have y8 : A.eval (.tmp 8) = _ := Eq.trans (hf 8) (by conv => lhs; simp [go_sem])
        have y9 : A.eval (.tmp 9) = _ := Eq.trans (hf 9) (by conv => lhs; simp [go_sem])
        have y10 : A.eval (.tmp 10) = _ := Eq.trans (hf 10) (by conv => lhs; simp [go_sem])
        have y11 : A.eval (.tmp 11) = _ := Eq.trans (hf 11) (by conv => lhs; simp [go_sem])
        have y12 : A.eval (.tmp 12) = _ := Eq.trans (hf 12) (by conv => lhs; simp [go_sem])
        have y13 : A.eval (.tmp 13) = _ := hf 13
        have y14 : A.eval (.tmp 14) = _ := hf 14
        have y15 : A.eval (.tmp 15) = _ := hf 15
        have y16 : A.eval (.tmp 16) = _ := hf 16
        have y17 : A.eval (.tmp 17) = _ := hf 17
        have y18 : A.eval (.tmp 18) = _ := hf 18
        have y19 : A.eval (.tmp 19) = _ := hf 19
        have y20 : A.eval (.tmp 20) = _ := Eq.trans (hf 20) (by conv => lhs; simp [go_sem])
        have y21 : A.eval (.tmp 21) = _ := Eq.trans (hf 21) (by conv => lhs; simp [go_sem])
        have y22 : A.eval (.tmp 22) = _ := Eq.trans (hf 22) (by conv => lhs; simp [go_sem])
        have y23 : A.eval (.tmp 23) = _ := Eq.trans (hf 23) (by conv => lhs; simp [go_sem])
        have y24 : A.eval (.tmp 24) = _ := Eq.trans (hf 24) (by conv => lhs; simp [go_sem])
        have y25 : A.eval (.tmp 25) = _ := Eq.trans (hf 25) (by conv => lhs; simp [go_sem])
        have y26 : A.eval (.tmp 26) = _ := Eq.trans (hf 26) (by conv => lhs; simp [go_sem])
        have y27 : A.eval (.tmp 27) = _ := Eq.trans (hf 27) (by conv => lhs; simp [go_sem])
        have y28 : A.eval (.tmp 28) = _ := Eq.trans (hf 28) (by conv => lhs; simp [go_sem])
        clear hf
        have hA := frame_eq hn
        rw [show List.range 29 = [0, 1, 2, 3, 4, 5, 6, 7, 8, 9, 10, 11, 12, 13, 14, 15, 16, 17, 18, 19, 20, 21, 22, 23, 24, 25, 26, 27, 28] from rfl, hd] at hA
        simp only [List.map_cons, List.map_nil, y0, y1, y2, y3, y4, y5, y6, y7, y8, y9, y10, y11, y12, y13, y14, y15, y16, y17, y18, y19, y20, y21, y22, y23, y24, y25, y26, y27, y28] at hA
        clear y0 y1 y2 y3 y4 y5 y6 y7 y8 y9 y10 y11 y12 y13 y14 y15 y16 y17 y18 y19 y20 y21 y22 y23 y24 y25 y26 y27 y28
        clear hn hd
        subst hA
        have HB5 := Lib.hid (HB.out.trans (hC.mono HB.out.size))
        have HO5 := Lib.hid (HO.out.below hC)
        clear hC
        go_wp2_with fail
        go_roundw
        case rel => exact ⟨k + 1, ax, cx, xs, by omega, by go_num, rfl, HST.out, HO5.out, HB5.out⟩
        case measure => simp [intOf]; omega
    · obtain rfl : k = l.length := by omega
      rw [List.take_length] at HF
      have C0 := rvord_any (.slice ax xs.length cx) xs wr HO.out.vs (by omega)
      obtain ⟨R, hR⟩ : ∃ R, aboV l own = R := ⟨_, rfl⟩
      rw [show (vordL xs).map (·.1) = R by rw [← hR, ← HF.out]; rfl] at C0
      have C1 := Lib.hid C0
      have HR := Lib.hid hR
      clear C0 hR
      have HBX := Lib.hid (HB0.out.trans (HB.out.mono HB0.out.size))
      go_wp2_with (go_at_call 42; refine C1.out.mono ?_; rintro e w5 ⟨⟨a5, c5, rfl, ho⟩, hb5⟩; have HO9 := Lib.hid (ho.mono HBX.out.size); have HB9 := Lib.hid (HBX.out.trans (hb5.mono HBX.out.size)); clear ho hb5 C1)
      go_ret
      rw [HR.out]
      exact ⟨⟨_, _, rfl, HO9.out⟩, HB9.out⟩
end Go.Proofs.Ytahhhegknmiinaa
