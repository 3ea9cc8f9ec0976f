/- Rows of batches: the reference's Same. No conditions but on lengths. -/
import Derived.Test.YticjeknadddhoaaOps
namespace Go.Proofs.Yticjeknadddhoaa
set_option maxRecDepth 100000
open Go.RowKit Go.Sort

theorem same_fix (v u : Value) (ys zs : List Ob) (q : Bool) (hq : q = true ↔ ys = zs) (w : World) (hy : Os w v ys) (hz : Os w u zs) (hl : ys.length ≤ 3000) :
    Calls Try.prog 20 #[v, u] w fun e w' => e = .returned (.bool q) ∧ Below w.heap.size w w' :=
  (same_any v u ys zs w hy hz hl).mono fun e w' ⟨⟨b, h1, h2⟩, h3⟩ => ⟨by rw [h1, show b = q by rw [Bool.eq_iff_iff]; exact h2.trans hq.symm], h3⟩
set_option maxHeartbeats 16000000 in
theorem bsame_any (v u : Value) (xs zs : List (Int × List Ob)) (w : World) (hx : Bts w v xs) (hz : Bts w u zs) (hl : xs.length ≤ 3000) (hin : ∀ i, i < xs.length → (xs.getD i zb).2.length ≤ 3000) :
    Calls Try.prog 13 #[v, u] w fun e w' => (∃ b : Bool, e = .returned (.bool b) ∧ (b = true ↔ xs = zs)) ∧ Below w.heap.size w w' := by
  obtain ⟨a, c, rfl⟩ := hx.form
  obtain ⟨a', c', rfl⟩ := hz.form
  have HX := Lib.hid hx
  have HZ := Lib.hid hz
  have HI := Lib.hid hin
  clear hx hz hin
  by_cases hne : xs.length = zs.length
  · have hne' : ((xs.length : Int) == (zs.length : Int)) = true := by rw [beq_iff_eq]; omega
    have HN := Lib.hid hne
    clear hne
    go_enter Try.func13, Try.ntmps13
    go_wp2_with fail
    go_loopw [5] (fun i wr => ∃ k : Nat, k ≤ xs.length ∧ i = .int .i64 k ∧ (∀ i, i < k → xs.getD i zb = zs.getD i zb) ∧ Below w.heap.size w wr) (fun i _ => xs.length - (intOf i).toNat)
    case atStart => exact ⟨0, Nat.zero_le _, rfl, fun i h => absurd h (Nat.not_lt_zero _), Below.refl _ _⟩
    case round =>
      obtain ⟨k, hk, rfl, hsame, hbel⟩ := hrel
      have HS := Lib.hid hsame
      have HB := Lib.hid hbel
      clear hsame hbel
      obtain ⟨wo, hwo⟩ : ∃ wo, wo = wr := ⟨_, rfl⟩
      subst hwo
      by_cases hlt : k < xs.length
      · obtain ⟨b, off, rfl, n1, s1, t1, o1⟩ := (HX.out.below HB.out).at hlt
        have hlt2 : k < zs.length := by have := HN.out; omega
        obtain ⟨b2, off2, rfl, n2, s2, t2, o2⟩ := (HZ.out.below HB.out).at hlt2
        have HL := Lib.hid (HI.out k hlt)
        obtain ⟨⟨M1, ys⟩, hyk⟩ : ∃ y, xs.getD k zb = y := ⟨_, rfl⟩
        obtain ⟨⟨M2, ws⟩, hzk⟩ : ∃ z, zs.getD k zb = z := ⟨_, rfl⟩
        rw [hyk] at n1 o1 HL
        rw [hzk] at n2 o2
        simp only at n1 o1 n2 o2
        obtain ⟨a1, c1, rfl⟩ := o1.form
        obtain ⟨a2, c2', rfl⟩ := o2.form
        have HK := Lib.hid hyk
        have HK2 := Lib.hid hzk
        obtain ⟨q, hq⟩ : ∃ q : Bool, (q = true ↔ ys = ws) := by
          by_cases h : ys = ws
          · exact ⟨true, by simp [h]⟩
          · exact ⟨false, by simp [h]⟩
        have cS : ∀ w', Below wo.heap.size wo w' → Calls Try.prog 20 #[.slice a1 ys.length c1, .slice a2 ws.length c2'] w' fun e w'' => e = .returned (.bool q) ∧ Below w'.heap.size w' w'' := fun w' h => same_fix _ _ ys ws q hq w' (o1.below h) (o2.below h) HL.out
        have kc : ∀ w', Below wo.heap.size wo w' → w'.cell? ⟨b, off + k * 2, none⟩ = some (.int .i64 M1) ∧ w'.cell? ⟨b, off + k * 2 + 1, none⟩ = some (.slice a1 ys.length c1) ∧ w'.cell? ⟨b2, off2 + k * 2, none⟩ = some (.int .i64 M2) ∧ w'.cell? ⟨b2, off2 + k * 2 + 1, none⟩ = some (.slice a2 ws.length c2') := fun w' h =>
          ⟨by rw [h.cell (World.block_lt_of_cell? wo _ n1)]; exact n1, by rw [h.cell (World.block_lt_of_cell? wo _ t1)]; exact t1, by rw [h.cell (World.block_lt_of_cell? wo _ n2)]; exact n2, by rw [h.cell (World.block_lt_of_cell? wo _ t2)]; exact t2⟩
        have HQ := Lib.hid hq
        have hk0 : (0 : Int) ≤ (k : Int) := by omega
        have hk1 : (k : Int) < (xs.length : Int) := by omega
        have hk2 : (k : Int) < (zs.length : Int) := by omega
        have hkn : ((k : Int)).toNat = k := Int.toNat_natCast k
        clear o1 o2 hyk hzk hq
        go_wp2_with fail
        by_cases hMM : M1 = M2
        · have hNM : (M1 != M2) = false := by simpa using hMM
          have HM := Lib.hid hMM
          clear hMM
          refine wp_region_typed (C := fun w' => Below wo.heap.size wo w') (X := fun w w' => Below w.heap.size w w') (n := 42) (by kernel_rfl) (by kernel_rfl) rfl (fun w => Below.refl _ w) (Below.refl _ _).drew ?_
          refine w_is (fun w => Below.refl _ w) _ (.inl rfl) (fun ρ w hC hc hfn hf => by have e0 : ρ (.tmp 0) = _ := hf 0 (by decide); (conv => lhs; simp [execOp, go_sem, hc, e0])) ?_
          refine w_is (fun w => Below.refl _ w) _ (.inl rfl) (fun ρ w hC hc hfn hf => by have e5 : ρ (.tmp 5) = _ := hf 5 (by decide); (conv => lhs; simp [execOp, go_sem, hc, e5])) ?_
          refine w_is (fun w => Below.refl _ w) _ (.inl rfl) (fun ρ w hC hc hfn hf => by have e17 : ρ (.tmp 17) = _ := hf 17 (by decide); have e18 : ρ (.tmp 18) = _ := hf 18 (by decide); (conv => lhs; simp [execOp, go_sem, hc, e17, e18, hk0, hk1, hk2, hkn])) ?_
          refine w_is (fun w => Below.refl _ w) _ (.inl rfl) (fun ρ w hC hc hfn hf => by have e19 : ρ (.tmp 19) = _ := hf 19 (by decide); (conv => lhs; simp [execOp, go_sem, hc, e19])) ?_
          refine w_is (fun w => Below.refl _ w) _ (.inl rfl) (fun ρ w hC hc hfn hf => by have e20 : ρ (.tmp 20) = _ := hf 20 (by decide); (conv => lhs; simp [execOp, go_sem, hc, e20, kc w hC])) ?_
          refine w_is (fun w => Below.refl _ w) _ (.inl rfl) (fun ρ w hC hc hfn hf => by have e1 : ρ (.tmp 1) = _ := hf 1 (by decide); (conv => lhs; simp [execOp, go_sem, hc, e1])) ?_
          refine w_is (fun w => Below.refl _ w) _ (.inl rfl) (fun ρ w hC hc hfn hf => by have e5 : ρ (.tmp 5) = _ := hf 5 (by decide); (conv => lhs; simp [execOp, go_sem, hc, e5])) ?_
          refine w_is (fun w => Below.refl _ w) _ (.inl rfl) (fun ρ w hC hc hfn hf => by have e22 : ρ (.tmp 22) = _ := hf 22 (by decide); have e23 : ρ (.tmp 23) = _ := hf 23 (by decide); (conv => lhs; simp [execOp, go_sem, hc, e22, e23, hk0, hk1, hk2, hkn])) ?_
          refine w_is (fun w => Below.refl _ w) _ (.inl rfl) (fun ρ w hC hc hfn hf => by have e24 : ρ (.tmp 24) = _ := hf 24 (by decide); (conv => lhs; simp [execOp, go_sem, hc, e24])) ?_
          refine w_is (fun w => Below.refl _ w) _ (.inl rfl) (fun ρ w hC hc hfn hf => by have e25 : ρ (.tmp 25) = _ := hf 25 (by decide); (conv => lhs; simp [execOp, go_sem, hc, e25, kc w hC])) ?_
          refine w_is (fun w => Below.refl _ w) _ (.inl rfl) (fun ρ w hC hc hfn hf => by have e21 : ρ (.tmp 21) = _ := hf 21 (by decide); have e26 : ρ (.tmp 26) = _ := hf 26 (by decide); (conv => lhs; simp [execOp, go_sem, hc, e21, e26, hNM])) ?_
          refine w_is (fun w => Below.refl _ w) _ (.inl rfl) (fun ρ w hC hc hfn hf => by have e27 : ρ (.tmp 27) = _ := hf 27 (by decide); (conv => lhs; simp [execOp, go_sem, hc, e27])) ?_
          refine w_is (fun w => Below.refl _ w) _ (.inr ⟨11, 28, false, rfl, rfl, known_is rfl⟩) (fun ρ w hC hc hfn hf => by have e0 : ρ (.tmp 0) = _ := hf 0 (by decide); (conv => lhs; simp [execOp, go_sem, hc, e0])) ?_
          refine w_is (fun w => Below.refl _ w) _ (.inr ⟨11, 28, false, rfl, rfl, known_is rfl⟩) (fun ρ w hC hc hfn hf => by have e5 : ρ (.tmp 5) = _ := hf 5 (by decide); (conv => lhs; simp [execOp, go_sem, hc, e5])) ?_
          refine w_is (fun w => Below.refl _ w) _ (.inr ⟨11, 28, false, rfl, rfl, known_is rfl⟩) (fun ρ w hC hc hfn hf => by have e29 : ρ (.tmp 29) = _ := hf 29 (by decide); have e30 : ρ (.tmp 30) = _ := hf 30 (by decide); (conv => lhs; simp [execOp, go_sem, hc, e29, e30, hk0, hk1, hk2, hkn])) ?_
          refine w_is (fun w => Below.refl _ w) _ (.inr ⟨11, 28, false, rfl, rfl, known_is rfl⟩) (fun ρ w hC hc hfn hf => by have e31 : ρ (.tmp 31) = _ := hf 31 (by decide); (conv => lhs; simp [execOp, go_sem, hc, e31])) ?_
          refine w_is (fun w => Below.refl _ w) _ (.inr ⟨11, 28, false, rfl, rfl, known_is rfl⟩) (fun ρ w hC hc hfn hf => by have e32 : ρ (.tmp 32) = _ := hf 32 (by decide); (conv => lhs; simp [execOp, go_sem, hc, e32, kc w hC])) ?_
          refine w_is (fun w => Below.refl _ w) _ (.inr ⟨11, 28, false, rfl, rfl, known_is rfl⟩) (fun ρ w hC hc hfn hf => by have e1 : ρ (.tmp 1) = _ := hf 1 (by decide); (conv => lhs; simp [execOp, go_sem, hc, e1])) ?_
          refine w_is (fun w => Below.refl _ w) _ (.inr ⟨11, 28, false, rfl, rfl, known_is rfl⟩) (fun ρ w hC hc hfn hf => by have e5 : ρ (.tmp 5) = _ := hf 5 (by decide); (conv => lhs; simp [execOp, go_sem, hc, e5])) ?_
          refine w_is (fun w => Below.refl _ w) _ (.inr ⟨11, 28, false, rfl, rfl, known_is rfl⟩) (fun ρ w hC hc hfn hf => by have e34 : ρ (.tmp 34) = _ := hf 34 (by decide); have e35 : ρ (.tmp 35) = _ := hf 35 (by decide); (conv => lhs; simp [execOp, go_sem, hc, e34, e35, hk0, hk1, hk2, hkn])) ?_
          refine w_is (fun w => Below.refl _ w) _ (.inr ⟨11, 28, false, rfl, rfl, known_is rfl⟩) (fun ρ w hC hc hfn hf => by have e36 : ρ (.tmp 36) = _ := hf 36 (by decide); (conv => lhs; simp [execOp, go_sem, hc, e36])) ?_
          refine w_is (fun w => Below.refl _ w) _ (.inr ⟨11, 28, false, rfl, rfl, known_is rfl⟩) (fun ρ w hC hc hfn hf => by have e37 : ρ (.tmp 37) = _ := hf 37 (by decide); (conv => lhs; simp [execOp, go_sem, hc, e37, kc w hC])) ?_
          refine w_call (Is _) (fun _ _ _ h _ => h) 20 (.inr ⟨11, 28, false, rfl, rfl, known_is rfl⟩) (fun ρ w hC hc hfn hf => by have e33 : ρ (.tmp 33) = _ := hf 33 (by decide); have e38 : ρ (.tmp 38) = _ := hf 38 (by decide); exact ⟨_, by (conv => lhs; simp [execOp, resolve, invoke, go_sem, hc, hfn, e33, e38]), tc_below hC (cS w hC)⟩) ?_
          refine w_is (fun w => Below.refl _ w) _ (.inr ⟨11, 28, false, rfl, rfl, known_is rfl⟩) (fun ρ w hC hc hfn hf => by have e39 : ρ (.tmp 39) = _ := hf 39 (by decide); (conv => lhs; simp [execOp, go_sem, hc, e39])) ?_
          refine w_is (fun w => Below.refl _ w) _ (.inl rfl) (fun ρ w hC hc hfn hf => by have e28 : ρ (.tmp 28) = _ := hf 28 (by decide); have e40 : ρ (.tmp 40) = _ := hf 40 (by decide); (conv => lhs; simp [execOp, go_sem, hc, e28, e40])) ?_
          intro A V5 hC hn hd hf
          have y0 : A.eval (.tmp 0) = _ := Eq.trans (hf 0) (by conv => lhs; simp [go_sem])
          have y1 : A.eval (.tmp 1) = _ := Eq.trans (hf 1) (by conv => lhs; simp [go_sem])
          have y2 : A.eval (.tmp 2) = _ := Eq.trans (hf 2) (by conv => lhs; simp [go_sem])
          have y3 : A.eval (.tmp 3) = _ := Eq.trans (hf 3) (by conv => lhs; simp [go_sem])
          have y4 : A.eval (.tmp 4) = _ := Eq.trans (hf 4) (by conv => lhs; simp [go_sem])
          have y5 : A.eval (.tmp 5) = _ := Eq.trans (hf 5) (by conv => lhs; simp [go_sem])
          have y6 : A.eval (.tmp 6) = _ := Eq.trans (hf 6) (by conv => lhs; simp [go_sem])
          have y7 : A.eval (.tmp 7) = _ := Eq.trans (hf 7) (by conv => lhs; simp [go_sem])
          have y8 : A.eval (.tmp 8) = _ := Eq.trans (hf 8) (by conv => lhs; simp [go_sem])
          have y9 : A.eval (.tmp 9) = _ := Eq.trans (hf 9) (by conv => lhs; simp [go_sem])
          have y10 : A.eval (.tmp 10) = _ := Eq.trans (hf 10) (by conv => lhs; simp [go_sem])
          have y11 : A.eval (.tmp 11) = _ := Eq.trans (hf 11) (by conv => lhs; simp [go_sem])
          have y12 : A.eval (.tmp 12) = _ := Eq.trans (hf 12) (by conv => lhs; simp [go_sem])
          have y13 : A.eval (.tmp 13) = _ := Eq.trans (hf 13) (by conv => lhs; simp [go_sem])
          have y14 : A.eval (.tmp 14) = _ := Eq.trans (hf 14) (by conv => lhs; simp [go_sem])
          have y15 : A.eval (.tmp 15) = _ := Eq.trans (hf 15) (by conv => lhs; simp [go_sem])
          have y16 : A.eval (.tmp 16) = _ := Eq.trans (hf 16) (by conv => lhs; simp [go_sem])
          have y17 : A.eval (.tmp 17) = _ := hf 17
          have y18 : A.eval (.tmp 18) = _ := hf 18
          have y19 : A.eval (.tmp 19) = _ := hf 19
          have y20 : A.eval (.tmp 20) = _ := hf 20
          have y21 : A.eval (.tmp 21) = _ := hf 21
          have y22 : A.eval (.tmp 22) = _ := hf 22
          have y23 : A.eval (.tmp 23) = _ := hf 23
          have y24 : A.eval (.tmp 24) = _ := hf 24
          have y25 : A.eval (.tmp 25) = _ := hf 25
          have y26 : A.eval (.tmp 26) = _ := hf 26
          have y27 : A.eval (.tmp 27) = _ := hf 27
          have y28 : A.eval (.tmp 28) = _ := hf 28
          have y29 : A.eval (.tmp 29) = _ := hf 29
          have y30 : A.eval (.tmp 30) = _ := hf 30
          have y31 : A.eval (.tmp 31) = _ := hf 31
          have y32 : A.eval (.tmp 32) = _ := hf 32
          have y33 : A.eval (.tmp 33) = _ := hf 33
          have y34 : A.eval (.tmp 34) = _ := hf 34
          have y35 : A.eval (.tmp 35) = _ := hf 35
          have y36 : A.eval (.tmp 36) = _ := hf 36
          have y37 : A.eval (.tmp 37) = _ := hf 37
          have y38 : A.eval (.tmp 38) = _ := hf 38
          have y39 : A.eval (.tmp 39) = _ := hf 39
          have y40 : A.eval (.tmp 40) = _ := hf 40
          have y41 : A.eval (.tmp 41) = _ := hf 41
          clear hf
          have hA := frame_eq hn
          rw [show List.range 42 = [0, 1, 2, 3, 4, 5, 6, 7, 8, 9, 10, 11, 12, 13, 14, 15, 16, 17, 18, 19, 20, 21, 22, 23, 24, 25, 26, 27, 28, 29, 30, 31, 32, 33, 34, 35, 36, 37, 38, 39, 40, 41] from rfl, hd] at hA
          simp only [List.map_cons, List.map_nil, y0, y1, y2, y3, y4, y5, y6, y7, y8, y9, y10, y11, y12, y13, y14, y15, y16, y17, y18, y19, y20, y21, y22, y23, y24, y25, y26, y27, y28, y29, y30, y31, y32, y33, y34, y35, y36, y37, y38, y39, y40, y41] at hA
          clear y0 y1 y2 y3 y4 y5 y6 y7 y8 y9 y10 y11 y12 y13 y14 y15 y16 y17 y18 y19 y20 y21 y22 y23 y24 y25 y26 y27 y28 y29 y30 y31 y32 y33 y34 y35 y36 y37 y38 y39 y40 y41
          clear hn hd
          subst hA
          cases q with
          | true =>
            go_wp2_with fail
            go_roundw
            case rel =>
              refine ⟨k + 1, by omega, by go_num, ?_, HB.out.trans (hC.mono HB.out.size)⟩
              intro j hj
              by_cases h : j < k
              · exact HS.out j h
              · obtain rfl : j = k := by omega
                exact (HK.out.trans (by rw [HM.out, HQ.out.1 (by simp)])).trans HK2.out.symm
            case measure => simp [intOf]; omega
          | false =>
            go_wp2_with fail
            go_ret
            refine ⟨⟨false, rfl, ⟨(fun h => by cases h), fun h => ?_⟩⟩, HB.out.trans (hC.mono HB.out.size)⟩
            subst h
            have h := HK.out.symm.trans HK2.out
            exact absurd (HQ.out.2 (congrArg Prod.snd h)) (by decide)
        · have hNM : (M1 != M2) = true := by simpa using hMM
          have HM := Lib.hid hMM
          clear hMM
          refine wp_region_typed (C := fun w' => Below wo.heap.size wo w') (X := fun w w' => Below w.heap.size w w') (n := 42) (by kernel_rfl) (by kernel_rfl) rfl (fun w => Below.refl _ w) (Below.refl _ _).drew ?_
          refine w_is (fun w => Below.refl _ w) _ (.inl rfl) (fun ρ w hC hc hfn hf => by have e0 : ρ (.tmp 0) = _ := hf 0 (by decide); (conv => lhs; simp [execOp, go_sem, hc, e0])) ?_
          refine w_is (fun w => Below.refl _ w) _ (.inl rfl) (fun ρ w hC hc hfn hf => by have e5 : ρ (.tmp 5) = _ := hf 5 (by decide); (conv => lhs; simp [execOp, go_sem, hc, e5])) ?_
          refine w_is (fun w => Below.refl _ w) _ (.inl rfl) (fun ρ w hC hc hfn hf => by have e17 : ρ (.tmp 17) = _ := hf 17 (by decide); have e18 : ρ (.tmp 18) = _ := hf 18 (by decide); (conv => lhs; simp [execOp, go_sem, hc, e17, e18, hk0, hk1, hk2, hkn])) ?_
          refine w_is (fun w => Below.refl _ w) _ (.inl rfl) (fun ρ w hC hc hfn hf => by have e19 : ρ (.tmp 19) = _ := hf 19 (by decide); (conv => lhs; simp [execOp, go_sem, hc, e19])) ?_
          refine w_is (fun w => Below.refl _ w) _ (.inl rfl) (fun ρ w hC hc hfn hf => by have e20 : ρ (.tmp 20) = _ := hf 20 (by decide); (conv => lhs; simp [execOp, go_sem, hc, e20, kc w hC])) ?_
          refine w_is (fun w => Below.refl _ w) _ (.inl rfl) (fun ρ w hC hc hfn hf => by have e1 : ρ (.tmp 1) = _ := hf 1 (by decide); (conv => lhs; simp [execOp, go_sem, hc, e1])) ?_
          refine w_is (fun w => Below.refl _ w) _ (.inl rfl) (fun ρ w hC hc hfn hf => by have e5 : ρ (.tmp 5) = _ := hf 5 (by decide); (conv => lhs; simp [execOp, go_sem, hc, e5])) ?_
          refine w_is (fun w => Below.refl _ w) _ (.inl rfl) (fun ρ w hC hc hfn hf => by have e22 : ρ (.tmp 22) = _ := hf 22 (by decide); have e23 : ρ (.tmp 23) = _ := hf 23 (by decide); (conv => lhs; simp [execOp, go_sem, hc, e22, e23, hk0, hk1, hk2, hkn])) ?_
          refine w_is (fun w => Below.refl _ w) _ (.inl rfl) (fun ρ w hC hc hfn hf => by have e24 : ρ (.tmp 24) = _ := hf 24 (by decide); (conv => lhs; simp [execOp, go_sem, hc, e24])) ?_
          refine w_is (fun w => Below.refl _ w) _ (.inl rfl) (fun ρ w hC hc hfn hf => by have e25 : ρ (.tmp 25) = _ := hf 25 (by decide); (conv => lhs; simp [execOp, go_sem, hc, e25, kc w hC])) ?_
          refine w_is (fun w => Below.refl _ w) _ (.inl rfl) (fun ρ w hC hc hfn hf => by have e21 : ρ (.tmp 21) = _ := hf 21 (by decide); have e26 : ρ (.tmp 26) = _ := hf 26 (by decide); (conv => lhs; simp [execOp, go_sem, hc, e21, e26, hNM])) ?_
          refine w_is (fun w => Below.refl _ w) _ (.inl rfl) (fun ρ w hC hc hfn hf => by have e27 : ρ (.tmp 27) = _ := hf 27 (by decide); (conv => lhs; simp [execOp, go_sem, hc, e27])) ?_
          refine w_skip rfl rfl (known_is rfl) ?_
          refine w_skip rfl rfl (known_is rfl) ?_
          refine w_skip rfl rfl (known_is rfl) ?_
          refine w_skip rfl rfl (known_is rfl) ?_
          refine w_skip rfl rfl (known_is rfl) ?_
          refine w_skip rfl rfl (known_is rfl) ?_
          refine w_skip rfl rfl (known_is rfl) ?_
          refine w_skip rfl rfl (known_is rfl) ?_
          refine w_skip rfl rfl (known_is rfl) ?_
          refine w_skip rfl rfl (known_is rfl) ?_
          refine w_skip rfl rfl (known_is rfl) ?_
          refine w_skip rfl rfl (known_is rfl) ?_
          refine w_is (fun w => Below.refl _ w) _ (.inl rfl) (fun ρ w hC hc hfn hf => by have e28 : ρ (.tmp 28) = _ := hf 28 (by decide); have e40 : ρ (.tmp 40) = _ := hf 40 (by decide); (conv => lhs; simp [execOp, go_sem, hc, e28, e40])) ?_
          intro A V5 hC hn hd hf
          have y0 : A.eval (.tmp 0) = _ := Eq.trans (hf 0) (by conv => lhs; simp [go_sem])
          have y1 : A.eval (.tmp 1) = _ := Eq.trans (hf 1) (by conv => lhs; simp [go_sem])
          have y2 : A.eval (.tmp 2) = _ := Eq.trans (hf 2) (by conv => lhs; simp [go_sem])
          have y3 : A.eval (.tmp 3) = _ := Eq.trans (hf 3) (by conv => lhs; simp [go_sem])
          have y4 : A.eval (.tmp 4) = _ := Eq.trans (hf 4) (by conv => lhs; simp [go_sem])
          have y5 : A.eval (.tmp 5) = _ := Eq.trans (hf 5) (by conv => lhs; simp [go_sem])
          have y6 : A.eval (.tmp 6) = _ := Eq.trans (hf 6) (by conv => lhs; simp [go_sem])
          have y7 : A.eval (.tmp 7) = _ := Eq.trans (hf 7) (by conv => lhs; simp [go_sem])
          have y8 : A.eval (.tmp 8) = _ := Eq.trans (hf 8) (by conv => lhs; simp [go_sem])
          have y9 : A.eval (.tmp 9) = _ := Eq.trans (hf 9) (by conv => lhs; simp [go_sem])
          have y10 : A.eval (.tmp 10) = _ := Eq.trans (hf 10) (by conv => lhs; simp [go_sem])
          have y11 : A.eval (.tmp 11) = _ := Eq.trans (hf 11) (by conv => lhs; simp [go_sem])
          have y12 : A.eval (.tmp 12) = _ := Eq.trans (hf 12) (by conv => lhs; simp [go_sem])
          have y13 : A.eval (.tmp 13) = _ := Eq.trans (hf 13) (by conv => lhs; simp [go_sem])
          have y14 : A.eval (.tmp 14) = _ := Eq.trans (hf 14) (by conv => lhs; simp [go_sem])
          have y15 : A.eval (.tmp 15) = _ := Eq.trans (hf 15) (by conv => lhs; simp [go_sem])
          have y16 : A.eval (.tmp 16) = _ := Eq.trans (hf 16) (by conv => lhs; simp [go_sem])
          have y17 : A.eval (.tmp 17) = _ := hf 17
          have y18 : A.eval (.tmp 18) = _ := hf 18
          have y19 : A.eval (.tmp 19) = _ := hf 19
          have y20 : A.eval (.tmp 20) = _ := hf 20
          have y21 : A.eval (.tmp 21) = _ := hf 21
          have y22 : A.eval (.tmp 22) = _ := hf 22
          have y23 : A.eval (.tmp 23) = _ := hf 23
          have y24 : A.eval (.tmp 24) = _ := hf 24
          have y25 : A.eval (.tmp 25) = _ := hf 25
          have y26 : A.eval (.tmp 26) = _ := hf 26
          have y27 : A.eval (.tmp 27) = _ := hf 27
          have y28 : A.eval (.tmp 28) = _ := hf 28
          have y29 : A.eval (.tmp 29) = _ := hf 29
          have y30 : A.eval (.tmp 30) = _ := hf 30
          have y31 : A.eval (.tmp 31) = _ := hf 31
          have y32 : A.eval (.tmp 32) = _ := hf 32
          have y33 : A.eval (.tmp 33) = _ := hf 33
          have y34 : A.eval (.tmp 34) = _ := hf 34
          have y35 : A.eval (.tmp 35) = _ := hf 35
          have y36 : A.eval (.tmp 36) = _ := hf 36
          have y37 : A.eval (.tmp 37) = _ := hf 37
          have y38 : A.eval (.tmp 38) = _ := hf 38
          have y39 : A.eval (.tmp 39) = _ := hf 39
          have y40 : A.eval (.tmp 40) = _ := hf 40
          have y41 : A.eval (.tmp 41) = _ := hf 41
          clear hf
          have hA := frame_eq hn
          rw [show List.range 42 = [0, 1, 2, 3, 4, 5, 6, 7, 8, 9, 10, 11, 12, 13, 14, 15, 16, 17, 18, 19, 20, 21, 22, 23, 24, 25, 26, 27, 28, 29, 30, 31, 32, 33, 34, 35, 36, 37, 38, 39, 40, 41] from rfl, hd] at hA
          simp only [List.map_cons, List.map_nil, y0, y1, y2, y3, y4, y5, y6, y7, y8, y9, y10, y11, y12, y13, y14, y15, y16, y17, y18, y19, y20, y21, y22, y23, y24, y25, y26, y27, y28, y29, y30, y31, y32, y33, y34, y35, y36, y37, y38, y39, y40, y41] at hA
          clear y0 y1 y2 y3 y4 y5 y6 y7 y8 y9 y10 y11 y12 y13 y14 y15 y16 y17 y18 y19 y20 y21 y22 y23 y24 y25 y26 y27 y28 y29 y30 y31 y32 y33 y34 y35 y36 y37 y38 y39 y40 y41
          clear hn hd
          subst hA
          go_wp2_with fail
          go_ret
          refine ⟨⟨false, rfl, ⟨(fun h => by cases h), fun h => ?_⟩⟩, HB.out.trans (hC.mono HB.out.size)⟩
          subst h
          have h := HK.out.symm.trans HK2.out
          exact absurd (congrArg Prod.fst h) HM.out
      · obtain rfl : k = xs.length := by omega
        go_wp2_with fail
        go_ret
        exact ⟨⟨true, rfl, ⟨fun _ => brow_ext HN.out HS.out, fun _ => rfl⟩⟩, HB.out⟩
  · have hne' : ((xs.length : Int) == (zs.length : Int)) = false := by rw [beq_eq_false_iff_ne]; omega
    have HN := Lib.hid hne
    clear hne
    go_enter Try.func13, Try.ntmps13
    go_wp2_with fail
    go_ret
    exact ⟨⟨false, rfl, ⟨(fun h => by cases h), fun h => absurd (congrArg List.length h) HN.out⟩⟩, Below.refl _ _⟩
end Go.Proofs.Yticjeknadddhoaa

