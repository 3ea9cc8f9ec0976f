/- slices.insertionSortCmpFunc of a row of ints, by a comparison that may be asked of later and elder ones. -/

import Derived.Test.YtmimgpnogjgliaaSk1
import Derived.Test.YtmimgpnogjgliaaTyped
import Derived.Test.YtmimgpnogjgliaaTyp2
import Derived.IntWalk
import Derived.BigRegion
import Derived.Shelf.RegionOpenPlain
import Derived.Deep.Cut
import Derived.Deep.CutBlock
namespace Go.Proofs.Ytmimgpnogjgliaa
set_option maxRecDepth 100000
open Go.RowKit

/-- What is asked of the comparison. -/
def CmpC (cbv : Value) (B : Nat) (w0 : World) (ok : Int → Prop) (cf : Int → Int → Int) : Prop := ∀ W x y, Below B w0 W → ok x → ok y → Calls Try.prog 62 #[.int .i64 x, .int .i64 y, cbv] W fun e w' => e = .returned (.int .i64 (cf x y)) ∧ Below W.heap.size W w'
theorem SX.cmp {ok : Int → Prop} {cf : Int → Int → Int} {B : Nat} {w0 w : World} {cbv : Value} {b off : Nat} {ds : List Int} (HC : CmpC cbv B w0 ok cf) (h : SX B w0 b off w ds) {x y : Int} (hx : ok x) (hy : ok y) :
    ∀ W, Below w.heap.size w W → Calls Try.prog 62 #[.int .i64 x, .int .i64 y, cbv] W fun e w' => e = .returned (.int .i64 (cf x y)) ∧ Below W.heap.size W w' :=
  fun W hb => HC W x y (h.low hb).bel hx hy
section
variable {ok : Int → Prop} {cf : Int → Int → Int} {lt : Int → Int → Prop} {B : Nat} {w0 : World} {cbv : Value} {b off n cap : Nat}
set_option maxHeartbeats 8000000 in
theorem isort_any (O : SOrd ok cf lt) (HC : CmpC cbv B w0 ok cf) (X M Z : List Int) (hM : M.Pairwise (· < ·)) (hok : ∀ y ∈ M, ok y) (w : World) (h : SX B w0 b off w (X ++ (M ++ Z))) (hn : n = X.length + M.length + Z.length) (hbig : n ≤ 100000) (a bb : Nat) (ha : a = X.length) (hbb : bb = a + M.length) :
    Calls Try.prog 71 #[.slice (some ⟨b, off, none⟩) n cap, .int .i64 a, .int .i64 bb, .func (.func 62) #[] #[cbv]] w fun e w' => e = .returned (.tuple #[]) ∧ ∃ S, SX B w0 b off w' (X ++ (S ++ Z)) ∧ Srt lt M S := by
  have mixed : Try.prog.follows .mixedOrders = true := by kernel_rfl
  have H := Lib.hid h
  have HO := Lib.hid O
  have HCC := Lib.hid HC
  have HM := Lib.hid hM
  have HOK := Lib.hid hok
  have HA := Lib.hid ha
  have r0 : IntKind.i64.wrap ((a : Int) + 1) = (a : Int) + 1 := by rw [IntKind.wrap_i64]; omega
  clear h O HC hM hok ha
  go_enter Try.func71, Try.ntmps71
  go_wp2_with fail
  go_loopw [8] (fun i wr => ∃ (k : Nat) (d : List Int), i = .int .i64 ((a : Int) + (k : Int)) ∧ 1 ≤ k ∧ k ≤ M.length + 1 ∧ Hid (SX B w0 b off wr d) ∧ Hid (Ins lt X M Z k d)) (fun i _ => bb + 1 - (intOf i).toNat)
  case atStart => exact ⟨1, X ++ (M ++ Z), rfl, Nat.le_refl _, by omega, H.out, Ins.start X M Z⟩
  case round =>
    obtain ⟨k, d, rfl, hk1, hk, HS, HI⟩ := hrel
    clear H
    have rk : IntKind.i64.wrap ((a : Int) + (k : Int) + 1) = (a : Int) + (k : Int) + 1 := by have ha := HA.out; rw [IntKind.wrap_i64]; omega
    by_cases hlt : k < M.length
    · have hltz : (a : Int) + (k : Int) < (bb : Int) := by omega
      obtain ⟨S, hSk, hS, hinn⟩ := HI.out.open hlt
      obtain ⟨x, hx⟩ : ∃ x, M.getD k 0 = x := ⟨_, rfl⟩
      obtain ⟨R, hR⟩ : ∃ R, M.drop (k + 1) ++ Z = R := ⟨_, rfl⟩
      rw [hx, hR, hSk] at hinn
      have HSS := Lib.hid hS
      have HINN := Lib.hid hinn
      have HX := Lib.hid hx
      have HR := Lib.hid hR
      clear hS hinn hx hR
      have HNX : ∀ q d', Hid (Inn lt X S x R q d') → (q = 0 ∨ (0 < q ∧ lt (S.getD (q - 1) 0) x)) → Hid (Ins lt X M Z (k + 1) d') := fun q d' h1 h2 => by
        have h3 := h1.out
        rw [← HX.out] at h2
        rw [← HX.out, ← HR.out] at h3
        exact Ins.next HO.out hlt HSS.out h3 h2
      have HNXH := Lib.hid HNX
      clear HNX HI
      go_wp2_with fail
      go_loopw [9] (fun j wr2 => ∃ (q : Nat) (d2 : List Int), j = .int .i64 ((a : Int) + (q : Int)) ∧ q ≤ k ∧ Hid (SX B w0 b off wr2 d2) ∧ Hid (Inn lt X S x R q d2)) (fun j _ => (intOf j).toNat)
      case atStart => exact ⟨k, d, rfl, Nat.le_refl _, HS, HINN⟩
      case round =>
        obtain ⟨q, d2, rfl, hq, HS2, HI2⟩ := hrel
        clear HS HINN
        cases q with
        | zero =>
          have hjaz : decide ((a : Int) + ((0 : Nat) : Int) > (a : Int)) = false := decide_eq_false (by omega)
          go_wp2_with fail
          go_big_region_o
          have HS3 := Lib.hid HS2.out.drew
          clear HS2
          generalize wr.drew = w2 at HS3 ⊢
          go_wp2_with fail
          go_roundw
          case rel => exact ⟨k + 1, d2, by simp only [Value.int.injEq, true_and]; omega, by omega, by omega, HS3, HNXH.out 0 d2 HI2 (.inl rfl)⟩
          case measure => simp [intOf]; omega
        | succ q =>
          have hln : d2.length = n := by
            have h1 := HI2.out.len
            have h2 : R.length = M.length - (k + 1) + Z.length := by rw [← HR.out]; simp
            have ha := HA.out
            omega
          obtain ⟨iN, hiN⟩ : ∃ iN, iN = a + q + 1 := ⟨_, rfl⟩
          obtain ⟨jN, hjN⟩ : ∃ jN, jN = a + q := ⟨_, rfl⟩
          obtain ⟨y, hy⟩ : ∃ y, S.getD q 0 = y := ⟨_, rfl⟩
          have l1 : d2.getD iN 0 = x := HI2.out.cur (by have ha := HA.out; omega)
          have l2 : d2.getD jN 0 = y := (HI2.out.back (by have ha := HA.out; omega)).trans hy
          obtain ⟨i1, i2, i3⟩ := ins_lt HM.out hlt HSS.out.1 (show q < S.length by omega)
          rw [hy, HX.out] at i1
          rw [hy] at i2
          rw [HX.out] at i3
          have HY := Lib.hid hy
          clear hy
          have hi1 : iN < d2.length := by have ha := HA.out; omega
          have hj1 : jN < d2.length := by have ha := HA.out; omega
          have hstep : lt x y → Hid (Inn lt X S x R q (swl d2 iN jN)) := fun hl => HI2.out.step (by rw [HY.out]; exact hl) (by have ha := HA.out; omega) (by have ha := HA.out; omega)
          have HST := Lib.hid hstep
          clear hstep
          have kc : ∀ w', Below wr.heap.size wr w' → w'.cell? ⟨b, off + iN, none⟩ = some (.int .i64 x) ∧ w'.cell? ⟨b, off + jN, none⟩ = some (.int .i64 y) := fun w' hb => by
            have h1 := (HS2.out.low hb).c (i := iN) hi1
            have h2 := (HS2.out.low hb).c (i := jN) hj1
            rw [l1] at h1
            rw [l2] at h2
            exact ⟨h1, h2⟩
          have cX := HS2.out.cmp HCC.out (HOK.out x i3) (HOK.out y i2)
          have hgt : (a : Int) < (a : Int) + ((q : Int) + 1) := by omega
          have e1 : ((a : Int) + ((q : Int) + 1)).toNat = iN := by have ha := HA.out; omega
          have p1 : (0 : Int) ≤ (a : Int) + ((q : Int) + 1) := by have ha := HA.out; omega
          have b1 : (a : Int) + ((q : Int) + 1) < (n : Int) := by have ha := HA.out; omega
          have r1 : IntKind.i64.wrap ((a : Int) + ((q : Int) + 1)) = (a : Int) + ((q : Int) + 1) := by rw [IntKind.wrap_i64]; have ha := HA.out; omega
          have e2 : ((a : Int) + ((q : Int) + 1) - 1).toNat = jN := by have ha := HA.out; omega
          have p2 : (0 : Int) ≤ (a : Int) + ((q : Int) + 1) - 1 := by have ha := HA.out; omega
          have b2 : (a : Int) + ((q : Int) + 1) - 1 < (n : Int) := by have ha := HA.out; omega
          have r2 : IntKind.i64.wrap ((a : Int) + ((q : Int) + 1) - 1) = (a : Int) + ((q : Int) + 1) - 1 := by rw [IntKind.wrap_i64]; have ha := HA.out; omega
          clear hiN hjN
          have o2 : (1 : Int) ≤ (a : Int) + ((q : Int) + 1) := by omega
          by_cases hv : cf x y < 0
          · have hl := HO.out.yes y x (HOK.out y i2) (HOK.out x i3) i1 hv
            go_upto_region 4 with (fail)
            refine wp_region_typed (C := fun w' => Below wr.heap.size wr w') (X := fun w w' => Below w.heap.size w w') (n := 53) (by kernel_rfl) (by kernel_rfl) rfl (fun w => Below.refl _ w) (Below.refl _ _).drew ?_
            refine w_is (fun w => Below.refl _ w) _ (.inl rfl) (fun ρ w hC hc hfn hf => by have e9 : ρ (.tmp 9) = _ := hf 9 (by decide); (conv => lhs; simp [execOp, go_sem, hc, e9])) ?_
            refine w_is (fun w => Below.refl _ w) _ (.inl rfl) (fun ρ w hC hc hfn hf => by have e1 : ρ (.tmp 1) = _ := hf 1 (by decide); (conv => lhs; simp [execOp, go_sem, hc, e1])) ?_
            refine w_is (fun w => Below.refl _ w) _ (.inl rfl) (fun ρ w hC hc hfn hf => by have e18 : ρ (.tmp 18) = _ := hf 18 (by decide); have e19 : ρ (.tmp 19) = _ := hf 19 (by decide); (conv => lhs; simp [execOp, go_sem, hc, e18, e19, hgt])) ?_
            refine w_is (fun w => Below.refl _ w) _ (.inl rfl) (fun ρ w hC hc hfn hf => by have e20 : ρ (.tmp 20) = _ := hf 20 (by decide); (conv => lhs; simp [execOp, go_sem, hc, e20])) ?_
            refine w_is (fun w => Below.refl _ w) _ (.inr ⟨3, 21, true, rfl, rfl, known_is rfl⟩) (fun ρ w hC hc hfn hf => by have e3 : ρ (.tmp 3) = _ := hf 3 (by decide); (conv => lhs; simp [execOp, go_sem, hc, e3])) ?_
            refine w_is (fun w => Below.refl _ w) _ (.inr ⟨3, 21, true, rfl, rfl, known_is rfl⟩) (fun ρ w hC hc hfn hf => by have e0 : ρ (.tmp 0) = _ := hf 0 (by decide); (conv => lhs; simp [execOp, go_sem, hc, e0])) ?_
            refine w_is (fun w => Below.refl _ w) _ (.inr ⟨3, 21, true, rfl, rfl, known_is rfl⟩) (fun ρ w hC hc hfn hf => by have e9 : ρ (.tmp 9) = _ := hf 9 (by decide); (conv => lhs; simp [execOp, go_sem, hc, e9])) ?_
            refine w_is (fun w => Below.refl _ w) _ (.inr ⟨3, 21, true, rfl, rfl, known_is rfl⟩) (fun ρ w hC hc hfn hf => by have e23 : ρ (.tmp 23) = _ := hf 23 (by decide); have e24 : ρ (.tmp 24) = _ := hf 24 (by decide); (conv => lhs; simp [execOp, go_sem, hc, e23, e24, e1, p1, b1])) ?_
            refine w_is (fun w => Below.refl _ w) _ (.inr ⟨3, 21, true, rfl, rfl, known_is rfl⟩) (fun ρ w hC hc hfn hf => by have e25 : ρ (.tmp 25) = _ := hf 25 (by decide); (conv => lhs; simp [execOp, go_sem, hc, e25, kc w hC])) ?_
            refine w_is (fun w => Below.refl _ w) _ (.inr ⟨3, 21, true, rfl, rfl, known_is rfl⟩) (fun ρ w hC hc hfn hf => by have e0 : ρ (.tmp 0) = _ := hf 0 (by decide); (conv => lhs; simp [execOp, go_sem, hc, e0])) ?_
            refine w_is (fun w => Below.refl _ w) _ (.inr ⟨3, 21, true, rfl, rfl, known_is rfl⟩) (fun ρ w hC hc hfn hf => by have e9 : ρ (.tmp 9) = _ := hf 9 (by decide); (conv => lhs; simp [execOp, go_sem, hc, e9])) ?_
            refine w_is (fun w => Below.refl _ w) _ (.inr ⟨3, 21, true, rfl, rfl, known_is rfl⟩) (fun ρ w hC hc hfn hf => by have e28 : ρ (.tmp 28) = _ := hf 28 (by decide); (conv => lhs; simp [execOp, go_sem, hc, e28, r2])) ?_
            refine w_is (fun w => Below.refl _ w) _ (.inr ⟨3, 21, true, rfl, rfl, known_is rfl⟩) (fun ρ w hC hc hfn hf => by have e27 : ρ (.tmp 27) = _ := hf 27 (by decide); have e29 : ρ (.tmp 29) = _ := hf 29 (by decide); (conv => lhs; simp [execOp, go_sem, hc, e27, e29, r2, e2, o2, b2])) ?_
            refine w_is (fun w => Below.refl _ w) _ (.inr ⟨3, 21, true, rfl, rfl, known_is rfl⟩) (fun ρ w hC hc hfn hf => by have e30 : ρ (.tmp 30) = _ := hf 30 (by decide); (conv => lhs; simp [execOp, go_sem, hc, e30, kc w hC])) ?_
            refine w_call (Is _) (fun _ _ _ h _ => h) 62 (.inr ⟨3, 21, true, rfl, rfl, known_is rfl⟩) (fun ρ w hC hc hfn hf => by have e22 : ρ (.tmp 22) = _ := hf 22 (by decide); have e26 : ρ (.tmp 26) = _ := hf 26 (by decide); have e31 : ρ (.tmp 31) = _ := hf 31 (by decide); exact ⟨_, by (conv => lhs; simp [execOp, resolve, invoke, go_sem, hc, hfn, e22, e26, e31]), tc_below hC (cX w hC)⟩) ?_
            refine w_is (fun w => Below.refl _ w) _ (.inr ⟨3, 21, true, rfl, rfl, known_is rfl⟩) (fun ρ w hC hc hfn hf => by have e32 : ρ (.tmp 32) = _ := hf 32 (by decide); (conv => lhs; simp [execOp, go_sem, hc, e32, hv])) ?_
            refine w_is (fun w => Below.refl _ w) _ (.inl rfl) (fun ρ w hC hc hfn hf => by have e21 : ρ (.tmp 21) = _ := hf 21 (by decide); have e33 : ρ (.tmp 33) = _ := hf 33 (by decide); (conv => lhs; simp [execOp, go_sem, hc, e21, e33])) ?_
            intro A V5 hC hn hd hf
            have y0 : A.eval (.tmp 0) = _ := Eq.trans (hf 0) (by conv => lhs; simp [go_sem])
            have y1 : A.eval (.tmp 1) = _ := Eq.trans (hf 1) (by conv => lhs; simp [go_sem])
            have y2 : A.eval (.tmp 2) = _ := Eq.trans (hf 2) (by conv => lhs; simp [go_sem])
            have y3 : A.eval (.tmp 3) = _ := Eq.trans (hf 3) (by conv => lhs; simp [go_sem])
            have y4 : A.eval (.tmp 4) = _ := Eq.trans (hf 4) (by conv => lhs; simp [go_sem])
            have y5 : A.eval (.tmp 5) = _ := Eq.trans (hf 5) (by conv => lhs; simp [go_sem])
            have y6 : A.eval (.tmp 6) = _ := Eq.trans (hf 6) (by conv => lhs; simp [go_sem])
            have y7 : A.eval (.tmp 7) = _ := Eq.trans (hf 7) (by conv => lhs; simp [go_sem])
            have y8 : A.eval (.tmp 8) = _ := Eq.trans (hf 8) (by conv => lhs; simp [go_sem])
            have y9 : A.eval (.tmp 9) = _ := Eq.trans (hf 9) (by conv => lhs; simp [go_sem])
            have y10 : A.eval (.tmp 10) = _ := Eq.trans (hf 10) (by conv => lhs; simp [go_sem])
            have y11 : A.eval (.tmp 11) = _ := Eq.trans (hf 11) (by conv => lhs; simp [go_sem])
            have y12 : A.eval (.tmp 12) = _ := Eq.trans (hf 12) (by conv => lhs; simp [go_sem])
            have y13 : A.eval (.tmp 13) = _ := Eq.trans (hf 13) (by conv => lhs; simp [go_sem])
            have y14 : A.eval (.tmp 14) = _ := Eq.trans (hf 14) (by conv => lhs; simp [go_sem])
            have y15 : A.eval (.tmp 15) = _ := Eq.trans (hf 15) (by conv => lhs; simp [go_sem])
            have y16 : A.eval (.tmp 16) = _ := Eq.trans (hf 16) (by conv => lhs; simp [go_sem])
            have y17 : A.eval (.tmp 17) = _ := Eq.trans (hf 17) (by conv => lhs; simp [go_sem])
            have y18 : A.eval (.tmp 18) = _ := hf 18
            have y19 : A.eval (.tmp 19) = _ := hf 19
            have y20 : A.eval (.tmp 20) = _ := hf 20
            have y21 : A.eval (.tmp 21) = _ := hf 21
            have y22 : A.eval (.tmp 22) = _ := hf 22
            have y23 : A.eval (.tmp 23) = _ := hf 23
            have y24 : A.eval (.tmp 24) = _ := hf 24
            have y25 : A.eval (.tmp 25) = _ := hf 25
            have y26 : A.eval (.tmp 26) = _ := hf 26
            have y27 : A.eval (.tmp 27) = _ := hf 27
            have y28 : A.eval (.tmp 28) = _ := hf 28
            have y29 : A.eval (.tmp 29) = _ := hf 29
            have y30 : A.eval (.tmp 30) = _ := hf 30
            have y31 : A.eval (.tmp 31) = _ := hf 31
            have y32 : A.eval (.tmp 32) = _ := hf 32
            have y33 : A.eval (.tmp 33) = _ := hf 33
            have y34 : A.eval (.tmp 34) = _ := hf 34
            have y35 : A.eval (.tmp 35) = _ := Eq.trans (hf 35) (by conv => lhs; simp [go_sem])
            have y36 : A.eval (.tmp 36) = _ := Eq.trans (hf 36) (by conv => lhs; simp [go_sem])
            have y37 : A.eval (.tmp 37) = _ := Eq.trans (hf 37) (by conv => lhs; simp [go_sem])
            have y38 : A.eval (.tmp 38) = _ := Eq.trans (hf 38) (by conv => lhs; simp [go_sem])
            have y39 : A.eval (.tmp 39) = _ := Eq.trans (hf 39) (by conv => lhs; simp [go_sem])
            have y40 : A.eval (.tmp 40) = _ := Eq.trans (hf 40) (by conv => lhs; simp [go_sem])
            have y41 : A.eval (.tmp 41) = _ := Eq.trans (hf 41) (by conv => lhs; simp [go_sem])
            have y42 : A.eval (.tmp 42) = _ := Eq.trans (hf 42) (by conv => lhs; simp [go_sem])
            have y43 : A.eval (.tmp 43) = _ := Eq.trans (hf 43) (by conv => lhs; simp [go_sem])
            have y44 : A.eval (.tmp 44) = _ := Eq.trans (hf 44) (by conv => lhs; simp [go_sem])
            have y45 : A.eval (.tmp 45) = _ := Eq.trans (hf 45) (by conv => lhs; simp [go_sem])
            have y46 : A.eval (.tmp 46) = _ := Eq.trans (hf 46) (by conv => lhs; simp [go_sem])
            have y47 : A.eval (.tmp 47) = _ := Eq.trans (hf 47) (by conv => lhs; simp [go_sem])
            have y48 : A.eval (.tmp 48) = _ := Eq.trans (hf 48) (by conv => lhs; simp [go_sem])
            have y49 : A.eval (.tmp 49) = _ := Eq.trans (hf 49) (by conv => lhs; simp [go_sem])
            have y50 : A.eval (.tmp 50) = _ := Eq.trans (hf 50) (by conv => lhs; simp [go_sem])
            have y51 : A.eval (.tmp 51) = _ := Eq.trans (hf 51) (by conv => lhs; simp [go_sem])
            have y52 : A.eval (.tmp 52) = _ := Eq.trans (hf 52) (by conv => lhs; simp [go_sem])
            clear hf
            have hA := frame_eq hn
            rw [show List.range 53 = [0, 1, 2, 3, 4, 5, 6, 7, 8, 9, 10, 11, 12, 13, 14, 15, 16, 17, 18, 19, 20, 21, 22, 23, 24, 25, 26, 27, 28, 29, 30, 31, 32, 33, 34, 35, 36, 37, 38, 39, 40, 41, 42, 43, 44, 45, 46, 47, 48, 49, 50, 51, 52] from rfl, hd] at hA
            simp only [List.map_cons, List.map_nil, y0, y1, y2, y3, y4, y5, y6, y7, y8, y9, y10, y11, y12, y13, y14, y15, y16, y17, y18, y19, y20, y21, y22, y23, y24, y25, y26, y27, y28, y29, y30, y31, y32, y33, y34, y35, y36, y37, y38, y39, y40, y41, y42, y43, y44, y45, y46, y47, y48, y49, y50, y51, y52] at hA
            clear y0 y1 y2 y3 y4 y5 y6 y7 y8 y9 y10 y11 y12 y13 y14 y15 y16 y17 y18 y19 y20 y21 y22 y23 y24 y25 y26 y27 y28 y29 y30 y31 y32 y33 y34 y35 y36 y37 y38 y39 y40 y41 y42 y43 y44 y45 y46 y47 y48 y49 y50 y51 y52
            clear hn hd
            subst hA
            have HS3 := Lib.hid (HS2.out.low hC)
            clear HS2 hC kc cX
            go_wp2_with fail
            have c1 := HS3.out.c (i := iN) hi1
            have c2 := HS3.out.c (i := jN) hj1
            have f1 := HS3.out.f (i := iN) hi1
            have f2 := HS3.out.f (i := jN) hj1
            have HS4 := HS3.out.swap (i := iN) (j := jN) hi1 hj1
            obtain ⟨u3, c3⟩ := HS3.out.c2 (i := iN) (j := jN) hi1 hj1 (.int .i64 y)
            rw [l1] at c1 HS4
            rw [l2] at c2 HS4
            clear HS3
            have HS5 := Lib.hid HS4.drew
            clear HS4
            go_big_region_o
            clear c1 c2 c3 f1 f2 e1 e2
            generalize ((V5.setCell ⟨b, off + iN, none⟩ (.int .i64 y)).setCell ⟨b, off + jN, none⟩ (.int .i64 x)).drew = w3 at HS5 ⊢
            go_wp2_with fail
            go_roundw
            case rel => exact ⟨q, swl d2 iN jN, by simp only [Value.int.injEq, true_and]; omega, by omega, HS5, HST.out hl⟩
            case measure => simp [intOf]; omega
          · have hl := HO.out.no y x (HOK.out y i2) (HOK.out x i3) i1 hv
            go_upto_region 4 with (fail)
            refine wp_region_typed (C := fun w' => Below wr.heap.size wr w') (X := fun w w' => Below w.heap.size w w') (n := 53) (by kernel_rfl) (by kernel_rfl) rfl (fun w => Below.refl _ w) (Below.refl _ _).drew ?_
            refine w_is (fun w => Below.refl _ w) _ (.inl rfl) (fun ρ w hC hc hfn hf => by have e9 : ρ (.tmp 9) = _ := hf 9 (by decide); (conv => lhs; simp [execOp, go_sem, hc, e9])) ?_
            refine w_is (fun w => Below.refl _ w) _ (.inl rfl) (fun ρ w hC hc hfn hf => by have e1 : ρ (.tmp 1) = _ := hf 1 (by decide); (conv => lhs; simp [execOp, go_sem, hc, e1])) ?_
            refine w_is (fun w => Below.refl _ w) _ (.inl rfl) (fun ρ w hC hc hfn hf => by have e18 : ρ (.tmp 18) = _ := hf 18 (by decide); have e19 : ρ (.tmp 19) = _ := hf 19 (by decide); (conv => lhs; simp [execOp, go_sem, hc, e18, e19, hgt])) ?_
            refine w_is (fun w => Below.refl _ w) _ (.inl rfl) (fun ρ w hC hc hfn hf => by have e20 : ρ (.tmp 20) = _ := hf 20 (by decide); (conv => lhs; simp [execOp, go_sem, hc, e20])) ?_
            refine w_is (fun w => Below.refl _ w) _ (.inr ⟨3, 21, true, rfl, rfl, known_is rfl⟩) (fun ρ w hC hc hfn hf => by have e3 : ρ (.tmp 3) = _ := hf 3 (by decide); (conv => lhs; simp [execOp, go_sem, hc, e3])) ?_
            refine w_is (fun w => Below.refl _ w) _ (.inr ⟨3, 21, true, rfl, rfl, known_is rfl⟩) (fun ρ w hC hc hfn hf => by have e0 : ρ (.tmp 0) = _ := hf 0 (by decide); (conv => lhs; simp [execOp, go_sem, hc, e0])) ?_
            refine w_is (fun w => Below.refl _ w) _ (.inr ⟨3, 21, true, rfl, rfl, known_is rfl⟩) (fun ρ w hC hc hfn hf => by have e9 : ρ (.tmp 9) = _ := hf 9 (by decide); (conv => lhs; simp [execOp, go_sem, hc, e9])) ?_
            refine w_is (fun w => Below.refl _ w) _ (.inr ⟨3, 21, true, rfl, rfl, known_is rfl⟩) (fun ρ w hC hc hfn hf => by have e23 : ρ (.tmp 23) = _ := hf 23 (by decide); have e24 : ρ (.tmp 24) = _ := hf 24 (by decide); (conv => lhs; simp [execOp, go_sem, hc, e23, e24, e1, p1, b1])) ?_
            refine w_is (fun w => Below.refl _ w) _ (.inr ⟨3, 21, true, rfl, rfl, known_is rfl⟩) (fun ρ w hC hc hfn hf => by have e25 : ρ (.tmp 25) = _ := hf 25 (by decide); (conv => lhs; simp [execOp, go_sem, hc, e25, kc w hC])) ?_
            refine w_is (fun w => Below.refl _ w) _ (.inr ⟨3, 21, true, rfl, rfl, known_is rfl⟩) (fun ρ w hC hc hfn hf => by have e0 : ρ (.tmp 0) = _ := hf 0 (by decide); (conv => lhs; simp [execOp, go_sem, hc, e0])) ?_
            refine w_is (fun w => Below.refl _ w) _ (.inr ⟨3, 21, true, rfl, rfl, known_is rfl⟩) (fun ρ w hC hc hfn hf => by have e9 : ρ (.tmp 9) = _ := hf 9 (by decide); (conv => lhs; simp [execOp, go_sem, hc, e9])) ?_
            refine w_is (fun w => Below.refl _ w) _ (.inr ⟨3, 21, true, rfl, rfl, known_is rfl⟩) (fun ρ w hC hc hfn hf => by have e28 : ρ (.tmp 28) = _ := hf 28 (by decide); (conv => lhs; simp [execOp, go_sem, hc, e28, r2])) ?_
            refine w_is (fun w => Below.refl _ w) _ (.inr ⟨3, 21, true, rfl, rfl, known_is rfl⟩) (fun ρ w hC hc hfn hf => by have e27 : ρ (.tmp 27) = _ := hf 27 (by decide); have e29 : ρ (.tmp 29) = _ := hf 29 (by decide); (conv => lhs; simp [execOp, go_sem, hc, e27, e29, r2, e2, o2, b2])) ?_
            refine w_is (fun w => Below.refl _ w) _ (.inr ⟨3, 21, true, rfl, rfl, known_is rfl⟩) (fun ρ w hC hc hfn hf => by have e30 : ρ (.tmp 30) = _ := hf 30 (by decide); (conv => lhs; simp [execOp, go_sem, hc, e30, kc w hC])) ?_
            refine w_call (Is _) (fun _ _ _ h _ => h) 62 (.inr ⟨3, 21, true, rfl, rfl, known_is rfl⟩) (fun ρ w hC hc hfn hf => by have e22 : ρ (.tmp 22) = _ := hf 22 (by decide); have e26 : ρ (.tmp 26) = _ := hf 26 (by decide); have e31 : ρ (.tmp 31) = _ := hf 31 (by decide); exact ⟨_, by (conv => lhs; simp [execOp, resolve, invoke, go_sem, hc, hfn, e22, e26, e31]), tc_below hC (cX w hC)⟩) ?_
            refine w_is (fun w => Below.refl _ w) _ (.inr ⟨3, 21, true, rfl, rfl, known_is rfl⟩) (fun ρ w hC hc hfn hf => by have e32 : ρ (.tmp 32) = _ := hf 32 (by decide); (conv => lhs; simp [execOp, go_sem, hc, e32, hv])) ?_
            refine w_is (fun w => Below.refl _ w) _ (.inl rfl) (fun ρ w hC hc hfn hf => by have e21 : ρ (.tmp 21) = _ := hf 21 (by decide); have e33 : ρ (.tmp 33) = _ := hf 33 (by decide); (conv => lhs; simp [execOp, go_sem, hc, e21, e33])) ?_
            intro A V5 hC hn hd hf
            have y0 : A.eval (.tmp 0) = _ := Eq.trans (hf 0) (by conv => lhs; simp [go_sem])
            have y1 : A.eval (.tmp 1) = _ := Eq.trans (hf 1) (by conv => lhs; simp [go_sem])
            have y2 : A.eval (.tmp 2) = _ := Eq.trans (hf 2) (by conv => lhs; simp [go_sem])
            have y3 : A.eval (.tmp 3) = _ := Eq.trans (hf 3) (by conv => lhs; simp [go_sem])
            have y4 : A.eval (.tmp 4) = _ := Eq.trans (hf 4) (by conv => lhs; simp [go_sem])
            have y5 : A.eval (.tmp 5) = _ := Eq.trans (hf 5) (by conv => lhs; simp [go_sem])
            have y6 : A.eval (.tmp 6) = _ := Eq.trans (hf 6) (by conv => lhs; simp [go_sem])
            have y7 : A.eval (.tmp 7) = _ := Eq.trans (hf 7) (by conv => lhs; simp [go_sem])
            have y8 : A.eval (.tmp 8) = _ := Eq.trans (hf 8) (by conv => lhs; simp [go_sem])
            have y9 : A.eval (.tmp 9) = _ := Eq.trans (hf 9) (by conv => lhs; simp [go_sem])
            have y10 : A.eval (.tmp 10) = _ := Eq.trans (hf 10) (by conv => lhs; simp [go_sem])
            have y11 : A.eval (.tmp 11) = _ := Eq.trans (hf 11) (by conv => lhs; simp [go_sem])
            have y12 : A.eval (.tmp 12) = _ := Eq.trans (hf 12) (by conv => lhs; simp [go_sem])
            have y13 : A.eval (.tmp 13) = _ := Eq.trans (hf 13) (by conv => lhs; simp [go_sem])
            have y14 : A.eval (.tmp 14) = _ := Eq.trans (hf 14) (by conv => lhs; simp [go_sem])
            have y15 : A.eval (.tmp 15) = _ := Eq.trans (hf 15) (by conv => lhs; simp [go_sem])
            have y16 : A.eval (.tmp 16) = _ := Eq.trans (hf 16) (by conv => lhs; simp [go_sem])
            have y17 : A.eval (.tmp 17) = _ := Eq.trans (hf 17) (by conv => lhs; simp [go_sem])
            have y18 : A.eval (.tmp 18) = _ := hf 18
            have y19 : A.eval (.tmp 19) = _ := hf 19
            have y20 : A.eval (.tmp 20) = _ := hf 20
            have y21 : A.eval (.tmp 21) = _ := hf 21
            have y22 : A.eval (.tmp 22) = _ := hf 22
            have y23 : A.eval (.tmp 23) = _ := hf 23
            have y24 : A.eval (.tmp 24) = _ := hf 24
            have y25 : A.eval (.tmp 25) = _ := hf 25
            have y26 : A.eval (.tmp 26) = _ := hf 26
            have y27 : A.eval (.tmp 27) = _ := hf 27
            have y28 : A.eval (.tmp 28) = _ := hf 28
            have y29 : A.eval (.tmp 29) = _ := hf 29
            have y30 : A.eval (.tmp 30) = _ := hf 30
            have y31 : A.eval (.tmp 31) = _ := hf 31
            have y32 : A.eval (.tmp 32) = _ := hf 32
            have y33 : A.eval (.tmp 33) = _ := hf 33
            have y34 : A.eval (.tmp 34) = _ := hf 34
            have y35 : A.eval (.tmp 35) = _ := Eq.trans (hf 35) (by conv => lhs; simp [go_sem])
            have y36 : A.eval (.tmp 36) = _ := Eq.trans (hf 36) (by conv => lhs; simp [go_sem])
            have y37 : A.eval (.tmp 37) = _ := Eq.trans (hf 37) (by conv => lhs; simp [go_sem])
            have y38 : A.eval (.tmp 38) = _ := Eq.trans (hf 38) (by conv => lhs; simp [go_sem])
            have y39 : A.eval (.tmp 39) = _ := Eq.trans (hf 39) (by conv => lhs; simp [go_sem])
            have y40 : A.eval (.tmp 40) = _ := Eq.trans (hf 40) (by conv => lhs; simp [go_sem])
            have y41 : A.eval (.tmp 41) = _ := Eq.trans (hf 41) (by conv => lhs; simp [go_sem])
            have y42 : A.eval (.tmp 42) = _ := Eq.trans (hf 42) (by conv => lhs; simp [go_sem])
            have y43 : A.eval (.tmp 43) = _ := Eq.trans (hf 43) (by conv => lhs; simp [go_sem])
            have y44 : A.eval (.tmp 44) = _ := Eq.trans (hf 44) (by conv => lhs; simp [go_sem])
            have y45 : A.eval (.tmp 45) = _ := Eq.trans (hf 45) (by conv => lhs; simp [go_sem])
            have y46 : A.eval (.tmp 46) = _ := Eq.trans (hf 46) (by conv => lhs; simp [go_sem])
            have y47 : A.eval (.tmp 47) = _ := Eq.trans (hf 47) (by conv => lhs; simp [go_sem])
            have y48 : A.eval (.tmp 48) = _ := Eq.trans (hf 48) (by conv => lhs; simp [go_sem])
            have y49 : A.eval (.tmp 49) = _ := Eq.trans (hf 49) (by conv => lhs; simp [go_sem])
            have y50 : A.eval (.tmp 50) = _ := Eq.trans (hf 50) (by conv => lhs; simp [go_sem])
            have y51 : A.eval (.tmp 51) = _ := Eq.trans (hf 51) (by conv => lhs; simp [go_sem])
            have y52 : A.eval (.tmp 52) = _ := Eq.trans (hf 52) (by conv => lhs; simp [go_sem])
            clear hf
            have hA := frame_eq hn
            rw [show List.range 53 = [0, 1, 2, 3, 4, 5, 6, 7, 8, 9, 10, 11, 12, 13, 14, 15, 16, 17, 18, 19, 20, 21, 22, 23, 24, 25, 26, 27, 28, 29, 30, 31, 32, 33, 34, 35, 36, 37, 38, 39, 40, 41, 42, 43, 44, 45, 46, 47, 48, 49, 50, 51, 52] from rfl, hd] at hA
            simp only [List.map_cons, List.map_nil, y0, y1, y2, y3, y4, y5, y6, y7, y8, y9, y10, y11, y12, y13, y14, y15, y16, y17, y18, y19, y20, y21, y22, y23, y24, y25, y26, y27, y28, y29, y30, y31, y32, y33, y34, y35, y36, y37, y38, y39, y40, y41, y42, y43, y44, y45, y46, y47, y48, y49, y50, y51, y52] at hA
            clear y0 y1 y2 y3 y4 y5 y6 y7 y8 y9 y10 y11 y12 y13 y14 y15 y16 y17 y18 y19 y20 y21 y22 y23 y24 y25 y26 y27 y28 y29 y30 y31 y32 y33 y34 y35 y36 y37 y38 y39 y40 y41 y42 y43 y44 y45 y46 y47 y48 y49 y50 y51 y52
            clear hn hd
            subst hA
            have HS3 := Lib.hid (HS2.out.low hC)
            clear HS2 hC kc cX
            go_wp2_with fail
            go_roundw
            case rel => exact ⟨k + 1, d2, by simp only [Value.int.injEq, true_and]; omega, by omega, by omega, HS3, HNXH.out (q + 1) d2 HI2 (.inr ⟨Nat.succ_pos _, by rw [Nat.add_sub_cancel, HY.out]; exact hl⟩)⟩
            case measure => simp [intOf]; omega
    · have hltz : ¬ (a : Int) + (k : Int) < (bb : Int) := by omega
      obtain ⟨S, rfl, hs⟩ := HI.out.fin (by omega)
      go_wp2_with fail
      go_end0
      exact ⟨rfl, S, HS.out, hs⟩
end
end Go.Proofs.Ytmimgpnogjgliaa

