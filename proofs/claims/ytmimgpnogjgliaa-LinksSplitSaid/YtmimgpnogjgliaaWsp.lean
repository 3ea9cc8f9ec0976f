/- thalweglaw18.LinksSplit: for any views and height the law answers true; no condition. -/
import Derived.Test.YtmimgpnogjgliaaRb
import Derived.Test.YtmimgpnogjgliaaMa
import Derived.Test.YtmimgpnogjgliaaVb
import Derived.Test.YtmimgpnogjgliaaPb
import Derived.Test.YtmimgpnogjgliaaPd
import Derived.WalkLawsBesides
import Derived.WalkKit
import Derived.ProofKit
import Derived.OpenShut
import Derived.ShutString
import Derived.ChangeOld
import Derived.Below
namespace Go.Proofs.Ytmimgpnogjgliaa.linksSplit
open Go.ChangeShapes Go.WideShapes Go.ChangeAt Go.RowKit
open Go.ChangeMaps (open_string shut_string)
set_option linter.unusedVariables false
set_option maxRecDepth 100000

theorem own : ownKnob Try.prog.godebug = none := by kernel_rfl
theorem laidOut : laidOutB Try.prog = true := by kernel_rfl
set_option maxHeartbeats 16000000 in
theorem walk0 (a0 : Option Addr) (cap0 : Nat) (z0 : List Vw) (x1 : Hx) (w : World) (r0 : Vs w (.slice a0 z0.length cap0) z0) :
    Calls Try.prog 5 #[.slice a0 z0.length cap0, hxV x1] w fun e w' => e = .returned (.bool true) ∧ Below w.heap.size w w' := by
  have HB : Hid (Below w.heap.size w w) := Below.refl _ _
  have H0 := Lib.hid r0
  clear r0
  by_cases hl : 80 < z0.length
  · have hl' : (80 : Int) < (z0.length : Int) := by omega
    clear hl
    go_enter Try.func5, Try.ntmps5
    obtain ⟨W1, hW⟩ : ∃ W1, w.alloc (.cells #[.bool x1.1, .int .i64 x1.2.1, .int .i64 x1.2.2.1, .int .i64 x1.2.2.2.1, .int .i64 x1.2.2.2.2.1, .int .i64 x1.2.2.2.2.2] 24) = W1 := ⟨_, rfl⟩
    have hb : Below w.heap.size w W1 := hW ▸ (Below.refl _ w).alloc (Nat.le_refl _) _
    have X1 := Lib.hid (hW ▸ own6_alloc w x1.1 x1.2.1 x1.2.2.1 x1.2.2.2.1 x1.2.2.2.2.1 x1.2.2.2.2.2 24 w.heap.size rfl : Own6 W1 w.heap.size x1.1 x1.2.1 x1.2.2.1 x1.2.2.2.1 x1.2.2.2.2.1 x1.2.2.2.2.2)
    have HW := Lib.hid hW
    clear hW
    go_upto_region 1 with (fail)
    change Code.wp _ _ _ _ (w.alloc (.cells #[.bool x1.1, .int .i64 x1.2.1, .int .i64 x1.2.2.1, .int .i64 x1.2.2.2.1, .int .i64 x1.2.2.2.2.1, .int .i64 x1.2.2.2.2.2] 24))
    rw [HW.out]
    replace H0 := Lib.hid (H0.out.below hb)
    replace HB := Lib.hid (HB.out.trans (hb.mono HB.out.size))
    clear hb HW
    obtain ⟨⟨u0, u1, u2, u3, u4, u5⟩, -⟩ := X1.out
    go_wp2_with fail
    refine (awake18 _).mono ?_
    rintro e W2 ⟨rfl, hb⟩
    replace H0 := Lib.hid (H0.out.below hb)
    replace X1 := Lib.hid (X1.out.below hb)
    replace HB := Lib.hid (HB.out.trans (hb.mono HB.out.size))
    clear hb
    go_wp2_with fail
    go_ret
    exact ⟨rfl, HB.out⟩
  · have hl' : ¬ (80 : Int) < (z0.length : Int) := by omega
    have HL : Hid (z0.length ≤ 80) := by show _ ≤ _; omega
    clear hl
    by_cases hok : VOk z0
    · have hc0 : chkV z0 = 0 := by unfold chkV; rw [if_pos hok]
      have HOK := Lib.hid hok
      have C0 := Lib.hid (fun W h => vchk_any (.slice a0 z0.length cap0) z0 W h (Nat.le_trans HL.out (by decide)))
      rw [hc0] at C0
      clear hok hc0
      by_cases ho : HtOk x1.1 x1.2.1 x1.2.2.1 x1.2.2.2.1 x1.2.2.2.2.1 x1.2.2.2.2.2
      · have CC := Lib.hid (fun W => check_any x1.1 x1.2.1 x1.2.2.1 x1.2.2.2.1 x1.2.2.2.2.1 x1.2.2.2.2.2 W)
        rw [chk_ok ho] at CC
        have HHO := Lib.hid ho
        clear ho
        go_enter Try.func5, Try.ntmps5
        obtain ⟨W1, hW⟩ : ∃ W1, w.alloc (.cells #[.bool x1.1, .int .i64 x1.2.1, .int .i64 x1.2.2.1, .int .i64 x1.2.2.2.1, .int .i64 x1.2.2.2.2.1, .int .i64 x1.2.2.2.2.2] 24) = W1 := ⟨_, rfl⟩
        have hb : Below w.heap.size w W1 := hW ▸ (Below.refl _ w).alloc (Nat.le_refl _) _
        have X1 := Lib.hid (hW ▸ own6_alloc w x1.1 x1.2.1 x1.2.2.1 x1.2.2.2.1 x1.2.2.2.2.1 x1.2.2.2.2.2 24 w.heap.size rfl : Own6 W1 w.heap.size x1.1 x1.2.1 x1.2.2.1 x1.2.2.2.1 x1.2.2.2.2.1 x1.2.2.2.2.2)
        have HW := Lib.hid hW
        clear hW
        go_upto_region 1 with (fail)
        change Code.wp _ _ _ _ (w.alloc (.cells #[.bool x1.1, .int .i64 x1.2.1, .int .i64 x1.2.2.1, .int .i64 x1.2.2.2.1, .int .i64 x1.2.2.2.2.1, .int .i64 x1.2.2.2.2.2] 24))
        rw [HW.out]
        replace H0 := Lib.hid (H0.out.below hb)
        replace HB := Lib.hid (HB.out.trans (hb.mono HB.out.size))
        clear hb HW
        obtain ⟨⟨u0, u1, u2, u3, u4, u5⟩, -⟩ := X1.out
        go_wp2_with fail
        refine (C0.out _ H0.out).mono ?_
        rintro e W2 ⟨rfl, hb⟩
        replace H0 := Lib.hid (H0.out.below hb)
        replace X1 := Lib.hid (X1.out.below hb)
        replace HB := Lib.hid (HB.out.trans (hb.mono HB.out.size))
        clear hb
        clear u0 u1 u2 u3 u4 u5
        obtain ⟨⟨u0, u1, u2, u3, u4, u5⟩, -⟩ := X1.out
        go_wp2_with fail
        refine (CC.out _).mono ?_
        rintro e W3 ⟨rfl, hb⟩
        replace H0 := Lib.hid (H0.out.below hb)
        replace X1 := Lib.hid (X1.out.below hb)
        replace HB := Lib.hid (HB.out.trans (hb.mono HB.out.size))
        clear hb
        clear u0 u1 u2 u3 u4 u5
        obtain ⟨⟨u0, u1, u2, u3, u4, u5⟩, -⟩ := X1.out
        clear CC C0 hl'
        go_wp2_with fail
        refine (ldown_any _ z0 x1 _ H0.out (Nat.le_trans HL.out (by decide))).mono ?_
        rintro e W4 ⟨rd, rfl, hz, hb⟩
        replace H0 := Lib.hid (H0.out.below hb)
        replace X1 := Lib.hid (X1.out.below hb)
        replace HB := Lib.hid (HB.out.trans (hb.mono HB.out.size))
        have HD := Lib.hid hz
        clear hz
        clear hb
        clear u0 u1 u2 u3 u4 u5
        obtain ⟨⟨u0, u1, u2, u3, u4, u5⟩, -⟩ := X1.out
        go_wp2_with fail
        refine (lups_any _ z0 x1 _ H0.out (Nat.le_trans HL.out (by decide))).mono ?_
        rintro e W5 ⟨ru, rfl, hz, hb⟩
        replace H0 := Lib.hid (H0.out.below hb)
        replace X1 := Lib.hid (X1.out.below hb)
        replace HD := Lib.hid (Zs_low HD.out hb)
        replace HB := Lib.hid (HB.out.trans (hb.mono HB.out.size))
        have HU := Lib.hid hz
        clear hz
        clear hb
        clear u0 u1 u2 u3 u4 u5
        obtain ⟨⟨u0, u1, u2, u3, u4, u5⟩, -⟩ := X1.out
        obtain ⟨D, hD⟩ : ∃ D, dirI z0 x1 1 = D := ⟨_, rfl⟩
        obtain ⟨U, hU⟩ : ∃ U, dirI z0 x1 2 = U := ⟨_, rfl⟩
        rw [hD] at HD
        rw [hU] at HU
        have HDD := Lib.hid hD
        have HUU := Lib.hid hU
        obtain ⟨ad, cd, rfl⟩ := Zs_form HD.out
        obtain ⟨au, cu, rfl⟩ := Zs_form HU.out
        obtain ⟨nd, hnd⟩ : ∃ nd, D.length = nd := ⟨_, rfl⟩
        obtain ⟨nu, hnu⟩ : ∃ nu, U.length = nu := ⟨_, rfl⟩
        rw [hnd, hnu]
        have HND := Lib.hid hnd
        have HNU := Lib.hid hnu
        obtain ⟨WL, hWL⟩ : ∃ WL, WL = W5 := ⟨_, rfl⟩
        subst hWL
        clear hD hU hnd hnu u0 u1 u2 u3 u4 u5
        have hl100 := HL.out
        go_wp2_with fail
        go_loopw [7, 8] (fun nv iv wr => ∃ (k n : Nat), k ≤ z0.length ∧ iv = .int .i64 k ∧ nv = .int .i64 n ∧ n ≤ k ∧ Hid (cntP (z0.take k) x1 = n) ∧ Hid (Below WL.heap.size WL wr)) (fun _ iv _ => z0.length - (intOf iv).toNat)
        case atStart => exact ⟨0, 0, Nat.zero_le _, rfl, rfl, Nat.le_refl _, rfl, Below.refl _ _⟩
        case round =>
          obtain ⟨k, n, hk, rfl, rfl, hnk, HCN, HBW⟩ := hrel
          by_cases hit : k < z0.length
          · have hst := cnt_step z0 x1 k hit
            rw [HCN.out] at hst
            obtain ⟨b2, off, rfl, hB, p0, p1, p2, p3, p4, p5, p6⟩ := (H0.out.below HBW.out).at hit
            obtain ⟨y, hy⟩ : ∃ y, z0.getD k zVw = y := ⟨_, rfl⟩
            rw [hy] at p0 p1 p2 p3 p4 p5 p6 hst
            clear hy
            obtain ⟨⟨u0, u1, u2, u3, u4, u5⟩, -⟩ := X1.out.below HBW.out
            have hlw : w.heap.size < wr.heap.size := World.block_lt_of_cell? wr _ u0
            cases hn0 : y.2.1 with
            | true =>
              rw [hn0] at p1 hst
              have kc : ∀ w', Below wr.heap.size wr w' → w'.cell? ⟨b2, off + k * 7 + 1, none⟩ = some (.bool true) := fun w' hb => (hb.cell (p := ⟨b2, off + k * 7 + 1, none⟩) hB).trans p1
              have HST : Hid (cntP (z0.take (k + 1)) x1 = n) := hst
              clear p0 p1 p2 p3 p4 p5 p6 hB hst hn0 u0 u1 u2 u3 u4 u5 hlw
              go_upto_region 9 with (fail)
              refine wp_region_typed (C := fun w' => Below wr.heap.size wr w') (X := fun w w' => Below w.heap.size w w') (n := 121) (by kernel_rfl) (by kernel_rfl) rfl (fun w => Below.refl _ w) (Below.refl _ _).drew ?_
              refine w_is (fun w => Below.refl _ w) _ (.inl rfl) (fun ρ w hC hc hfn hf => by have e0 : ρ (.tmp 0) = _ := hf 0 (by decide); (conv => lhs; simp [execOp, go_sem, hc, e0])) ?_
              refine w_is (fun w => Below.refl _ w) _ (.inl rfl) (fun ρ w hC hc hfn hf => by have e8 : ρ (.tmp 8) = _ := hf 8 (by decide); (conv => lhs; simp [execOp, go_sem, hc, e8])) ?_
              refine w_is (fun w => Below.refl _ w) _ (.inl rfl) (fun ρ w hC hc hfn hf => by have e39 : ρ (.tmp 39) = _ := hf 39 (by decide); have e40 : ρ (.tmp 40) = _ := hf 40 (by decide); (conv => lhs; simp [execOp, go_sem, hc, e39, e40, hit])) ?_
              refine w_is (fun w => Below.refl _ w) _ (.inl rfl) (fun ρ w hC hc hfn hf => by have e41 : ρ (.tmp 41) = _ := hf 41 (by decide); (conv => lhs; simp [execOp, go_sem, hc, e41])) ?_
              refine w_is (fun w => Below.refl _ w) _ (.inl rfl) (fun ρ w hC hc hfn hf => by have e42 : ρ (.tmp 42) = _ := hf 42 (by decide); (conv => lhs; simp [execOp, go_sem, hc, e42])) ?_
              refine w_is (fun w => Below.refl _ w) _ (.inl rfl) (fun ρ w hC hc hfn hf => by have e43 : ρ (.tmp 43) = _ := hf 43 (by decide); (conv => lhs; simp [execOp, go_sem, hc, e43, kc w hC])) ?_
              refine w_is (fun w => Below.refl _ w) _ (.inl rfl) (fun ρ w hC hc hfn hf => by have e44 : ρ (.tmp 44) = _ := hf 44 (by decide); (conv => lhs; simp [execOp, go_sem, hc, e44])) ?_
              refine w_is (fun w => Below.refl _ w) _ (.inl rfl) (fun ρ w hC hc hfn hf => by have e45 : ρ (.tmp 45) = _ := hf 45 (by decide); (conv => lhs; simp [execOp, go_sem, hc, e45])) ?_
              refine w_skip rfl rfl (known_is rfl) ?_
              refine w_skip rfl rfl (known_is rfl) ?_
              refine w_skip rfl rfl (known_is rfl) ?_
              refine w_skip rfl rfl (known_is rfl) ?_
              refine w_skip rfl rfl (known_is rfl) ?_
              refine w_skip rfl rfl (known_is rfl) ?_
              refine w_skip rfl rfl (known_is rfl) ?_
              refine w_is (fun w => Below.refl _ w) _ (.inl rfl) (fun ρ w hC hc hfn hf => by have e46 : ρ (.tmp 46) = _ := hf 46 (by decide); have e53 : ρ (.tmp 53) = _ := hf 53 (by decide); (conv => lhs; simp [execOp, go_sem, hc, e46, e53])) ?_
              intro A V5 hC hn hd hf
              have y0 : A.eval (.tmp 0) = _ := Eq.trans (hf 0) (by conv => lhs; simp [go_sem])
              have y1 : A.eval (.tmp 1) = _ := Eq.trans (hf 1) (by conv => lhs; simp [go_sem])
              have y2 : A.eval (.tmp 2) = _ := Eq.trans (hf 2) (by conv => lhs; simp [go_sem])
              have y3 : A.eval (.tmp 3) = _ := Eq.trans (hf 3) (by conv => lhs; simp [go_sem])
              have y4 : A.eval (.tmp 4) = _ := Eq.trans (hf 4) (by conv => lhs; simp [go_sem])
              have y5 : A.eval (.tmp 5) = _ := Eq.trans (hf 5) (by conv => lhs; simp [go_sem])
              have y6 : A.eval (.tmp 6) = _ := Eq.trans (hf 6) (by conv => lhs; simp [go_sem])
              have y7 : A.eval (.tmp 7) = _ := Eq.trans (hf 7) (by conv => lhs; simp [go_sem])
              have y8 : A.eval (.tmp 8) = _ := Eq.trans (hf 8) (by conv => lhs; simp [go_sem])
              have y9 : A.eval (.tmp 9) = _ := Eq.trans (hf 9) (by conv => lhs; simp [go_sem])
              have y10 : A.eval (.tmp 10) = _ := Eq.trans (hf 10) (by conv => lhs; simp [go_sem])
              have y11 : A.eval (.tmp 11) = _ := Eq.trans (hf 11) (by conv => lhs; simp [go_sem])
              have y12 : A.eval (.tmp 12) = _ := Eq.trans (hf 12) (by conv => lhs; simp [go_sem])
              have y13 : A.eval (.tmp 13) = _ := Eq.trans (hf 13) (by conv => lhs; simp [go_sem])
              have y14 : A.eval (.tmp 14) = _ := Eq.trans (hf 14) (by conv => lhs; simp [go_sem])
              have y15 : A.eval (.tmp 15) = _ := Eq.trans (hf 15) (by conv => lhs; simp [go_sem])
              have y16 : A.eval (.tmp 16) = _ := Eq.trans (hf 16) (by conv => lhs; simp [go_sem])
              have y17 : A.eval (.tmp 17) = _ := Eq.trans (hf 17) (by conv => lhs; simp [go_sem])
              have y18 : A.eval (.tmp 18) = _ := Eq.trans (hf 18) (by conv => lhs; simp [go_sem])
              have y19 : A.eval (.tmp 19) = _ := Eq.trans (hf 19) (by conv => lhs; simp [go_sem])
              have y20 : A.eval (.tmp 20) = _ := Eq.trans (hf 20) (by conv => lhs; simp [go_sem])
              have y21 : A.eval (.tmp 21) = _ := Eq.trans (hf 21) (by conv => lhs; simp [go_sem])
              have y22 : A.eval (.tmp 22) = _ := Eq.trans (hf 22) (by conv => lhs; simp [go_sem])
              have y23 : A.eval (.tmp 23) = _ := Eq.trans (hf 23) (by conv => lhs; simp [go_sem])
              have y24 : A.eval (.tmp 24) = _ := Eq.trans (hf 24) (by conv => lhs; simp [go_sem])
              have y25 : A.eval (.tmp 25) = _ := Eq.trans (hf 25) (by conv => lhs; simp [go_sem])
              have y26 : A.eval (.tmp 26) = _ := Eq.trans (hf 26) (by conv => lhs; simp [go_sem])
              have y27 : A.eval (.tmp 27) = _ := Eq.trans (hf 27) (by conv => lhs; simp [go_sem])
              have y28 : A.eval (.tmp 28) = _ := Eq.trans (hf 28) (by conv => lhs; simp [go_sem])
              have y29 : A.eval (.tmp 29) = _ := Eq.trans (hf 29) (by conv => lhs; simp [go_sem])
              have y30 : A.eval (.tmp 30) = _ := Eq.trans (hf 30) (by conv => lhs; simp [go_sem])
              have y31 : A.eval (.tmp 31) = _ := Eq.trans (hf 31) (by conv => lhs; simp [go_sem])
              have y32 : A.eval (.tmp 32) = _ := Eq.trans (hf 32) (by conv => lhs; simp [go_sem])
              have y33 : A.eval (.tmp 33) = _ := Eq.trans (hf 33) (by conv => lhs; simp [go_sem])
              have y34 : A.eval (.tmp 34) = _ := Eq.trans (hf 34) (by conv => lhs; simp [go_sem])
              have y35 : A.eval (.tmp 35) = _ := Eq.trans (hf 35) (by conv => lhs; simp [go_sem])
              have y36 : A.eval (.tmp 36) = _ := Eq.trans (hf 36) (by conv => lhs; simp [go_sem])
              have y37 : A.eval (.tmp 37) = _ := Eq.trans (hf 37) (by conv => lhs; simp [go_sem])
              have y38 : A.eval (.tmp 38) = _ := Eq.trans (hf 38) (by conv => lhs; simp [go_sem])
              have y39 : A.eval (.tmp 39) = _ := hf 39
              have y40 : A.eval (.tmp 40) = _ := hf 40
              have y41 : A.eval (.tmp 41) = _ := hf 41
              have y42 : A.eval (.tmp 42) = _ := hf 42
              have y43 : A.eval (.tmp 43) = _ := hf 43
              have y44 : A.eval (.tmp 44) = _ := hf 44
              have y45 : A.eval (.tmp 45) = _ := hf 45
              have y46 : A.eval (.tmp 46) = _ := hf 46
              have y47 : A.eval (.tmp 47) = _ := hf 47
              have y48 : A.eval (.tmp 48) = _ := hf 48
              have y49 : A.eval (.tmp 49) = _ := hf 49
              have y50 : A.eval (.tmp 50) = _ := hf 50
              have y51 : A.eval (.tmp 51) = _ := hf 51
              have y52 : A.eval (.tmp 52) = _ := hf 52
              have y53 : A.eval (.tmp 53) = _ := hf 53
              have y54 : A.eval (.tmp 54) = _ := hf 54
              have y55 : A.eval (.tmp 55) = _ := Eq.trans (hf 55) (by conv => lhs; simp [go_sem])
              have y56 : A.eval (.tmp 56) = _ := Eq.trans (hf 56) (by conv => lhs; simp [go_sem])
              have y57 : A.eval (.tmp 57) = _ := Eq.trans (hf 57) (by conv => lhs; simp [go_sem])
              have y58 : A.eval (.tmp 58) = _ := Eq.trans (hf 58) (by conv => lhs; simp [go_sem])
              have y59 : A.eval (.tmp 59) = _ := Eq.trans (hf 59) (by conv => lhs; simp [go_sem])
              have y60 : A.eval (.tmp 60) = _ := Eq.trans (hf 60) (by conv => lhs; simp [go_sem])
              have y61 : A.eval (.tmp 61) = _ := Eq.trans (hf 61) (by conv => lhs; simp [go_sem])
              have y62 : A.eval (.tmp 62) = _ := Eq.trans (hf 62) (by conv => lhs; simp [go_sem])
              have y63 : A.eval (.tmp 63) = _ := Eq.trans (hf 63) (by conv => lhs; simp [go_sem])
              have y64 : A.eval (.tmp 64) = _ := Eq.trans (hf 64) (by conv => lhs; simp [go_sem])
              have y65 : A.eval (.tmp 65) = _ := Eq.trans (hf 65) (by conv => lhs; simp [go_sem])
              have y66 : A.eval (.tmp 66) = _ := Eq.trans (hf 66) (by conv => lhs; simp [go_sem])
              have y67 : A.eval (.tmp 67) = _ := Eq.trans (hf 67) (by conv => lhs; simp [go_sem])
              have y68 : A.eval (.tmp 68) = _ := Eq.trans (hf 68) (by conv => lhs; simp [go_sem])
              have y69 : A.eval (.tmp 69) = _ := Eq.trans (hf 69) (by conv => lhs; simp [go_sem])
              have y70 : A.eval (.tmp 70) = _ := Eq.trans (hf 70) (by conv => lhs; simp [go_sem])
              have y71 : A.eval (.tmp 71) = _ := Eq.trans (hf 71) (by conv => lhs; simp [go_sem])
              have y72 : A.eval (.tmp 72) = _ := Eq.trans (hf 72) (by conv => lhs; simp [go_sem])
              have y73 : A.eval (.tmp 73) = _ := Eq.trans (hf 73) (by conv => lhs; simp [go_sem])
              have y74 : A.eval (.tmp 74) = _ := Eq.trans (hf 74) (by conv => lhs; simp [go_sem])
              have y75 : A.eval (.tmp 75) = _ := Eq.trans (hf 75) (by conv => lhs; simp [go_sem])
              have y76 : A.eval (.tmp 76) = _ := Eq.trans (hf 76) (by conv => lhs; simp [go_sem])
              have y77 : A.eval (.tmp 77) = _ := Eq.trans (hf 77) (by conv => lhs; simp [go_sem])
              have y78 : A.eval (.tmp 78) = _ := Eq.trans (hf 78) (by conv => lhs; simp [go_sem])
              have y79 : A.eval (.tmp 79) = _ := Eq.trans (hf 79) (by conv => lhs; simp [go_sem])
              have y80 : A.eval (.tmp 80) = _ := Eq.trans (hf 80) (by conv => lhs; simp [go_sem])
              have y81 : A.eval (.tmp 81) = _ := Eq.trans (hf 81) (by conv => lhs; simp [go_sem])
              have y82 : A.eval (.tmp 82) = _ := Eq.trans (hf 82) (by conv => lhs; simp [go_sem])
              have y83 : A.eval (.tmp 83) = _ := Eq.trans (hf 83) (by conv => lhs; simp [go_sem])
              have y84 : A.eval (.tmp 84) = _ := Eq.trans (hf 84) (by conv => lhs; simp [go_sem])
              have y85 : A.eval (.tmp 85) = _ := Eq.trans (hf 85) (by conv => lhs; simp [go_sem])
              have y86 : A.eval (.tmp 86) = _ := Eq.trans (hf 86) (by conv => lhs; simp [go_sem])
              have y87 : A.eval (.tmp 87) = _ := Eq.trans (hf 87) (by conv => lhs; simp [go_sem])
              have y88 : A.eval (.tmp 88) = _ := Eq.trans (hf 88) (by conv => lhs; simp [go_sem])
              have y89 : A.eval (.tmp 89) = _ := Eq.trans (hf 89) (by conv => lhs; simp [go_sem])
              have y90 : A.eval (.tmp 90) = _ := Eq.trans (hf 90) (by conv => lhs; simp [go_sem])
              have y91 : A.eval (.tmp 91) = _ := Eq.trans (hf 91) (by conv => lhs; simp [go_sem])
              have y92 : A.eval (.tmp 92) = _ := Eq.trans (hf 92) (by conv => lhs; simp [go_sem])
              have y93 : A.eval (.tmp 93) = _ := Eq.trans (hf 93) (by conv => lhs; simp [go_sem])
              have y94 : A.eval (.tmp 94) = _ := Eq.trans (hf 94) (by conv => lhs; simp [go_sem])
              have y95 : A.eval (.tmp 95) = _ := Eq.trans (hf 95) (by conv => lhs; simp [go_sem])
              have y96 : A.eval (.tmp 96) = _ := Eq.trans (hf 96) (by conv => lhs; simp [go_sem])
              have y97 : A.eval (.tmp 97) = _ := Eq.trans (hf 97) (by conv => lhs; simp [go_sem])
              have y98 : A.eval (.tmp 98) = _ := Eq.trans (hf 98) (by conv => lhs; simp [go_sem])
              have y99 : A.eval (.tmp 99) = _ := Eq.trans (hf 99) (by conv => lhs; simp [go_sem])
              have y100 : A.eval (.tmp 100) = _ := Eq.trans (hf 100) (by conv => lhs; simp [go_sem])
              have y101 : A.eval (.tmp 101) = _ := Eq.trans (hf 101) (by conv => lhs; simp [go_sem])
              have y102 : A.eval (.tmp 102) = _ := Eq.trans (hf 102) (by conv => lhs; simp [go_sem])
              have y103 : A.eval (.tmp 103) = _ := Eq.trans (hf 103) (by conv => lhs; simp [go_sem])
              have y104 : A.eval (.tmp 104) = _ := Eq.trans (hf 104) (by conv => lhs; simp [go_sem])
              have y105 : A.eval (.tmp 105) = _ := Eq.trans (hf 105) (by conv => lhs; simp [go_sem])
              have y106 : A.eval (.tmp 106) = _ := Eq.trans (hf 106) (by conv => lhs; simp [go_sem])
              have y107 : A.eval (.tmp 107) = _ := Eq.trans (hf 107) (by conv => lhs; simp [go_sem])
              have y108 : A.eval (.tmp 108) = _ := Eq.trans (hf 108) (by conv => lhs; simp [go_sem])
              have y109 : A.eval (.tmp 109) = _ := Eq.trans (hf 109) (by conv => lhs; simp [go_sem])
              have y110 : A.eval (.tmp 110) = _ := Eq.trans (hf 110) (by conv => lhs; simp [go_sem])
              have y111 : A.eval (.tmp 111) = _ := Eq.trans (hf 111) (by conv => lhs; simp [go_sem])
              have y112 : A.eval (.tmp 112) = _ := Eq.trans (hf 112) (by conv => lhs; simp [go_sem])
              have y113 : A.eval (.tmp 113) = _ := Eq.trans (hf 113) (by conv => lhs; simp [go_sem])
              have y114 : A.eval (.tmp 114) = _ := Eq.trans (hf 114) (by conv => lhs; simp [go_sem])
              have y115 : A.eval (.tmp 115) = _ := Eq.trans (hf 115) (by conv => lhs; simp [go_sem])
              have y116 : A.eval (.tmp 116) = _ := Eq.trans (hf 116) (by conv => lhs; simp [go_sem])
              have y117 : A.eval (.tmp 117) = _ := Eq.trans (hf 117) (by conv => lhs; simp [go_sem])
              have y118 : A.eval (.tmp 118) = _ := Eq.trans (hf 118) (by conv => lhs; simp [go_sem])
              have y119 : A.eval (.tmp 119) = _ := Eq.trans (hf 119) (by conv => lhs; simp [go_sem])
              have y120 : A.eval (.tmp 120) = _ := Eq.trans (hf 120) (by conv => lhs; simp [go_sem])
              clear hf
              have hA := frame_eq hn
              rw [show List.range 121 = [0, 1, 2, 3, 4, 5, 6, 7, 8, 9, 10, 11, 12, 13, 14, 15, 16, 17, 18, 19, 20, 21, 22, 23, 24, 25, 26, 27, 28, 29, 30, 31, 32, 33, 34, 35, 36, 37, 38, 39, 40, 41, 42, 43, 44, 45, 46, 47, 48, 49, 50, 51, 52, 53, 54, 55, 56, 57, 58, 59, 60, 61, 62, 63, 64, 65, 66, 67, 68, 69, 70, 71, 72, 73, 74, 75, 76, 77, 78, 79, 80, 81, 82, 83, 84, 85, 86, 87, 88, 89, 90, 91, 92, 93, 94, 95, 96, 97, 98, 99, 100, 101, 102, 103, 104, 105, 106, 107, 108, 109, 110, 111, 112, 113, 114, 115, 116, 117, 118, 119, 120] from rfl, hd] at hA
              simp only [List.map_cons, List.map_nil, y0, y1, y2, y3, y4, y5, y6, y7, y8, y9, y10, y11, y12, y13, y14, y15, y16, y17, y18, y19, y20, y21, y22, y23, y24, y25, y26, y27, y28, y29, y30, y31, y32, y33, y34, y35, y36, y37, y38, y39, y40, y41, y42, y43, y44, y45, y46, y47, y48, y49, y50, y51, y52, y53, y54, y55, y56, y57, y58, y59, y60, y61, y62, y63, y64, y65, y66, y67, y68, y69, y70, y71, y72, y73, y74, y75, y76, y77, y78, y79, y80, y81, y82, y83, y84, y85, y86, y87, y88, y89, y90, y91, y92, y93, y94, y95, y96, y97, y98, y99, y100, y101, y102, y103, y104, y105, y106, y107, y108, y109, y110, y111, y112, y113, y114, y115, y116, y117, y118, y119, y120] at hA
              clear y0 y1 y2 y3 y4 y5 y6 y7 y8 y9 y10 y11 y12 y13 y14 y15 y16 y17 y18 y19 y20 y21 y22 y23 y24 y25 y26 y27 y28 y29 y30 y31 y32 y33 y34 y35 y36 y37 y38 y39 y40 y41 y42 y43 y44 y45 y46 y47 y48 y49 y50 y51 y52 y53 y54 y55 y56 y57 y58 y59 y60 y61 y62 y63 y64 y65 y66 y67 y68 y69 y70 y71 y72 y73 y74 y75 y76 y77 y78 y79 y80 y81 y82 y83 y84 y85 y86 y87 y88 y89 y90 y91 y92 y93 y94 y95 y96 y97 y98 y99 y100 y101 y102 y103 y104 y105 y106 y107 y108 y109 y110 y111 y112 y113 y114 y115 y116 y117 y118 y119 y120
              clear hn hd
              subst hA
              have HB5 := Lib.hid (HBW.out.trans (hC.mono HBW.out.size))
              clear hC kc HBW
              go_wp2_with fail
              go_roundw
              case rel => exact ⟨k + 1, n, by omega, by go_num, rfl, by omega, HST.out, HB5.out⟩
              case measure => simp [intOf]; omega
            | false =>
              have E1 := guard23
              have E2 := fun W => neq23 y.2.1 x1.1 y.2.2.1 y.2.2.2.1 y.2.2.2.2.1 y.2.2.2.2.2.1 y.2.2.2.2.2.2 x1.2.1 x1.2.2.1 x1.2.2.2.1 x1.2.2.2.2.1 x1.2.2.2.2.2 W
              obtain ⟨q, hq⟩ : ∃ q, eqX y.2 x1 = q := ⟨_, rfl⟩
              have hq2 : eqH y.2.1 y.2.2.1 y.2.2.2.1 y.2.2.2.2.1 y.2.2.2.2.2.1 y.2.2.2.2.2.2 x1.1 x1.2.1 x1.2.2.1 x1.2.2.2.1 x1.2.2.2.2.1 x1.2.2.2.2.2 = q := hq
              rw [hq2, hn0] at E2
              rw [hq, hn0] at hst
              rw [hn0] at p1
              have kc : ∀ w', Below wr.heap.size wr w' → (w'.cell? ⟨b2, off + k * 7 + 1, none⟩ = some (.bool false) ∧ w'.cell? ⟨b2, off + k * 7 + 2, none⟩ = some (.int .i64 y.2.2.1) ∧ w'.cell? ⟨b2, off + k * 7 + 3, none⟩ = some (.int .i64 y.2.2.2.1) ∧ w'.cell? ⟨b2, off + k * 7 + 4, none⟩ = some (.int .i64 y.2.2.2.2.1) ∧ w'.cell? ⟨b2, off + k * 7 + 5, none⟩ = some (.int .i64 y.2.2.2.2.2.1) ∧ w'.cell? ⟨b2, off + k * 7 + 6, none⟩ = some (.int .i64 y.2.2.2.2.2.2)) ∧ (w'.cell? ⟨w.heap.size, 0, none⟩ = some (.bool x1.1) ∧ w'.cell? ⟨w.heap.size, 1, none⟩ = some (.int .i64 x1.2.1) ∧ w'.cell? ⟨w.heap.size, 2, none⟩ = some (.int .i64 x1.2.2.1) ∧ w'.cell? ⟨w.heap.size, 3, none⟩ = some (.int .i64 x1.2.2.2.1) ∧ w'.cell? ⟨w.heap.size, 4, none⟩ = some (.int .i64 x1.2.2.2.2.1) ∧ w'.cell? ⟨w.heap.size, 5, none⟩ = some (.int .i64 x1.2.2.2.2.2)) := fun w' hb => ⟨⟨(hb.cell (p := ⟨b2, off + k * 7 + 1, none⟩) hB).trans p1, (hb.cell (p := ⟨b2, off + k * 7 + 2, none⟩) hB).trans p2, (hb.cell (p := ⟨b2, off + k * 7 + 3, none⟩) hB).trans p3, (hb.cell (p := ⟨b2, off + k * 7 + 4, none⟩) hB).trans p4, (hb.cell (p := ⟨b2, off + k * 7 + 5, none⟩) hB).trans p5, (hb.cell (p := ⟨b2, off + k * 7 + 6, none⟩) hB).trans p6⟩, (hb.cell (p := ⟨w.heap.size, 0, none⟩) hlw).trans u0, (hb.cell (p := ⟨w.heap.size, 1, none⟩) hlw).trans u1, (hb.cell (p := ⟨w.heap.size, 2, none⟩) hlw).trans u2, (hb.cell (p := ⟨w.heap.size, 3, none⟩) hlw).trans u3, (hb.cell (p := ⟨w.heap.size, 4, none⟩) hlw).trans u4, (hb.cell (p := ⟨w.heap.size, 5, none⟩) hlw).trans u5⟩
              clear p0 p1 p2 p3 p4 p5 p6 hB hn0 hq hq2 u0 u1 u2 u3 u4 u5 hlw
              cases q with
              | true =>
                have HST : Hid (cntP (z0.take (k + 1)) x1 = n) := hst
                clear hst
                go_upto_region 9 with (fail)
                refine wp_region_typed (C := fun w' => Below wr.heap.size wr w') (X := fun w w' => Below w.heap.size w w') (n := 121) (by kernel_rfl) (by kernel_rfl) rfl (fun w => Below.refl _ w) (Below.refl _ _).drew ?_
                refine w_is (fun w => Below.refl _ w) _ (.inl rfl) (fun ρ w hC hc hfn hf => by have e0 : ρ (.tmp 0) = _ := hf 0 (by decide); (conv => lhs; simp [execOp, go_sem, hc, e0])) ?_
                refine w_is (fun w => Below.refl _ w) _ (.inl rfl) (fun ρ w hC hc hfn hf => by have e8 : ρ (.tmp 8) = _ := hf 8 (by decide); (conv => lhs; simp [execOp, go_sem, hc, e8])) ?_
                refine w_is (fun w => Below.refl _ w) _ (.inl rfl) (fun ρ w hC hc hfn hf => by have e39 : ρ (.tmp 39) = _ := hf 39 (by decide); have e40 : ρ (.tmp 40) = _ := hf 40 (by decide); (conv => lhs; simp [execOp, go_sem, hc, e39, e40, hit])) ?_
                refine w_is (fun w => Below.refl _ w) _ (.inl rfl) (fun ρ w hC hc hfn hf => by have e41 : ρ (.tmp 41) = _ := hf 41 (by decide); (conv => lhs; simp [execOp, go_sem, hc, e41])) ?_
                refine w_is (fun w => Below.refl _ w) _ (.inl rfl) (fun ρ w hC hc hfn hf => by have e42 : ρ (.tmp 42) = _ := hf 42 (by decide); (conv => lhs; simp [execOp, go_sem, hc, e42])) ?_
                refine w_is (fun w => Below.refl _ w) _ (.inl rfl) (fun ρ w hC hc hfn hf => by have e43 : ρ (.tmp 43) = _ := hf 43 (by decide); (conv => lhs; simp [execOp, go_sem, hc, e43, kc w hC])) ?_
                refine w_is (fun w => Below.refl _ w) _ (.inl rfl) (fun ρ w hC hc hfn hf => by have e44 : ρ (.tmp 44) = _ := hf 44 (by decide); (conv => lhs; simp [execOp, go_sem, hc, e44])) ?_
                refine w_is (fun w => Below.refl _ w) _ (.inl rfl) (fun ρ w hC hc hfn hf => by have e45 : ρ (.tmp 45) = _ := hf 45 (by decide); (conv => lhs; simp [execOp, go_sem, hc, e45])) ?_
                refine w_is (fun w => Below.refl _ w) _ (.inr ⟨7, 46, true, rfl, rfl, known_is rfl⟩) (fun ρ w hC hc hfn hf => by have e0 : ρ (.tmp 0) = _ := hf 0 (by decide); (conv => lhs; simp [execOp, go_sem, hc, e0])) ?_
                refine w_is (fun w => Below.refl _ w) _ (.inr ⟨7, 46, true, rfl, rfl, known_is rfl⟩) (fun ρ w hC hc hfn hf => by have e8 : ρ (.tmp 8) = _ := hf 8 (by decide); (conv => lhs; simp [execOp, go_sem, hc, e8])) ?_
                refine w_is (fun w => Below.refl _ w) _ (.inr ⟨7, 46, true, rfl, rfl, known_is rfl⟩) (fun ρ w hC hc hfn hf => by have e47 : ρ (.tmp 47) = _ := hf 47 (by decide); have e48 : ρ (.tmp 48) = _ := hf 48 (by decide); (conv => lhs; simp [execOp, go_sem, hc, e47, e48, hit])) ?_
                refine w_is (fun w => Below.refl _ w) _ (.inr ⟨7, 46, true, rfl, rfl, known_is rfl⟩) (fun ρ w hC hc hfn hf => by have e49 : ρ (.tmp 49) = _ := hf 49 (by decide); (conv => lhs; simp [execOp, go_sem, hc, e49])) ?_
                refine w_is (fun w => Below.refl _ w) _ (.inr ⟨7, 46, true, rfl, rfl, known_is rfl⟩) (fun ρ w hC hc hfn hf => by have e50 : ρ (.tmp 50) = _ := hf 50 (by decide); (conv => lhs; simp [execOp, go_sem, hc, e50, kc w hC])) ?_
                refine w_is (fun w => Below.refl _ w) _ (.inr ⟨7, 46, true, rfl, rfl, known_is rfl⟩) (fun ρ w hC hc hfn hf => by have e3 : ρ (.tmp 3) = _ := hf 3 (by decide); (conv => lhs; simp [execOp, go_sem, hc, e3, kc w hC])) ?_
                refine w_is (fun w => Below.refl _ w) _ (.inr ⟨7, 46, true, rfl, rfl, known_is rfl⟩) (fun ρ w hC hc hfn hf => by have e51 : ρ (.tmp 51) = _ := hf 51 (by decide); have e52 : ρ (.tmp 52) = _ := hf 52 (by decide); (conv => lhs; simp [execOp, go_sem, hc, e51, e52, E1, E2])) ?_
                refine w_is (fun w => Below.refl _ w) _ (.inl rfl) (fun ρ w hC hc hfn hf => by have e46 : ρ (.tmp 46) = _ := hf 46 (by decide); have e53 : ρ (.tmp 53) = _ := hf 53 (by decide); (conv => lhs; simp [execOp, go_sem, hc, e46, e53])) ?_
                intro A V5 hC hn hd hf
                have y0 : A.eval (.tmp 0) = _ := Eq.trans (hf 0) (by conv => lhs; simp [go_sem])
                have y1 : A.eval (.tmp 1) = _ := Eq.trans (hf 1) (by conv => lhs; simp [go_sem])
                have y2 : A.eval (.tmp 2) = _ := Eq.trans (hf 2) (by conv => lhs; simp [go_sem])
                have y3 : A.eval (.tmp 3) = _ := Eq.trans (hf 3) (by conv => lhs; simp [go_sem])
                have y4 : A.eval (.tmp 4) = _ := Eq.trans (hf 4) (by conv => lhs; simp [go_sem])
                have y5 : A.eval (.tmp 5) = _ := Eq.trans (hf 5) (by conv => lhs; simp [go_sem])
                have y6 : A.eval (.tmp 6) = _ := Eq.trans (hf 6) (by conv => lhs; simp [go_sem])
                have y7 : A.eval (.tmp 7) = _ := Eq.trans (hf 7) (by conv => lhs; simp [go_sem])
                have y8 : A.eval (.tmp 8) = _ := Eq.trans (hf 8) (by conv => lhs; simp [go_sem])
                have y9 : A.eval (.tmp 9) = _ := Eq.trans (hf 9) (by conv => lhs; simp [go_sem])
                have y10 : A.eval (.tmp 10) = _ := Eq.trans (hf 10) (by conv => lhs; simp [go_sem])
                have y11 : A.eval (.tmp 11) = _ := Eq.trans (hf 11) (by conv => lhs; simp [go_sem])
                have y12 : A.eval (.tmp 12) = _ := Eq.trans (hf 12) (by conv => lhs; simp [go_sem])
                have y13 : A.eval (.tmp 13) = _ := Eq.trans (hf 13) (by conv => lhs; simp [go_sem])
                have y14 : A.eval (.tmp 14) = _ := Eq.trans (hf 14) (by conv => lhs; simp [go_sem])
                have y15 : A.eval (.tmp 15) = _ := Eq.trans (hf 15) (by conv => lhs; simp [go_sem])
                have y16 : A.eval (.tmp 16) = _ := Eq.trans (hf 16) (by conv => lhs; simp [go_sem])
                have y17 : A.eval (.tmp 17) = _ := Eq.trans (hf 17) (by conv => lhs; simp [go_sem])
                have y18 : A.eval (.tmp 18) = _ := Eq.trans (hf 18) (by conv => lhs; simp [go_sem])
                have y19 : A.eval (.tmp 19) = _ := Eq.trans (hf 19) (by conv => lhs; simp [go_sem])
                have y20 : A.eval (.tmp 20) = _ := Eq.trans (hf 20) (by conv => lhs; simp [go_sem])
                have y21 : A.eval (.tmp 21) = _ := Eq.trans (hf 21) (by conv => lhs; simp [go_sem])
                have y22 : A.eval (.tmp 22) = _ := Eq.trans (hf 22) (by conv => lhs; simp [go_sem])
                have y23 : A.eval (.tmp 23) = _ := Eq.trans (hf 23) (by conv => lhs; simp [go_sem])
                have y24 : A.eval (.tmp 24) = _ := Eq.trans (hf 24) (by conv => lhs; simp [go_sem])
                have y25 : A.eval (.tmp 25) = _ := Eq.trans (hf 25) (by conv => lhs; simp [go_sem])
                have y26 : A.eval (.tmp 26) = _ := Eq.trans (hf 26) (by conv => lhs; simp [go_sem])
                have y27 : A.eval (.tmp 27) = _ := Eq.trans (hf 27) (by conv => lhs; simp [go_sem])
                have y28 : A.eval (.tmp 28) = _ := Eq.trans (hf 28) (by conv => lhs; simp [go_sem])
                have y29 : A.eval (.tmp 29) = _ := Eq.trans (hf 29) (by conv => lhs; simp [go_sem])
                have y30 : A.eval (.tmp 30) = _ := Eq.trans (hf 30) (by conv => lhs; simp [go_sem])
                have y31 : A.eval (.tmp 31) = _ := Eq.trans (hf 31) (by conv => lhs; simp [go_sem])
                have y32 : A.eval (.tmp 32) = _ := Eq.trans (hf 32) (by conv => lhs; simp [go_sem])
                have y33 : A.eval (.tmp 33) = _ := Eq.trans (hf 33) (by conv => lhs; simp [go_sem])
                have y34 : A.eval (.tmp 34) = _ := Eq.trans (hf 34) (by conv => lhs; simp [go_sem])
                have y35 : A.eval (.tmp 35) = _ := Eq.trans (hf 35) (by conv => lhs; simp [go_sem])
                have y36 : A.eval (.tmp 36) = _ := Eq.trans (hf 36) (by conv => lhs; simp [go_sem])
                have y37 : A.eval (.tmp 37) = _ := Eq.trans (hf 37) (by conv => lhs; simp [go_sem])
                have y38 : A.eval (.tmp 38) = _ := Eq.trans (hf 38) (by conv => lhs; simp [go_sem])
                have y39 : A.eval (.tmp 39) = _ := hf 39
                have y40 : A.eval (.tmp 40) = _ := hf 40
                have y41 : A.eval (.tmp 41) = _ := hf 41
                have y42 : A.eval (.tmp 42) = _ := hf 42
                have y43 : A.eval (.tmp 43) = _ := hf 43
                have y44 : A.eval (.tmp 44) = _ := hf 44
                have y45 : A.eval (.tmp 45) = _ := hf 45
                have y46 : A.eval (.tmp 46) = _ := hf 46
                have y47 : A.eval (.tmp 47) = _ := hf 47
                have y48 : A.eval (.tmp 48) = _ := hf 48
                have y49 : A.eval (.tmp 49) = _ := hf 49
                have y50 : A.eval (.tmp 50) = _ := hf 50
                have y51 : A.eval (.tmp 51) = _ := hf 51
                have y52 : A.eval (.tmp 52) = _ := hf 52
                have y53 : A.eval (.tmp 53) = _ := hf 53
                have y54 : A.eval (.tmp 54) = _ := hf 54
                have y55 : A.eval (.tmp 55) = _ := Eq.trans (hf 55) (by conv => lhs; simp [go_sem])
                have y56 : A.eval (.tmp 56) = _ := Eq.trans (hf 56) (by conv => lhs; simp [go_sem])
                have y57 : A.eval (.tmp 57) = _ := Eq.trans (hf 57) (by conv => lhs; simp [go_sem])
                have y58 : A.eval (.tmp 58) = _ := Eq.trans (hf 58) (by conv => lhs; simp [go_sem])
                have y59 : A.eval (.tmp 59) = _ := Eq.trans (hf 59) (by conv => lhs; simp [go_sem])
                have y60 : A.eval (.tmp 60) = _ := Eq.trans (hf 60) (by conv => lhs; simp [go_sem])
                have y61 : A.eval (.tmp 61) = _ := Eq.trans (hf 61) (by conv => lhs; simp [go_sem])
                have y62 : A.eval (.tmp 62) = _ := Eq.trans (hf 62) (by conv => lhs; simp [go_sem])
                have y63 : A.eval (.tmp 63) = _ := Eq.trans (hf 63) (by conv => lhs; simp [go_sem])
                have y64 : A.eval (.tmp 64) = _ := Eq.trans (hf 64) (by conv => lhs; simp [go_sem])
                have y65 : A.eval (.tmp 65) = _ := Eq.trans (hf 65) (by conv => lhs; simp [go_sem])
                have y66 : A.eval (.tmp 66) = _ := Eq.trans (hf 66) (by conv => lhs; simp [go_sem])
                have y67 : A.eval (.tmp 67) = _ := Eq.trans (hf 67) (by conv => lhs; simp [go_sem])
                have y68 : A.eval (.tmp 68) = _ := Eq.trans (hf 68) (by conv => lhs; simp [go_sem])
                have y69 : A.eval (.tmp 69) = _ := Eq.trans (hf 69) (by conv => lhs; simp [go_sem])
                have y70 : A.eval (.tmp 70) = _ := Eq.trans (hf 70) (by conv => lhs; simp [go_sem])
                have y71 : A.eval (.tmp 71) = _ := Eq.trans (hf 71) (by conv => lhs; simp [go_sem])
                have y72 : A.eval (.tmp 72) = _ := Eq.trans (hf 72) (by conv => lhs; simp [go_sem])
                have y73 : A.eval (.tmp 73) = _ := Eq.trans (hf 73) (by conv => lhs; simp [go_sem])
                have y74 : A.eval (.tmp 74) = _ := Eq.trans (hf 74) (by conv => lhs; simp [go_sem])
                have y75 : A.eval (.tmp 75) = _ := Eq.trans (hf 75) (by conv => lhs; simp [go_sem])
                have y76 : A.eval (.tmp 76) = _ := Eq.trans (hf 76) (by conv => lhs; simp [go_sem])
                have y77 : A.eval (.tmp 77) = _ := Eq.trans (hf 77) (by conv => lhs; simp [go_sem])
                have y78 : A.eval (.tmp 78) = _ := Eq.trans (hf 78) (by conv => lhs; simp [go_sem])
                have y79 : A.eval (.tmp 79) = _ := Eq.trans (hf 79) (by conv => lhs; simp [go_sem])
                have y80 : A.eval (.tmp 80) = _ := Eq.trans (hf 80) (by conv => lhs; simp [go_sem])
                have y81 : A.eval (.tmp 81) = _ := Eq.trans (hf 81) (by conv => lhs; simp [go_sem])
                have y82 : A.eval (.tmp 82) = _ := Eq.trans (hf 82) (by conv => lhs; simp [go_sem])
                have y83 : A.eval (.tmp 83) = _ := Eq.trans (hf 83) (by conv => lhs; simp [go_sem])
                have y84 : A.eval (.tmp 84) = _ := Eq.trans (hf 84) (by conv => lhs; simp [go_sem])
                have y85 : A.eval (.tmp 85) = _ := Eq.trans (hf 85) (by conv => lhs; simp [go_sem])
                have y86 : A.eval (.tmp 86) = _ := Eq.trans (hf 86) (by conv => lhs; simp [go_sem])
                have y87 : A.eval (.tmp 87) = _ := Eq.trans (hf 87) (by conv => lhs; simp [go_sem])
                have y88 : A.eval (.tmp 88) = _ := Eq.trans (hf 88) (by conv => lhs; simp [go_sem])
                have y89 : A.eval (.tmp 89) = _ := Eq.trans (hf 89) (by conv => lhs; simp [go_sem])
                have y90 : A.eval (.tmp 90) = _ := Eq.trans (hf 90) (by conv => lhs; simp [go_sem])
                have y91 : A.eval (.tmp 91) = _ := Eq.trans (hf 91) (by conv => lhs; simp [go_sem])
                have y92 : A.eval (.tmp 92) = _ := Eq.trans (hf 92) (by conv => lhs; simp [go_sem])
                have y93 : A.eval (.tmp 93) = _ := Eq.trans (hf 93) (by conv => lhs; simp [go_sem])
                have y94 : A.eval (.tmp 94) = _ := Eq.trans (hf 94) (by conv => lhs; simp [go_sem])
                have y95 : A.eval (.tmp 95) = _ := Eq.trans (hf 95) (by conv => lhs; simp [go_sem])
                have y96 : A.eval (.tmp 96) = _ := Eq.trans (hf 96) (by conv => lhs; simp [go_sem])
                have y97 : A.eval (.tmp 97) = _ := Eq.trans (hf 97) (by conv => lhs; simp [go_sem])
                have y98 : A.eval (.tmp 98) = _ := Eq.trans (hf 98) (by conv => lhs; simp [go_sem])
                have y99 : A.eval (.tmp 99) = _ := Eq.trans (hf 99) (by conv => lhs; simp [go_sem])
                have y100 : A.eval (.tmp 100) = _ := Eq.trans (hf 100) (by conv => lhs; simp [go_sem])
                have y101 : A.eval (.tmp 101) = _ := Eq.trans (hf 101) (by conv => lhs; simp [go_sem])
                have y102 : A.eval (.tmp 102) = _ := Eq.trans (hf 102) (by conv => lhs; simp [go_sem])
                have y103 : A.eval (.tmp 103) = _ := Eq.trans (hf 103) (by conv => lhs; simp [go_sem])
                have y104 : A.eval (.tmp 104) = _ := Eq.trans (hf 104) (by conv => lhs; simp [go_sem])
                have y105 : A.eval (.tmp 105) = _ := Eq.trans (hf 105) (by conv => lhs; simp [go_sem])
                have y106 : A.eval (.tmp 106) = _ := Eq.trans (hf 106) (by conv => lhs; simp [go_sem])
                have y107 : A.eval (.tmp 107) = _ := Eq.trans (hf 107) (by conv => lhs; simp [go_sem])
                have y108 : A.eval (.tmp 108) = _ := Eq.trans (hf 108) (by conv => lhs; simp [go_sem])
                have y109 : A.eval (.tmp 109) = _ := Eq.trans (hf 109) (by conv => lhs; simp [go_sem])
                have y110 : A.eval (.tmp 110) = _ := Eq.trans (hf 110) (by conv => lhs; simp [go_sem])
                have y111 : A.eval (.tmp 111) = _ := Eq.trans (hf 111) (by conv => lhs; simp [go_sem])
                have y112 : A.eval (.tmp 112) = _ := Eq.trans (hf 112) (by conv => lhs; simp [go_sem])
                have y113 : A.eval (.tmp 113) = _ := Eq.trans (hf 113) (by conv => lhs; simp [go_sem])
                have y114 : A.eval (.tmp 114) = _ := Eq.trans (hf 114) (by conv => lhs; simp [go_sem])
                have y115 : A.eval (.tmp 115) = _ := Eq.trans (hf 115) (by conv => lhs; simp [go_sem])
                have y116 : A.eval (.tmp 116) = _ := Eq.trans (hf 116) (by conv => lhs; simp [go_sem])
                have y117 : A.eval (.tmp 117) = _ := Eq.trans (hf 117) (by conv => lhs; simp [go_sem])
                have y118 : A.eval (.tmp 118) = _ := Eq.trans (hf 118) (by conv => lhs; simp [go_sem])
                have y119 : A.eval (.tmp 119) = _ := Eq.trans (hf 119) (by conv => lhs; simp [go_sem])
                have y120 : A.eval (.tmp 120) = _ := Eq.trans (hf 120) (by conv => lhs; simp [go_sem])
                clear hf
                have hA := frame_eq hn
                rw [show List.range 121 = [0, 1, 2, 3, 4, 5, 6, 7, 8, 9, 10, 11, 12, 13, 14, 15, 16, 17, 18, 19, 20, 21, 22, 23, 24, 25, 26, 27, 28, 29, 30, 31, 32, 33, 34, 35, 36, 37, 38, 39, 40, 41, 42, 43, 44, 45, 46, 47, 48, 49, 50, 51, 52, 53, 54, 55, 56, 57, 58, 59, 60, 61, 62, 63, 64, 65, 66, 67, 68, 69, 70, 71, 72, 73, 74, 75, 76, 77, 78, 79, 80, 81, 82, 83, 84, 85, 86, 87, 88, 89, 90, 91, 92, 93, 94, 95, 96, 97, 98, 99, 100, 101, 102, 103, 104, 105, 106, 107, 108, 109, 110, 111, 112, 113, 114, 115, 116, 117, 118, 119, 120] from rfl, hd] at hA
                simp only [List.map_cons, List.map_nil, y0, y1, y2, y3, y4, y5, y6, y7, y8, y9, y10, y11, y12, y13, y14, y15, y16, y17, y18, y19, y20, y21, y22, y23, y24, y25, y26, y27, y28, y29, y30, y31, y32, y33, y34, y35, y36, y37, y38, y39, y40, y41, y42, y43, y44, y45, y46, y47, y48, y49, y50, y51, y52, y53, y54, y55, y56, y57, y58, y59, y60, y61, y62, y63, y64, y65, y66, y67, y68, y69, y70, y71, y72, y73, y74, y75, y76, y77, y78, y79, y80, y81, y82, y83, y84, y85, y86, y87, y88, y89, y90, y91, y92, y93, y94, y95, y96, y97, y98, y99, y100, y101, y102, y103, y104, y105, y106, y107, y108, y109, y110, y111, y112, y113, y114, y115, y116, y117, y118, y119, y120] at hA
                clear y0 y1 y2 y3 y4 y5 y6 y7 y8 y9 y10 y11 y12 y13 y14 y15 y16 y17 y18 y19 y20 y21 y22 y23 y24 y25 y26 y27 y28 y29 y30 y31 y32 y33 y34 y35 y36 y37 y38 y39 y40 y41 y42 y43 y44 y45 y46 y47 y48 y49 y50 y51 y52 y53 y54 y55 y56 y57 y58 y59 y60 y61 y62 y63 y64 y65 y66 y67 y68 y69 y70 y71 y72 y73 y74 y75 y76 y77 y78 y79 y80 y81 y82 y83 y84 y85 y86 y87 y88 y89 y90 y91 y92 y93 y94 y95 y96 y97 y98 y99 y100 y101 y102 y103 y104 y105 y106 y107 y108 y109 y110 y111 y112 y113 y114 y115 y116 y117 y118 y119 y120
                clear hn hd
                subst hA
                have HB5 := Lib.hid (HBW.out.trans (hC.mono HBW.out.size))
                clear hC kc HBW E1 E2
                go_wp2_with fail
                go_roundw
                case rel => exact ⟨k + 1, n, by omega, by go_num, rfl, by omega, HST.out, HB5.out⟩
                case measure => simp [intOf]; omega
              | false =>
                have HST : Hid (cntP (z0.take (k + 1)) x1 = n + 1) := hst
                clear hst
                go_upto_region 9 with (fail)
                refine wp_region_typed (C := fun w' => Below wr.heap.size wr w') (X := fun w w' => Below w.heap.size w w') (n := 121) (by kernel_rfl) (by kernel_rfl) rfl (fun w => Below.refl _ w) (Below.refl _ _).drew ?_
                refine w_is (fun w => Below.refl _ w) _ (.inl rfl) (fun ρ w hC hc hfn hf => by have e0 : ρ (.tmp 0) = _ := hf 0 (by decide); (conv => lhs; simp [execOp, go_sem, hc, e0])) ?_
                refine w_is (fun w => Below.refl _ w) _ (.inl rfl) (fun ρ w hC hc hfn hf => by have e8 : ρ (.tmp 8) = _ := hf 8 (by decide); (conv => lhs; simp [execOp, go_sem, hc, e8])) ?_
                refine w_is (fun w => Below.refl _ w) _ (.inl rfl) (fun ρ w hC hc hfn hf => by have e39 : ρ (.tmp 39) = _ := hf 39 (by decide); have e40 : ρ (.tmp 40) = _ := hf 40 (by decide); (conv => lhs; simp [execOp, go_sem, hc, e39, e40, hit])) ?_
                refine w_is (fun w => Below.refl _ w) _ (.inl rfl) (fun ρ w hC hc hfn hf => by have e41 : ρ (.tmp 41) = _ := hf 41 (by decide); (conv => lhs; simp [execOp, go_sem, hc, e41])) ?_
                refine w_is (fun w => Below.refl _ w) _ (.inl rfl) (fun ρ w hC hc hfn hf => by have e42 : ρ (.tmp 42) = _ := hf 42 (by decide); (conv => lhs; simp [execOp, go_sem, hc, e42])) ?_
                refine w_is (fun w => Below.refl _ w) _ (.inl rfl) (fun ρ w hC hc hfn hf => by have e43 : ρ (.tmp 43) = _ := hf 43 (by decide); (conv => lhs; simp [execOp, go_sem, hc, e43, kc w hC])) ?_
                refine w_is (fun w => Below.refl _ w) _ (.inl rfl) (fun ρ w hC hc hfn hf => by have e44 : ρ (.tmp 44) = _ := hf 44 (by decide); (conv => lhs; simp [execOp, go_sem, hc, e44])) ?_
                refine w_is (fun w => Below.refl _ w) _ (.inl rfl) (fun ρ w hC hc hfn hf => by have e45 : ρ (.tmp 45) = _ := hf 45 (by decide); (conv => lhs; simp [execOp, go_sem, hc, e45])) ?_
                refine w_is (fun w => Below.refl _ w) _ (.inr ⟨7, 46, true, rfl, rfl, known_is rfl⟩) (fun ρ w hC hc hfn hf => by have e0 : ρ (.tmp 0) = _ := hf 0 (by decide); (conv => lhs; simp [execOp, go_sem, hc, e0])) ?_
                refine w_is (fun w => Below.refl _ w) _ (.inr ⟨7, 46, true, rfl, rfl, known_is rfl⟩) (fun ρ w hC hc hfn hf => by have e8 : ρ (.tmp 8) = _ := hf 8 (by decide); (conv => lhs; simp [execOp, go_sem, hc, e8])) ?_
                refine w_is (fun w => Below.refl _ w) _ (.inr ⟨7, 46, true, rfl, rfl, known_is rfl⟩) (fun ρ w hC hc hfn hf => by have e47 : ρ (.tmp 47) = _ := hf 47 (by decide); have e48 : ρ (.tmp 48) = _ := hf 48 (by decide); (conv => lhs; simp [execOp, go_sem, hc, e47, e48, hit])) ?_
                refine w_is (fun w => Below.refl _ w) _ (.inr ⟨7, 46, true, rfl, rfl, known_is rfl⟩) (fun ρ w hC hc hfn hf => by have e49 : ρ (.tmp 49) = _ := hf 49 (by decide); (conv => lhs; simp [execOp, go_sem, hc, e49])) ?_
                refine w_is (fun w => Below.refl _ w) _ (.inr ⟨7, 46, true, rfl, rfl, known_is rfl⟩) (fun ρ w hC hc hfn hf => by have e50 : ρ (.tmp 50) = _ := hf 50 (by decide); (conv => lhs; simp [execOp, go_sem, hc, e50, kc w hC])) ?_
                refine w_is (fun w => Below.refl _ w) _ (.inr ⟨7, 46, true, rfl, rfl, known_is rfl⟩) (fun ρ w hC hc hfn hf => by have e3 : ρ (.tmp 3) = _ := hf 3 (by decide); (conv => lhs; simp [execOp, go_sem, hc, e3, kc w hC])) ?_
                refine w_is (fun w => Below.refl _ w) _ (.inr ⟨7, 46, true, rfl, rfl, known_is rfl⟩) (fun ρ w hC hc hfn hf => by have e51 : ρ (.tmp 51) = _ := hf 51 (by decide); have e52 : ρ (.tmp 52) = _ := hf 52 (by decide); (conv => lhs; simp [execOp, go_sem, hc, e51, e52, E1, E2])) ?_
                refine w_is (fun w => Below.refl _ w) _ (.inl rfl) (fun ρ w hC hc hfn hf => by have e46 : ρ (.tmp 46) = _ := hf 46 (by decide); have e53 : ρ (.tmp 53) = _ := hf 53 (by decide); (conv => lhs; simp [execOp, go_sem, hc, e46, e53])) ?_
                intro A V5 hC hn hd hf
                have y0 : A.eval (.tmp 0) = _ := Eq.trans (hf 0) (by conv => lhs; simp [go_sem])
                have y1 : A.eval (.tmp 1) = _ := Eq.trans (hf 1) (by conv => lhs; simp [go_sem])
                have y2 : A.eval (.tmp 2) = _ := Eq.trans (hf 2) (by conv => lhs; simp [go_sem])
                have y3 : A.eval (.tmp 3) = _ := Eq.trans (hf 3) (by conv => lhs; simp [go_sem])
                have y4 : A.eval (.tmp 4) = _ := Eq.trans (hf 4) (by conv => lhs; simp [go_sem])
                have y5 : A.eval (.tmp 5) = _ := Eq.trans (hf 5) (by conv => lhs; simp [go_sem])
                have y6 : A.eval (.tmp 6) = _ := Eq.trans (hf 6) (by conv => lhs; simp [go_sem])
                have y7 : A.eval (.tmp 7) = _ := Eq.trans (hf 7) (by conv => lhs; simp [go_sem])
                have y8 : A.eval (.tmp 8) = _ := Eq.trans (hf 8) (by conv => lhs; simp [go_sem])
                have y9 : A.eval (.tmp 9) = _ := Eq.trans (hf 9) (by conv => lhs; simp [go_sem])
                have y10 : A.eval (.tmp 10) = _ := Eq.trans (hf 10) (by conv => lhs; simp [go_sem])
                have y11 : A.eval (.tmp 11) = _ := Eq.trans (hf 11) (by conv => lhs; simp [go_sem])
                have y12 : A.eval (.tmp 12) = _ := Eq.trans (hf 12) (by conv => lhs; simp [go_sem])
                have y13 : A.eval (.tmp 13) = _ := Eq.trans (hf 13) (by conv => lhs; simp [go_sem])
                have y14 : A.eval (.tmp 14) = _ := Eq.trans (hf 14) (by conv => lhs; simp [go_sem])
                have y15 : A.eval (.tmp 15) = _ := Eq.trans (hf 15) (by conv => lhs; simp [go_sem])
                have y16 : A.eval (.tmp 16) = _ := Eq.trans (hf 16) (by conv => lhs; simp [go_sem])
                have y17 : A.eval (.tmp 17) = _ := Eq.trans (hf 17) (by conv => lhs; simp [go_sem])
                have y18 : A.eval (.tmp 18) = _ := Eq.trans (hf 18) (by conv => lhs; simp [go_sem])
                have y19 : A.eval (.tmp 19) = _ := Eq.trans (hf 19) (by conv => lhs; simp [go_sem])
                have y20 : A.eval (.tmp 20) = _ := Eq.trans (hf 20) (by conv => lhs; simp [go_sem])
                have y21 : A.eval (.tmp 21) = _ := Eq.trans (hf 21) (by conv => lhs; simp [go_sem])
                have y22 : A.eval (.tmp 22) = _ := Eq.trans (hf 22) (by conv => lhs; simp [go_sem])
                have y23 : A.eval (.tmp 23) = _ := Eq.trans (hf 23) (by conv => lhs; simp [go_sem])
                have y24 : A.eval (.tmp 24) = _ := Eq.trans (hf 24) (by conv => lhs; simp [go_sem])
                have y25 : A.eval (.tmp 25) = _ := Eq.trans (hf 25) (by conv => lhs; simp [go_sem])
                have y26 : A.eval (.tmp 26) = _ := Eq.trans (hf 26) (by conv => lhs; simp [go_sem])
                have y27 : A.eval (.tmp 27) = _ := Eq.trans (hf 27) (by conv => lhs; simp [go_sem])
                have y28 : A.eval (.tmp 28) = _ := Eq.trans (hf 28) (by conv => lhs; simp [go_sem])
                have y29 : A.eval (.tmp 29) = _ := Eq.trans (hf 29) (by conv => lhs; simp [go_sem])
                have y30 : A.eval (.tmp 30) = _ := Eq.trans (hf 30) (by conv => lhs; simp [go_sem])
                have y31 : A.eval (.tmp 31) = _ := Eq.trans (hf 31) (by conv => lhs; simp [go_sem])
                have y32 : A.eval (.tmp 32) = _ := Eq.trans (hf 32) (by conv => lhs; simp [go_sem])
                have y33 : A.eval (.tmp 33) = _ := Eq.trans (hf 33) (by conv => lhs; simp [go_sem])
                have y34 : A.eval (.tmp 34) = _ := Eq.trans (hf 34) (by conv => lhs; simp [go_sem])
                have y35 : A.eval (.tmp 35) = _ := Eq.trans (hf 35) (by conv => lhs; simp [go_sem])
                have y36 : A.eval (.tmp 36) = _ := Eq.trans (hf 36) (by conv => lhs; simp [go_sem])
                have y37 : A.eval (.tmp 37) = _ := Eq.trans (hf 37) (by conv => lhs; simp [go_sem])
                have y38 : A.eval (.tmp 38) = _ := Eq.trans (hf 38) (by conv => lhs; simp [go_sem])
                have y39 : A.eval (.tmp 39) = _ := hf 39
                have y40 : A.eval (.tmp 40) = _ := hf 40
                have y41 : A.eval (.tmp 41) = _ := hf 41
                have y42 : A.eval (.tmp 42) = _ := hf 42
                have y43 : A.eval (.tmp 43) = _ := hf 43
                have y44 : A.eval (.tmp 44) = _ := hf 44
                have y45 : A.eval (.tmp 45) = _ := hf 45
                have y46 : A.eval (.tmp 46) = _ := hf 46
                have y47 : A.eval (.tmp 47) = _ := hf 47
                have y48 : A.eval (.tmp 48) = _ := hf 48
                have y49 : A.eval (.tmp 49) = _ := hf 49
                have y50 : A.eval (.tmp 50) = _ := hf 50
                have y51 : A.eval (.tmp 51) = _ := hf 51
                have y52 : A.eval (.tmp 52) = _ := hf 52
                have y53 : A.eval (.tmp 53) = _ := hf 53
                have y54 : A.eval (.tmp 54) = _ := hf 54
                have y55 : A.eval (.tmp 55) = _ := Eq.trans (hf 55) (by conv => lhs; simp [go_sem])
                have y56 : A.eval (.tmp 56) = _ := Eq.trans (hf 56) (by conv => lhs; simp [go_sem])
                have y57 : A.eval (.tmp 57) = _ := Eq.trans (hf 57) (by conv => lhs; simp [go_sem])
                have y58 : A.eval (.tmp 58) = _ := Eq.trans (hf 58) (by conv => lhs; simp [go_sem])
                have y59 : A.eval (.tmp 59) = _ := Eq.trans (hf 59) (by conv => lhs; simp [go_sem])
                have y60 : A.eval (.tmp 60) = _ := Eq.trans (hf 60) (by conv => lhs; simp [go_sem])
                have y61 : A.eval (.tmp 61) = _ := Eq.trans (hf 61) (by conv => lhs; simp [go_sem])
                have y62 : A.eval (.tmp 62) = _ := Eq.trans (hf 62) (by conv => lhs; simp [go_sem])
                have y63 : A.eval (.tmp 63) = _ := Eq.trans (hf 63) (by conv => lhs; simp [go_sem])
                have y64 : A.eval (.tmp 64) = _ := Eq.trans (hf 64) (by conv => lhs; simp [go_sem])
                have y65 : A.eval (.tmp 65) = _ := Eq.trans (hf 65) (by conv => lhs; simp [go_sem])
                have y66 : A.eval (.tmp 66) = _ := Eq.trans (hf 66) (by conv => lhs; simp [go_sem])
                have y67 : A.eval (.tmp 67) = _ := Eq.trans (hf 67) (by conv => lhs; simp [go_sem])
                have y68 : A.eval (.tmp 68) = _ := Eq.trans (hf 68) (by conv => lhs; simp [go_sem])
                have y69 : A.eval (.tmp 69) = _ := Eq.trans (hf 69) (by conv => lhs; simp [go_sem])
                have y70 : A.eval (.tmp 70) = _ := Eq.trans (hf 70) (by conv => lhs; simp [go_sem])
                have y71 : A.eval (.tmp 71) = _ := Eq.trans (hf 71) (by conv => lhs; simp [go_sem])
                have y72 : A.eval (.tmp 72) = _ := Eq.trans (hf 72) (by conv => lhs; simp [go_sem])
                have y73 : A.eval (.tmp 73) = _ := Eq.trans (hf 73) (by conv => lhs; simp [go_sem])
                have y74 : A.eval (.tmp 74) = _ := Eq.trans (hf 74) (by conv => lhs; simp [go_sem])
                have y75 : A.eval (.tmp 75) = _ := Eq.trans (hf 75) (by conv => lhs; simp [go_sem])
                have y76 : A.eval (.tmp 76) = _ := Eq.trans (hf 76) (by conv => lhs; simp [go_sem])
                have y77 : A.eval (.tmp 77) = _ := Eq.trans (hf 77) (by conv => lhs; simp [go_sem])
                have y78 : A.eval (.tmp 78) = _ := Eq.trans (hf 78) (by conv => lhs; simp [go_sem])
                have y79 : A.eval (.tmp 79) = _ := Eq.trans (hf 79) (by conv => lhs; simp [go_sem])
                have y80 : A.eval (.tmp 80) = _ := Eq.trans (hf 80) (by conv => lhs; simp [go_sem])
                have y81 : A.eval (.tmp 81) = _ := Eq.trans (hf 81) (by conv => lhs; simp [go_sem])
                have y82 : A.eval (.tmp 82) = _ := Eq.trans (hf 82) (by conv => lhs; simp [go_sem])
                have y83 : A.eval (.tmp 83) = _ := Eq.trans (hf 83) (by conv => lhs; simp [go_sem])
                have y84 : A.eval (.tmp 84) = _ := Eq.trans (hf 84) (by conv => lhs; simp [go_sem])
                have y85 : A.eval (.tmp 85) = _ := Eq.trans (hf 85) (by conv => lhs; simp [go_sem])
                have y86 : A.eval (.tmp 86) = _ := Eq.trans (hf 86) (by conv => lhs; simp [go_sem])
                have y87 : A.eval (.tmp 87) = _ := Eq.trans (hf 87) (by conv => lhs; simp [go_sem])
                have y88 : A.eval (.tmp 88) = _ := Eq.trans (hf 88) (by conv => lhs; simp [go_sem])
                have y89 : A.eval (.tmp 89) = _ := Eq.trans (hf 89) (by conv => lhs; simp [go_sem])
                have y90 : A.eval (.tmp 90) = _ := Eq.trans (hf 90) (by conv => lhs; simp [go_sem])
                have y91 : A.eval (.tmp 91) = _ := Eq.trans (hf 91) (by conv => lhs; simp [go_sem])
                have y92 : A.eval (.tmp 92) = _ := Eq.trans (hf 92) (by conv => lhs; simp [go_sem])
                have y93 : A.eval (.tmp 93) = _ := Eq.trans (hf 93) (by conv => lhs; simp [go_sem])
                have y94 : A.eval (.tmp 94) = _ := Eq.trans (hf 94) (by conv => lhs; simp [go_sem])
                have y95 : A.eval (.tmp 95) = _ := Eq.trans (hf 95) (by conv => lhs; simp [go_sem])
                have y96 : A.eval (.tmp 96) = _ := Eq.trans (hf 96) (by conv => lhs; simp [go_sem])
                have y97 : A.eval (.tmp 97) = _ := Eq.trans (hf 97) (by conv => lhs; simp [go_sem])
                have y98 : A.eval (.tmp 98) = _ := Eq.trans (hf 98) (by conv => lhs; simp [go_sem])
                have y99 : A.eval (.tmp 99) = _ := Eq.trans (hf 99) (by conv => lhs; simp [go_sem])
                have y100 : A.eval (.tmp 100) = _ := Eq.trans (hf 100) (by conv => lhs; simp [go_sem])
                have y101 : A.eval (.tmp 101) = _ := Eq.trans (hf 101) (by conv => lhs; simp [go_sem])
                have y102 : A.eval (.tmp 102) = _ := Eq.trans (hf 102) (by conv => lhs; simp [go_sem])
                have y103 : A.eval (.tmp 103) = _ := Eq.trans (hf 103) (by conv => lhs; simp [go_sem])
                have y104 : A.eval (.tmp 104) = _ := Eq.trans (hf 104) (by conv => lhs; simp [go_sem])
                have y105 : A.eval (.tmp 105) = _ := Eq.trans (hf 105) (by conv => lhs; simp [go_sem])
                have y106 : A.eval (.tmp 106) = _ := Eq.trans (hf 106) (by conv => lhs; simp [go_sem])
                have y107 : A.eval (.tmp 107) = _ := Eq.trans (hf 107) (by conv => lhs; simp [go_sem])
                have y108 : A.eval (.tmp 108) = _ := Eq.trans (hf 108) (by conv => lhs; simp [go_sem])
                have y109 : A.eval (.tmp 109) = _ := Eq.trans (hf 109) (by conv => lhs; simp [go_sem])
                have y110 : A.eval (.tmp 110) = _ := Eq.trans (hf 110) (by conv => lhs; simp [go_sem])
                have y111 : A.eval (.tmp 111) = _ := Eq.trans (hf 111) (by conv => lhs; simp [go_sem])
                have y112 : A.eval (.tmp 112) = _ := Eq.trans (hf 112) (by conv => lhs; simp [go_sem])
                have y113 : A.eval (.tmp 113) = _ := Eq.trans (hf 113) (by conv => lhs; simp [go_sem])
                have y114 : A.eval (.tmp 114) = _ := Eq.trans (hf 114) (by conv => lhs; simp [go_sem])
                have y115 : A.eval (.tmp 115) = _ := Eq.trans (hf 115) (by conv => lhs; simp [go_sem])
                have y116 : A.eval (.tmp 116) = _ := Eq.trans (hf 116) (by conv => lhs; simp [go_sem])
                have y117 : A.eval (.tmp 117) = _ := Eq.trans (hf 117) (by conv => lhs; simp [go_sem])
                have y118 : A.eval (.tmp 118) = _ := Eq.trans (hf 118) (by conv => lhs; simp [go_sem])
                have y119 : A.eval (.tmp 119) = _ := Eq.trans (hf 119) (by conv => lhs; simp [go_sem])
                have y120 : A.eval (.tmp 120) = _ := Eq.trans (hf 120) (by conv => lhs; simp [go_sem])
                clear hf
                have hA := frame_eq hn
                rw [show List.range 121 = [0, 1, 2, 3, 4, 5, 6, 7, 8, 9, 10, 11, 12, 13, 14, 15, 16, 17, 18, 19, 20, 21, 22, 23, 24, 25, 26, 27, 28, 29, 30, 31, 32, 33, 34, 35, 36, 37, 38, 39, 40, 41, 42, 43, 44, 45, 46, 47, 48, 49, 50, 51, 52, 53, 54, 55, 56, 57, 58, 59, 60, 61, 62, 63, 64, 65, 66, 67, 68, 69, 70, 71, 72, 73, 74, 75, 76, 77, 78, 79, 80, 81, 82, 83, 84, 85, 86, 87, 88, 89, 90, 91, 92, 93, 94, 95, 96, 97, 98, 99, 100, 101, 102, 103, 104, 105, 106, 107, 108, 109, 110, 111, 112, 113, 114, 115, 116, 117, 118, 119, 120] from rfl, hd] at hA
                simp only [List.map_cons, List.map_nil, y0, y1, y2, y3, y4, y5, y6, y7, y8, y9, y10, y11, y12, y13, y14, y15, y16, y17, y18, y19, y20, y21, y22, y23, y24, y25, y26, y27, y28, y29, y30, y31, y32, y33, y34, y35, y36, y37, y38, y39, y40, y41, y42, y43, y44, y45, y46, y47, y48, y49, y50, y51, y52, y53, y54, y55, y56, y57, y58, y59, y60, y61, y62, y63, y64, y65, y66, y67, y68, y69, y70, y71, y72, y73, y74, y75, y76, y77, y78, y79, y80, y81, y82, y83, y84, y85, y86, y87, y88, y89, y90, y91, y92, y93, y94, y95, y96, y97, y98, y99, y100, y101, y102, y103, y104, y105, y106, y107, y108, y109, y110, y111, y112, y113, y114, y115, y116, y117, y118, y119, y120] at hA
                clear y0 y1 y2 y3 y4 y5 y6 y7 y8 y9 y10 y11 y12 y13 y14 y15 y16 y17 y18 y19 y20 y21 y22 y23 y24 y25 y26 y27 y28 y29 y30 y31 y32 y33 y34 y35 y36 y37 y38 y39 y40 y41 y42 y43 y44 y45 y46 y47 y48 y49 y50 y51 y52 y53 y54 y55 y56 y57 y58 y59 y60 y61 y62 y63 y64 y65 y66 y67 y68 y69 y70 y71 y72 y73 y74 y75 y76 y77 y78 y79 y80 y81 y82 y83 y84 y85 y86 y87 y88 y89 y90 y91 y92 y93 y94 y95 y96 y97 y98 y99 y100 y101 y102 y103 y104 y105 y106 y107 y108 y109 y110 y111 y112 y113 y114 y115 y116 y117 y118 y119 y120
                clear hn hd
                subst hA
                have HB5 := Lib.hid (HBW.out.trans (hC.mono HBW.out.size))
                clear hC kc HBW E1 E2
                go_wp2_with fail
                go_roundw
                case rel => exact ⟨k + 1, n + 1, by omega, by go_num, by go_num, by omega, HST.out, HB5.out⟩
                case measure => simp [intOf]; omega
          · obtain rfl : k = z0.length := by omega
            have hcn := HCN.out
            rw [List.take_length] at hcn
            have hsum : nd + nu = n := by
              rw [← HND.out, ← HNU.out, ← HDD.out, ← HUU.out, dirI_len, dirI_len, ← hcn]
              exact dir_cnt x1 z0 (fun y hy => vk_tld HOK.out hy)
            have HSU := Lib.hid hsum
            clear hcn hsum HCN hk hit
            replace H0 := Lib.hid (H0.out.below HBW.out)
            replace X1 := Lib.hid (X1.out.below HBW.out)
            replace HD := Lib.hid (Zs_low HD.out HBW.out)
            replace HU := Lib.hid (Zs_low HU.out HBW.out)
            replace HB := Lib.hid (HB.out.trans (HBW.out.mono HB.out.size))
            clear HBW
            obtain ⟨⟨u0, u1, u2, u3, u4, u5⟩, -⟩ := X1.out
            go_wp2_with fail
            refine (vlow_any _ z0 _ H0.out (Nat.le_trans HL.out (by decide))).mono ?_
            rintro e W31 ⟨rfl, hb⟩
            replace H0 := Lib.hid (H0.out.below hb)
            replace X1 := Lib.hid (X1.out.below hb)
            replace HD := Lib.hid (Zs_low HD.out hb)
            replace HU := Lib.hid (Zs_low HU.out hb)
            replace HB := Lib.hid (HB.out.trans (hb.mono HB.out.size))
            clear hb
            clear u0 u1 u2 u3 u4 u5
            obtain ⟨⟨u0, u1, u2, u3, u4, u5⟩, -⟩ := X1.out
            obtain ⟨lw, hlw⟩ : ∃ lw, (lowF z0).1 = lw := ⟨_, rfl⟩
            rw [hlw]
            have HLW := Lib.hid hlw
            clear hlw
            obtain ⟨W32, hW⟩ : ∃ W32, W31.alloc (.cells #[.int .i64 lw.1, .bool lw.2.1, .int .i64 lw.2.2.1, .int .i64 lw.2.2.2.1, .int .i64 lw.2.2.2.2.1, .int .i64 lw.2.2.2.2.2.1, .int .i64 lw.2.2.2.2.2.2] 43) = W32 := ⟨_, rfl⟩
            have hb : Below W31.heap.size W31 W32 := hW ▸ (Below.refl _ W31).alloc (Nat.le_refl _) _
            have X9 := Lib.hid (hW ▸ ownV_alloc W31 lw W31.heap.size rfl 43)
            have HW := Lib.hid hW
            clear hW
            go_upto_region 12 with (fail)
            change Code.wp _ _ _ _ (W31.alloc (.cells #[.int .i64 lw.1, .bool lw.2.1, .int .i64 lw.2.2.1, .int .i64 lw.2.2.2.1, .int .i64 lw.2.2.2.2.1, .int .i64 lw.2.2.2.2.2.1, .int .i64 lw.2.2.2.2.2.2] 43))
            rw [HW.out]
            replace H0 := Lib.hid (H0.out.below hb)
            replace X1 := Lib.hid (X1.out.below hb)
            replace HD := Lib.hid (Zs_low HD.out hb)
            replace HU := Lib.hid (Zs_low HU.out hb)
            replace HB := Lib.hid (HB.out.trans (hb.mono HB.out.size))
            clear hb HW
            clear u0 u1 u2 u3 u4 u5
            obtain ⟨⟨u0, u1, u2, u3, u4, u5⟩, -⟩ := X1.out
            obtain ⟨g9, hg9⟩ : ∃ g9, W31.heap.size = g9 := ⟨_, rfl⟩
            rw [hg9] at X9 ⊢
            clear hg9
            go_wp2_with fail
            refine (lnext_any _ z0 x1 _ H0.out (Nat.le_trans HL.out (by decide))).mono ?_
            rintro e W33 ⟨rfl, hb⟩
            replace H0 := Lib.hid (H0.out.below hb)
            replace X1 := Lib.hid (X1.out.below hb)
            replace X9 := Lib.hid (X9.out.below hb)
            replace HD := Lib.hid (Zs_low HD.out hb)
            replace HU := Lib.hid (Zs_low HU.out hb)
            replace HB := Lib.hid (HB.out.trans (hb.mono HB.out.size))
            clear hb
            clear u0 u1 u2 u3 u4 u5
            obtain ⟨⟨u0, u1, u2, u3, u4, u5⟩, -⟩ := X1.out
            have hdl := dir_low (l := z0) HOK.out x1
            rw [HLW.out, HDD.out] at hdl
            have hdz : dirL z0 x1 1 = [] ∨ ∃ r, D = lw.1 :: r := by
              by_cases h : dirL z0 x1 1 = []
              · exact .inl h
              · exact .inr (hdl h).2
            clear hdl
            rcases hdz with hd | ⟨r, hd⟩
            · have hd : D = [] := by rw [← HDD.out]; unfold dirI; rw [hd]; rfl
              have hnx : nxtF z0 x1 = (0, false) := by
                unfold nxtF
                rw [HDD.out, hd]
                rfl
              rw [hnx]
              clear hnx
              obtain rfl : nd = 0 := by have h1 := HND.out; rw [hd] at h1; exact h1.symm
              obtain rfl : nu = n := by have := HSU.out; omega
              have t1 : True := trivial
              have s1 : IntKind.i64.wrap (nu : Int) = (nu : Int) := by rw [IntKind.wrap_i64]; omega
              have s2 : True := trivial
              clear hd
              go_upto_region 15 with (fail)
              clear t1 s1 s2
              cases hn0 : x1.1 with
              | true =>
                have HNO := Lib.hid hn0
                clear hn0
                have hu0 : nu = 0 := by
                  have h1 := dir_up0 (l := z0) (own := x1) (by show told _ _ _ _ _ _ = false; unfold told; rw [HNO.out]; simp)
                  rw [HUU.out] at h1
                  rw [← HNU.out, h1]; rfl
                have n0 := HNO.out
                go_upto_region 16 with (fail)
                clear n0
                go_wp2_with fail
                refine (awake18 _).mono ?_
                rintro e W34 ⟨rfl, hb⟩
                replace H0 := Lib.hid (H0.out.below hb)
                replace HD := Lib.hid (Zs_low HD.out hb)
                replace HU := Lib.hid (Zs_low HU.out hb)
                replace HB := Lib.hid (HB.out.trans (hb.mono HB.out.size))
                clear u0 u1 u2 u3 u4 u5
                clear hb
                have hu1 : (nu : Int) = 0 := by omega
                go_wp2_with fail
                go_ret
                exact ⟨rfl, HB.out⟩
              | false =>
                have HNO := Lib.hid hn0
                clear hn0
                have ht : tld x1 = true := by show told _ _ _ _ _ _ = true; unfold told; rw [decide_eq_true HHO.out, HNO.out]; rfl
                have eb := dir_bel (l := z0) ht
                have ea := dir_abo (l := z0) ht
                rw [HDD.out] at eb
                rw [HUU.out] at ea
                have hd2 := HD.out
                have hu2 := HU.out
                rw [HND.out, eb] at hd2
                rw [HNU.out, ea] at hu2
                have HD2 := Lib.hid hd2
                have HU2 := Lib.hid hu2
                have n0 := HNO.out
                go_upto_region 17 with (fail)
                clear n0 eb ea hd2 hu2 ht
                go_wp2_with fail
                refine (awake18 _).mono ?_
                rintro e W34 ⟨rfl, hb⟩
                replace H0 := Lib.hid (H0.out.below hb)
                replace X1 := Lib.hid (X1.out.below hb)
                replace X9 := Lib.hid (X9.out.below hb)
                replace HD2 := Lib.hid (Zs_low HD2.out hb)
                replace HU2 := Lib.hid (Zs_low HU2.out hb)
                replace HB := Lib.hid (HB.out.trans (hb.mono HB.out.size))
                clear hb
                clear u0 u1 u2 u3 u4 u5
                obtain ⟨⟨u0, u1, u2, u3, u4, u5⟩, -⟩ := X1.out
                go_wp2_with fail
                refine (vbel_any _ z0 x1 _ H0.out (Nat.le_trans HL.out (by decide))).mono ?_
                rintro e W35 ⟨rb, rfl, hz, hb⟩
                replace H0 := Lib.hid (H0.out.below hb)
                replace X1 := Lib.hid (X1.out.below hb)
                replace X9 := Lib.hid (X9.out.below hb)
                replace HD2 := Lib.hid (Zs_low HD2.out hb)
                replace HU2 := Lib.hid (Zs_low HU2.out hb)
                replace HB := Lib.hid (HB.out.trans (hb.mono HB.out.size))
                have HR1 := Lib.hid hz
                clear hz
                clear hb
                clear u0 u1 u2 u3 u4 u5
                obtain ⟨⟨u0, u1, u2, u3, u4, u5⟩, -⟩ := X1.out
                go_wp2_with fail
                refine (ints_yes HD2.out HR1.out).mono ?_
                rintro e W36 ⟨rfl, hb⟩
                replace H0 := Lib.hid (H0.out.below hb)
                replace X1 := Lib.hid (X1.out.below hb)
                replace X9 := Lib.hid (X9.out.below hb)
                replace HD2 := Lib.hid (Zs_low HD2.out hb)
                replace HU2 := Lib.hid (Zs_low HU2.out hb)
                replace HR1 := Lib.hid (Zs_low HR1.out hb)
                replace HB := Lib.hid (HB.out.trans (hb.mono HB.out.size))
                clear hb
                clear u0 u1 u2 u3 u4 u5
                obtain ⟨⟨u0, u1, u2, u3, u4, u5⟩, -⟩ := X1.out
                go_wp2_with fail
                refine (vabo_any _ z0 x1 _ H0.out (Nat.le_trans HL.out (by decide))).mono ?_
                rintro e W37 ⟨rb2, rfl, hz, hb⟩
                replace H0 := Lib.hid (H0.out.below hb)
                replace X1 := Lib.hid (X1.out.below hb)
                replace X9 := Lib.hid (X9.out.below hb)
                replace HD2 := Lib.hid (Zs_low HD2.out hb)
                replace HU2 := Lib.hid (Zs_low HU2.out hb)
                replace HR1 := Lib.hid (Zs_low HR1.out hb)
                replace HB := Lib.hid (HB.out.trans (hb.mono HB.out.size))
                have HR2 := Lib.hid hz
                clear hz
                clear hb
                clear u0 u1 u2 u3 u4 u5
                obtain ⟨⟨u0, u1, u2, u3, u4, u5⟩, -⟩ := X1.out
                go_wp2_with fail
                refine (ints_yes HU2.out HR2.out).mono ?_
                rintro e W38 ⟨rfl, hb⟩
                replace H0 := Lib.hid (H0.out.below hb)
                replace X1 := Lib.hid (X1.out.below hb)
                replace X9 := Lib.hid (X9.out.below hb)
                replace HD2 := Lib.hid (Zs_low HD2.out hb)
                replace HU2 := Lib.hid (Zs_low HU2.out hb)
                replace HR1 := Lib.hid (Zs_low HR1.out hb)
                replace HR2 := Lib.hid (Zs_low HR2.out hb)
                replace HB := Lib.hid (HB.out.trans (hb.mono HB.out.size))
                clear hb
                go_wp2_with fail
                go_ret
                exact ⟨rfl, HB.out⟩
            · have hd : D = lw.1 :: r := hd
              have hnx : nxtF z0 x1 = (lw.1, true) := by
                unfold nxtF
                rw [HDD.out, hd]
                rfl
              rw [hnx]
              clear hnx
              obtain ⟨b8, off8, rfl, c8⟩ := (show ∃ b off, ad = some ⟨b, off, none⟩ ∧ W33.cell? ⟨b, off, none⟩ = some (.int .i64 lw.1) by
                obtain ⟨a3, c3, e3, _, _, h4⟩ := Zs_open HD.out
                obtain ⟨b, off, e1, e2⟩ := h4 0 (by rw [hd]; simp)
                simp only [Value.slice.injEq] at e3
                rw [← e3.1] at e1
                rw [hd] at e2
                exact ⟨b, off, e1, e2⟩)
              have c9 : W33.cell? ⟨g9, 0, none⟩ = some (.int .i64 lw.1) := X9.out.1.1
              have t1 : (0 : Int) < (nd : Int) := by have h1 := HND.out; rw [hd] at h1; simp at h1; omega
              have s1 : IntKind.i64.wrap ((nd : Int) + (nu : Int)) = (n : Int) := by have := HSU.out; rw [IntKind.wrap_i64]; omega
              have s2 : (nd : Int) + (nu : Int) = (n : Int) := by have := HSU.out; omega
              clear hd
              go_upto_region 15 with (fail)
              clear t1 s1 s2 c8 c9
              cases hn0 : x1.1 with
              | true =>
                have HNO := Lib.hid hn0
                clear hn0
                have hu0 : nu = 0 := by
                  have h1 := dir_up0 (l := z0) (own := x1) (by show told _ _ _ _ _ _ = false; unfold told; rw [HNO.out]; simp)
                  rw [HUU.out] at h1
                  rw [← HNU.out, h1]; rfl
                have n0 := HNO.out
                go_upto_region 16 with (fail)
                clear n0
                go_wp2_with fail
                refine (awake18 _).mono ?_
                rintro e W34 ⟨rfl, hb⟩
                replace H0 := Lib.hid (H0.out.below hb)
                replace HD := Lib.hid (Zs_low HD.out hb)
                replace HU := Lib.hid (Zs_low HU.out hb)
                replace HB := Lib.hid (HB.out.trans (hb.mono HB.out.size))
                clear u0 u1 u2 u3 u4 u5
                clear hb
                have hu1 : (nu : Int) = 0 := by omega
                go_wp2_with fail
                go_ret
                exact ⟨rfl, HB.out⟩
              | false =>
                have HNO := Lib.hid hn0
                clear hn0
                have ht : tld x1 = true := by show told _ _ _ _ _ _ = true; unfold told; rw [decide_eq_true HHO.out, HNO.out]; rfl
                have eb := dir_bel (l := z0) ht
                have ea := dir_abo (l := z0) ht
                rw [HDD.out] at eb
                rw [HUU.out] at ea
                have hd2 := HD.out
                have hu2 := HU.out
                rw [HND.out, eb] at hd2
                rw [HNU.out, ea] at hu2
                have HD2 := Lib.hid hd2
                have HU2 := Lib.hid hu2
                have n0 := HNO.out
                go_upto_region 17 with (fail)
                clear n0 eb ea hd2 hu2 ht
                go_wp2_with fail
                refine (awake18 _).mono ?_
                rintro e W34 ⟨rfl, hb⟩
                replace H0 := Lib.hid (H0.out.below hb)
                replace X1 := Lib.hid (X1.out.below hb)
                replace X9 := Lib.hid (X9.out.below hb)
                replace HD2 := Lib.hid (Zs_low HD2.out hb)
                replace HU2 := Lib.hid (Zs_low HU2.out hb)
                replace HB := Lib.hid (HB.out.trans (hb.mono HB.out.size))
                clear hb
                clear u0 u1 u2 u3 u4 u5
                obtain ⟨⟨u0, u1, u2, u3, u4, u5⟩, -⟩ := X1.out
                go_wp2_with fail
                refine (vbel_any _ z0 x1 _ H0.out (Nat.le_trans HL.out (by decide))).mono ?_
                rintro e W35 ⟨rb, rfl, hz, hb⟩
                replace H0 := Lib.hid (H0.out.below hb)
                replace X1 := Lib.hid (X1.out.below hb)
                replace X9 := Lib.hid (X9.out.below hb)
                replace HD2 := Lib.hid (Zs_low HD2.out hb)
                replace HU2 := Lib.hid (Zs_low HU2.out hb)
                replace HB := Lib.hid (HB.out.trans (hb.mono HB.out.size))
                have HR1 := Lib.hid hz
                clear hz
                clear hb
                clear u0 u1 u2 u3 u4 u5
                obtain ⟨⟨u0, u1, u2, u3, u4, u5⟩, -⟩ := X1.out
                go_wp2_with fail
                refine (ints_yes HD2.out HR1.out).mono ?_
                rintro e W36 ⟨rfl, hb⟩
                replace H0 := Lib.hid (H0.out.below hb)
                replace X1 := Lib.hid (X1.out.below hb)
                replace X9 := Lib.hid (X9.out.below hb)
                replace HD2 := Lib.hid (Zs_low HD2.out hb)
                replace HU2 := Lib.hid (Zs_low HU2.out hb)
                replace HR1 := Lib.hid (Zs_low HR1.out hb)
                replace HB := Lib.hid (HB.out.trans (hb.mono HB.out.size))
                clear hb
                clear u0 u1 u2 u3 u4 u5
                obtain ⟨⟨u0, u1, u2, u3, u4, u5⟩, -⟩ := X1.out
                go_wp2_with fail
                refine (vabo_any _ z0 x1 _ H0.out (Nat.le_trans HL.out (by decide))).mono ?_
                rintro e W37 ⟨rb2, rfl, hz, hb⟩
                replace H0 := Lib.hid (H0.out.below hb)
                replace X1 := Lib.hid (X1.out.below hb)
                replace X9 := Lib.hid (X9.out.below hb)
                replace HD2 := Lib.hid (Zs_low HD2.out hb)
                replace HU2 := Lib.hid (Zs_low HU2.out hb)
                replace HR1 := Lib.hid (Zs_low HR1.out hb)
                replace HB := Lib.hid (HB.out.trans (hb.mono HB.out.size))
                have HR2 := Lib.hid hz
                clear hz
                clear hb
                clear u0 u1 u2 u3 u4 u5
                obtain ⟨⟨u0, u1, u2, u3, u4, u5⟩, -⟩ := X1.out
                go_wp2_with fail
                refine (ints_yes HU2.out HR2.out).mono ?_
                rintro e W38 ⟨rfl, hb⟩
                replace H0 := Lib.hid (H0.out.below hb)
                replace X1 := Lib.hid (X1.out.below hb)
                replace X9 := Lib.hid (X9.out.below hb)
                replace HD2 := Lib.hid (Zs_low HD2.out hb)
                replace HU2 := Lib.hid (Zs_low HU2.out hb)
                replace HR1 := Lib.hid (Zs_low HR1.out hb)
                replace HR2 := Lib.hid (Zs_low HR2.out hb)
                replace HB := Lib.hid (HB.out.trans (hb.mono HB.out.size))
                clear hb
                go_wp2_with fail
                go_ret
                exact ⟨rfl, HB.out⟩
      · have CC := Lib.hid (fun W => check_any x1.1 x1.2.1 x1.2.2.1 x1.2.2.2.1 x1.2.2.2.2.1 x1.2.2.2.2.2 W)
        rw [chk_no ho] at CC
        clear ho
        go_enter Try.func5, Try.ntmps5
        obtain ⟨W1, hW⟩ : ∃ W1, w.alloc (.cells #[.bool x1.1, .int .i64 x1.2.1, .int .i64 x1.2.2.1, .int .i64 x1.2.2.2.1, .int .i64 x1.2.2.2.2.1, .int .i64 x1.2.2.2.2.2] 24) = W1 := ⟨_, rfl⟩
        have hb : Below w.heap.size w W1 := hW ▸ (Below.refl _ w).alloc (Nat.le_refl _) _
        have X1 := Lib.hid (hW ▸ own6_alloc w x1.1 x1.2.1 x1.2.2.1 x1.2.2.2.1 x1.2.2.2.2.1 x1.2.2.2.2.2 24 w.heap.size rfl : Own6 W1 w.heap.size x1.1 x1.2.1 x1.2.2.1 x1.2.2.2.1 x1.2.2.2.2.1 x1.2.2.2.2.2)
        have HW := Lib.hid hW
        clear hW
        go_upto_region 1 with (fail)
        change Code.wp _ _ _ _ (w.alloc (.cells #[.bool x1.1, .int .i64 x1.2.1, .int .i64 x1.2.2.1, .int .i64 x1.2.2.2.1, .int .i64 x1.2.2.2.2.1, .int .i64 x1.2.2.2.2.2] 24))
        rw [HW.out]
        replace H0 := Lib.hid (H0.out.below hb)
        replace HB := Lib.hid (HB.out.trans (hb.mono HB.out.size))
        clear hb HW
        obtain ⟨⟨u0, u1, u2, u3, u4, u5⟩, -⟩ := X1.out
        go_wp2_with fail
        refine (C0.out _ H0.out).mono ?_
        rintro e W2 ⟨rfl, hb⟩
        replace H0 := Lib.hid (H0.out.below hb)
        replace X1 := Lib.hid (X1.out.below hb)
        replace HB := Lib.hid (HB.out.trans (hb.mono HB.out.size))
        clear hb
        clear u0 u1 u2 u3 u4 u5
        obtain ⟨⟨u0, u1, u2, u3, u4, u5⟩, -⟩ := X1.out
        go_wp2_with fail
        refine (CC.out _).mono ?_
        rintro e W3 ⟨rfl, hb⟩
        replace H0 := Lib.hid (H0.out.below hb)
        replace X1 := Lib.hid (X1.out.below hb)
        replace HB := Lib.hid (HB.out.trans (hb.mono HB.out.size))
        clear hb
        clear u0 u1 u2 u3 u4 u5
        obtain ⟨⟨u0, u1, u2, u3, u4, u5⟩, -⟩ := X1.out
        clear CC C0
        go_wp2_with fail
        refine (awake18 _).mono ?_
        rintro e W4 ⟨rfl, hb⟩
        replace H0 := Lib.hid (H0.out.below hb)
        replace X1 := Lib.hid (X1.out.below hb)
        replace HB := Lib.hid (HB.out.trans (hb.mono HB.out.size))
        clear hb
        go_wp2_with fail
        go_ret
        exact ⟨rfl, HB.out⟩
    · have hc0 : chkV z0 = 1 := by unfold chkV; rw [if_neg hok]
      have C0 := Lib.hid (fun W h => vchk_any (.slice a0 z0.length cap0) z0 W h (Nat.le_trans HL.out (by decide)))
      rw [hc0] at C0
      clear hok hc0
      go_enter Try.func5, Try.ntmps5
      obtain ⟨W1, hW⟩ : ∃ W1, w.alloc (.cells #[.bool x1.1, .int .i64 x1.2.1, .int .i64 x1.2.2.1, .int .i64 x1.2.2.2.1, .int .i64 x1.2.2.2.2.1, .int .i64 x1.2.2.2.2.2] 24) = W1 := ⟨_, rfl⟩
      have hb : Below w.heap.size w W1 := hW ▸ (Below.refl _ w).alloc (Nat.le_refl _) _
      have X1 := Lib.hid (hW ▸ own6_alloc w x1.1 x1.2.1 x1.2.2.1 x1.2.2.2.1 x1.2.2.2.2.1 x1.2.2.2.2.2 24 w.heap.size rfl : Own6 W1 w.heap.size x1.1 x1.2.1 x1.2.2.1 x1.2.2.2.1 x1.2.2.2.2.1 x1.2.2.2.2.2)
      have HW := Lib.hid hW
      clear hW
      go_upto_region 1 with (fail)
      change Code.wp _ _ _ _ (w.alloc (.cells #[.bool x1.1, .int .i64 x1.2.1, .int .i64 x1.2.2.1, .int .i64 x1.2.2.2.1, .int .i64 x1.2.2.2.2.1, .int .i64 x1.2.2.2.2.2] 24))
      rw [HW.out]
      replace H0 := Lib.hid (H0.out.below hb)
      replace HB := Lib.hid (HB.out.trans (hb.mono HB.out.size))
      clear hb HW
      obtain ⟨⟨u0, u1, u2, u3, u4, u5⟩, -⟩ := X1.out
      go_wp2_with fail
      refine (C0.out _ H0.out).mono ?_
      rintro e W2 ⟨rfl, hb⟩
      replace H0 := Lib.hid (H0.out.below hb)
      replace X1 := Lib.hid (X1.out.below hb)
      replace HB := Lib.hid (HB.out.trans (hb.mono HB.out.size))
      clear hb
      clear u0 u1 u2 u3 u4 u5
      obtain ⟨⟨u0, u1, u2, u3, u4, u5⟩, -⟩ := X1.out
      clear C0
      go_wp2_with fail
      refine (awake18 _).mono ?_
      rintro e W3 ⟨rfl, hb⟩
      replace H0 := Lib.hid (H0.out.below hb)
      replace X1 := Lib.hid (X1.out.below hb)
      replace HB := Lib.hid (HB.out.trans (hb.mono HB.out.size))
      clear hb
      go_wp2_with fail
      go_ret
      exact ⟨rfl, HB.out⟩
theorem walk (a0 : Option Addr) (cap0 : Nat) (z0 : List Vw) (n1 : Bool) (t1 o1 r1 d1 i1 : Int) (w1 : I64 t1 ∧ I64 o1 ∧ I64 r1 ∧ I64 d1 ∧ I64 i1) (w : World) (r0 : Vs w (.slice a0 z0.length cap0) z0) :
    Calls Try.prog 5 #[.slice a0 z0.length cap0, .agg #[.bool n1, .int .i64 t1, .int .i64 o1, .int .i64 r1, .int .i64 d1, .int .i64 i1]] w fun e w' => e = .returned (.bool true) ∧ Below w.heap.size w w' := walk0 a0 cap0 z0 (n1, t1, o1, r1, d1, i1) w r0

set_option maxRecDepth 100000 in
theorem lifted (os : _root_.Go.Os) (started : os.Started) (H : Type) (enc : TypeId × Value → H) :
    ReturnsInHanded {} Try.checked os 5 .any (Rows.linksSplitSpec.pre6 enc Try.prog Try.f5 Rows.linksSplitRow.domain false) (Rows.linksSplitSpec.post enc Try.prog Try.f5 false true false false) := by
  refine returnsInHanded_of_change (C := Try.checked) own started (by kernel_rfl) Try.func5
    (ChangeSpec.witness6 (enc := enc) (C := Try.checked) false ⟨#[], #[.slice none 0 0, .agg #[.bool false, .int .i64 0, .int .i64 0, .int .i64 0, .int .i64 0, .int .i64 0]], []⟩ 16 (by kernel_rfl) (by kernel_rfl) (by kernel_rfl) (by kernel_rfl)) ?_
  intro W base args ds gs before hval0 hW hcnd _
  have hval : ∀ (j : Nat) t v, Try.f5.params[j]? = some t → args[j]? = some v → Value.okWide Try.prog W .any base t v := hval0
  have hW' := hW
  obtain ⟨p, q, hA0, hV, rfl, hfz, hnd⟩ := hW
  have hA : DataW.TrodAll enc Try.prog W 0 (fun _ => true) true Try.f5.params.toList args.toList ds p := hA0
  rw [Try.params5] at hA hval
  obtain ⟨v0, vs0, e0, ds0, p0, q0, hargs, rfl, rfl, h0, x0⟩ := trodAll_cons hA
  obtain ⟨v1, vs1, e1, ds1, p1, q1, rfl, rfl, rfl, h1, x1⟩ := trodAll_cons x0
  obtain ⟨rfl, rfl, rfl⟩ := trodAll_nil x1
  obtain rfl : args = #[v0, v1] := by cases args; simp_all
  obtain ⟨rfl, rfl⟩ := trodVars_none hV
  have k0 := h0
  have lt0 : ∀ x ∈ p0, x.block < W.heap.size := by obtain ⟨m, hm⟩ := k0; exact DataW.trod_lt m _ _ _ hm
  have k1 := h1
  have lt1 : ∀ x ∈ p1, x.block < W.heap.size := by obtain ⟨m, hm⟩ := k1; exact DataW.trod_lt m _ _ _ hm
  obtain ⟨n1, t1, o1, r1, d1, i1, rfl, w1⟩ := ht_form (hval 1 24 v1 rfl rfl) h1
  obtain ⟨a0, len0, cap0, rfl⟩ := okWide_slice underVS (hval 0 22 v0 rfl rfl)
  obtain ⟨z0, hz0, w0, hm0⟩ := vs_form h0
  subst hz0
  clear hA0 hval0
  refine (walk a0 cap0 z0 n1 t1 o1 r1 d1 i1 w1 W w0).mono fun e W' ⟨he, bel⟩ => ?_
  subst he
  exact ⟨_, rfl, _, _, _, [], _, [], hW', trodAll_mk1 (shut_bool Try.underlying4 _), (trodAll_cons_mk (Below.trod laidOut (by kernel_rfl) (of_decide_eq_true (by kernel_rfl)) k0 bel lt0) (trodAll_cons_mk (Below.trod laidOut (by kernel_rfl) (of_decide_eq_true (by kernel_rfl)) k1 bel lt1) trodAll_mk0)), rfl, bel.frame _, fun h => by cases h⟩

theorem over : Rows.linksSplitRow.holds Try.pinned (OpenSpec.ofChange Rows.linksSplitSpec) :=
  OpenClaim.holds_of_wide 5 Try.f5 rfl rfl rfl rfl rfl rfl rfl ⟨rfl, rfl, rfl, rfl, rfl⟩ rfl rfl rfl rfl rfl (by kernel_rfl) Try.func5 (by kernel_rfl)
    (of_decide_eq_true (by kernel_rfl)) (by unfold Func.isWrapper; first | (rw [if_pos (by decide +kernel)]; kernel_rfl) | (rw [if_neg (by decide +kernel)]; exact ⟨rfl, rfl⟩))
    (fun os started H enc _ => lifted os started H enc)

theorem proved : Rows.LinksSplitSaid := over
#print axioms proved
end Go.Proofs.Ytmimgpnogjgliaa.linksSplit
