/- thalweglaw18.LinksLevels: for any views the law answers true; no condition. -/
import Derived.Test.YtmimgpnogjgliaaRb
import Derived.Test.YtmimgpnogjgliaaVb
import Derived.Test.YtmimgpnogjgliaaPb
import Derived.WalkLawsBesides
import Derived.WalkKit
import Derived.ProofKit
import Derived.OpenShut
import Derived.ShutString
import Derived.ChangeOld
import Derived.Below
namespace Go.Proofs.Ytmimgpnogjgliaa.linksLevels
open Go.ChangeShapes Go.WideShapes Go.ChangeAt Go.RowKit
open Go.ChangeMaps (open_string shut_string)
set_option linter.unusedVariables false
set_option maxRecDepth 100000

theorem own : ownKnob Try.prog.godebug = none := by kernel_rfl
theorem laidOut : laidOutB Try.prog = true := by kernel_rfl
set_option maxHeartbeats 16000000 in
theorem walk0 (a0 : Option Addr) (cap0 : Nat) (z0 : List Vw) (w : World) (r0 : Vs w (.slice a0 z0.length cap0) z0) :
    Calls Try.prog 6 #[.slice a0 z0.length cap0] w fun e w' => e = .returned (.bool true) ∧ Below w.heap.size w w' := by
  by_cases hl : 80 < z0.length
  · have hl' : (80 : Int) < (z0.length : Int) := by omega
    have C := Lib.hid (fun W => awake18 W)
    go_enter Try.func6, Try.ntmps6
    go_wp2_with fail
    refine (C.out _).mono ?_
    rintro e W1 ⟨rfl, hb⟩
    have HB := Lib.hid hb
    clear hb
    go_wp2_with fail
    go_ret
    exact ⟨rfl, HB.out⟩
  · have hl' : ¬ (80 : Int) < (z0.length : Int) := by omega
    have HL : Hid (z0.length ≤ 80) := by show _ ≤ _; omega
    have H0 := Lib.hid r0
    have C0 := Lib.hid (vchk_any _ z0 w H0.out (Nat.le_trans HL.out (by decide)))
    clear r0 hl
    by_cases hok : VOk z0
    · rw [show chkV z0 = 0 by unfold chkV; rw [if_pos hok]] at C0
      have HOK := Lib.hid hok
      have C1 := Lib.hid (fun W h => llev_any (.slice a0 z0.length cap0) z0 W h (Nat.le_trans HL.out (by decide)))
      have hln : (lvlF z0).length ≤ 80 := Nat.le_trans (lvlF_len z0) HL.out
      obtain ⟨ls, hls⟩ : ∃ ls, lvlF z0 = ls := ⟨_, rfl⟩
      rw [hls] at C1 hln
      have HLS := Lib.hid hls
      clear hok hls
      go_enter Try.func6, Try.ntmps6
      go_wp2_with fail
      refine C0.out.mono ?_
      rintro e W1 ⟨rfl, hb⟩
      have HB1 := Lib.hid hb
      have H1 := Lib.hid (H0.out.below hb)
      clear hb C0
      go_wp2_with fail
      refine (C1.out _ H1.out).mono ?_
      rintro e W2 ⟨r, rfl, hv, hb⟩
      obtain ⟨al, cl, rfl⟩ := hv.form
      have HV := Lib.hid hv
      have HB2 := Lib.hid (HB1.out.trans (hb.mono HB1.out.size))
      have H2 := Lib.hid (H1.out.below hb)
      clear hv hb C1 HB1 H1 H0
      obtain ⟨n, hn⟩ : ∃ n, ls.length = n := ⟨_, rfl⟩
      rw [hn] at hln ⊢
      have HN := Lib.hid hn
      clear hn
      go_wp2_with fail
      go_loopw [4] (fun iv wr => ∃ i : Nat, iv = .int .i64 ((i : Int) + 1) ∧ i ≤ n ∧ Hid (Below W2.heap.size W2 wr)) (fun iv _ => n + 1 - (intOf iv).toNat)
      case atStart => exact ⟨0, rfl, Nat.zero_le _, Below.refl _ _⟩
      case round =>
        obtain ⟨i, rfl, hi, HB⟩ := hrel
        by_cases hlt : i + 1 < n
        · have hltz : (i : Int) + 1 < (n : Int) := by omega
          have hv := lvl_rise z0 (i := i) (by rw [HLS.out, HN.out]; exact hlt)
          rw [HLS.out] at hv
          have hlv : Ls wr (.slice al ls.length cl) ls := HV.out.below HB.out
          obtain ⟨b2, off, rfl, hB, k1⟩ := hlv.at (show i < ls.length by rw [HN.out]; omega)
          obtain ⟨b3, off3, e3, hB3, k2⟩ := hlv.at (show i + 1 < ls.length by rw [HN.out]; omega)
          simp only [Option.some.injEq, Addr.mk.injEq, and_true] at e3
          obtain ⟨rfl, rfl⟩ := e3
          obtain ⟨x, hx⟩ : ∃ x, ls.getD i (0, 0, 0) = x := ⟨_, rfl⟩
          obtain ⟨y, hy⟩ : ∃ y, ls.getD (i + 1) (0, 0, 0) = y := ⟨_, rfl⟩
          rw [hx] at k1 hv
          rw [hy] at k2 hv
          have kc : ∀ w', Below wr.heap.size wr w' → (w'.cell? ⟨b2, off + i * 3, none⟩ = some (.int .i64 x.1) ∧ w'.cell? ⟨b2, off + i * 3 + 1, none⟩ = some (.int .i64 x.2.1) ∧ w'.cell? ⟨b2, off + i * 3 + 2, none⟩ = some (.int .i64 x.2.2)) ∧ (w'.cell? ⟨b2, off + (i + 1) * 3, none⟩ = some (.int .i64 y.1) ∧ w'.cell? ⟨b2, off + (i + 1) * 3 + 1, none⟩ = some (.int .i64 y.2.1) ∧ w'.cell? ⟨b2, off + (i + 1) * 3 + 2, none⟩ = some (.int .i64 y.2.2)) := fun w' hb => ⟨k1.below hb hB, k2.below hb hB⟩
          have cO := fun W => order_any x.1 x.2.1 x.2.2 y.1 y.2.1 y.2.2 W
          obtain ⟨o, ho⟩ : ∃ o, ordL x.1 x.2.1 x.2.2 y.1 y.2.1 y.2.2 = o := ⟨_, rfl⟩
          have hv2 : cmpL (lrow x) (lrow y) = o := ho
          rw [hv2] at hv
          rw [ho] at cO
          have rj : IntKind.i64.wrap (i : Int) = (i : Int) := by rw [IntKind.wrap_i64]; omega
          have bj : (i : Int) < (n : Int) := by omega
          have bk : (i : Int) + 1 < (n : Int) := by omega
          have ek : ((i : Int) + 1).toNat = i + 1 := by omega
          have pk : (0 : Int) ≤ (i : Int) + 1 := by omega
          have r2 : IntKind.i64.wrap ((i : Int) + 1 + 1) = (i : Int) + 1 + 1 := by rw [IntKind.wrap_i64]; omega
          clear hx hy ho hv2 k1 k2 hlv hB hB3
          go_upto_region 7 with (fail)
          refine wp_region_typed (C := fun w' => Below wr.heap.size wr w') (X := fun w w' => Below w.heap.size w w') (n := 96) (by kernel_rfl) (by kernel_rfl) rfl (fun w => Below.refl _ w) (Below.refl _ _).drew ?_
          refine w_is (fun w => Below.refl _ w) _ (.inl rfl) (fun ρ w hC hc hfn hf => by have e3 : ρ (.tmp 3) = _ := hf 3 (by decide); (conv => lhs; simp [execOp, go_sem, hc, e3])) ?_
          refine w_is (fun w => Below.refl _ w) _ (.inl rfl) (fun ρ w hC hc hfn hf => by have e4 : ρ (.tmp 4) = _ := hf 4 (by decide); (conv => lhs; simp [execOp, go_sem, hc, e4])) ?_
          refine w_is (fun w => Below.refl _ w) _ (.inl rfl) (fun ρ w hC hc hfn hf => by have e28 : ρ (.tmp 28) = _ := hf 28 (by decide); (conv => lhs; simp [execOp, go_sem, hc, e28, rj])) ?_
          refine w_is (fun w => Below.refl _ w) _ (.inl rfl) (fun ρ w hC hc hfn hf => by have e27 : ρ (.tmp 27) = _ := hf 27 (by decide); have e29 : ρ (.tmp 29) = _ := hf 29 (by decide); (conv => lhs; simp [execOp, go_sem, hc, e27, e29, bj])) ?_
          refine w_is (fun w => Below.refl _ w) _ (.inl rfl) (fun ρ w hC hc hfn hf => by have e30 : ρ (.tmp 30) = _ := hf 30 (by decide); (conv => lhs; simp [execOp, go_sem, hc, e30, kc w hC])) ?_
          refine w_is (fun w => Below.refl _ w) _ (.inl rfl) (fun ρ w hC hc hfn hf => by have e3 : ρ (.tmp 3) = _ := hf 3 (by decide); (conv => lhs; simp [execOp, go_sem, hc, e3])) ?_
          refine w_is (fun w => Below.refl _ w) _ (.inl rfl) (fun ρ w hC hc hfn hf => by have e4 : ρ (.tmp 4) = _ := hf 4 (by decide); (conv => lhs; simp [execOp, go_sem, hc, e4])) ?_
          refine w_is (fun w => Below.refl _ w) _ (.inl rfl) (fun ρ w hC hc hfn hf => by have e32 : ρ (.tmp 32) = _ := hf 32 (by decide); have e33 : ρ (.tmp 33) = _ := hf 33 (by decide); (conv => lhs; simp [execOp, go_sem, hc, e32, e33, bk, ek, pk])) ?_
          refine w_is (fun w => Below.refl _ w) _ (.inl rfl) (fun ρ w hC hc hfn hf => by have e34 : ρ (.tmp 34) = _ := hf 34 (by decide); (conv => lhs; simp [execOp, go_sem, hc, e34, kc w hC])) ?_
          refine w_call (Is _) (fun _ _ _ h _ => h) 29 (.inl rfl) (fun ρ w hC hc hfn hf => by have e31 : ρ (.tmp 31) = _ := hf 31 (by decide); have e35 : ρ (.tmp 35) = _ := hf 35 (by decide); exact ⟨_, by (conv => lhs; simp [execOp, resolve, invoke, go_sem, hc, hfn, e31, e35]), tc_below hC (cO w)⟩) ?_
          refine w_is (fun w => Below.refl _ w) _ (.inl rfl) (fun ρ w hC hc hfn hf => by have e36 : ρ (.tmp 36) = _ := hf 36 (by decide); (conv => lhs; simp [execOp, go_sem, hc, e36, hv])) ?_
          intro A V5 hC hn hd hf
          have y0 : A.eval (.tmp 0) = _ := Eq.trans (hf 0) (by conv => lhs; simp [go_sem])
          have y1 : A.eval (.tmp 1) = _ := Eq.trans (hf 1) (by conv => lhs; simp [go_sem])
          have y2 : A.eval (.tmp 2) = _ := Eq.trans (hf 2) (by conv => lhs; simp [go_sem])
          have y3 : A.eval (.tmp 3) = _ := Eq.trans (hf 3) (by conv => lhs; simp [go_sem])
          have y4 : A.eval (.tmp 4) = _ := Eq.trans (hf 4) (by conv => lhs; simp [go_sem])
          have y5 : A.eval (.tmp 5) = _ := Eq.trans (hf 5) (by conv => lhs; simp [go_sem])
          have y6 : A.eval (.tmp 6) = _ := Eq.trans (hf 6) (by conv => lhs; simp [go_sem])
          have y7 : A.eval (.tmp 7) = _ := Eq.trans (hf 7) (by conv => lhs; simp [go_sem])
          have y8 : A.eval (.tmp 8) = _ := Eq.trans (hf 8) (by conv => lhs; simp [go_sem])
          have y9 : A.eval (.tmp 9) = _ := Eq.trans (hf 9) (by conv => lhs; simp [go_sem])
          have y10 : A.eval (.tmp 10) = _ := Eq.trans (hf 10) (by conv => lhs; simp [go_sem])
          have y11 : A.eval (.tmp 11) = _ := Eq.trans (hf 11) (by conv => lhs; simp [go_sem])
          have y12 : A.eval (.tmp 12) = _ := Eq.trans (hf 12) (by conv => lhs; simp [go_sem])
          have y13 : A.eval (.tmp 13) = _ := Eq.trans (hf 13) (by conv => lhs; simp [go_sem])
          have y14 : A.eval (.tmp 14) = _ := Eq.trans (hf 14) (by conv => lhs; simp [go_sem])
          have y15 : A.eval (.tmp 15) = _ := Eq.trans (hf 15) (by conv => lhs; simp [go_sem])
          have y16 : A.eval (.tmp 16) = _ := Eq.trans (hf 16) (by conv => lhs; simp [go_sem])
          have y17 : A.eval (.tmp 17) = _ := Eq.trans (hf 17) (by conv => lhs; simp [go_sem])
          have y18 : A.eval (.tmp 18) = _ := Eq.trans (hf 18) (by conv => lhs; simp [go_sem])
          have y19 : A.eval (.tmp 19) = _ := Eq.trans (hf 19) (by conv => lhs; simp [go_sem])
          have y20 : A.eval (.tmp 20) = _ := Eq.trans (hf 20) (by conv => lhs; simp [go_sem])
          have y21 : A.eval (.tmp 21) = _ := Eq.trans (hf 21) (by conv => lhs; simp [go_sem])
          have y22 : A.eval (.tmp 22) = _ := Eq.trans (hf 22) (by conv => lhs; simp [go_sem])
          have y23 : A.eval (.tmp 23) = _ := Eq.trans (hf 23) (by conv => lhs; simp [go_sem])
          have y24 : A.eval (.tmp 24) = _ := Eq.trans (hf 24) (by conv => lhs; simp [go_sem])
          have y25 : A.eval (.tmp 25) = _ := Eq.trans (hf 25) (by conv => lhs; simp [go_sem])
          have y26 : A.eval (.tmp 26) = _ := Eq.trans (hf 26) (by conv => lhs; simp [go_sem])
          have y27 : A.eval (.tmp 27) = _ := hf 27
          have y28 : A.eval (.tmp 28) = _ := hf 28
          have y29 : A.eval (.tmp 29) = _ := hf 29
          have y30 : A.eval (.tmp 30) = _ := hf 30
          have y31 : A.eval (.tmp 31) = _ := hf 31
          have y32 : A.eval (.tmp 32) = _ := hf 32
          have y33 : A.eval (.tmp 33) = _ := hf 33
          have y34 : A.eval (.tmp 34) = _ := hf 34
          have y35 : A.eval (.tmp 35) = _ := hf 35
          have y36 : A.eval (.tmp 36) = _ := hf 36
          have y37 : A.eval (.tmp 37) = _ := hf 37
          have y38 : A.eval (.tmp 38) = _ := Eq.trans (hf 38) (by conv => lhs; simp [go_sem])
          have y39 : A.eval (.tmp 39) = _ := Eq.trans (hf 39) (by conv => lhs; simp [go_sem])
          have y40 : A.eval (.tmp 40) = _ := Eq.trans (hf 40) (by conv => lhs; simp [go_sem])
          have y41 : A.eval (.tmp 41) = _ := Eq.trans (hf 41) (by conv => lhs; simp [go_sem])
          have y42 : A.eval (.tmp 42) = _ := Eq.trans (hf 42) (by conv => lhs; simp [go_sem])
          have y43 : A.eval (.tmp 43) = _ := Eq.trans (hf 43) (by conv => lhs; simp [go_sem])
          have y44 : A.eval (.tmp 44) = _ := Eq.trans (hf 44) (by conv => lhs; simp [go_sem])
          have y45 : A.eval (.tmp 45) = _ := Eq.trans (hf 45) (by conv => lhs; simp [go_sem])
          have y46 : A.eval (.tmp 46) = _ := Eq.trans (hf 46) (by conv => lhs; simp [go_sem])
          have y47 : A.eval (.tmp 47) = _ := Eq.trans (hf 47) (by conv => lhs; simp [go_sem])
          have y48 : A.eval (.tmp 48) = _ := Eq.trans (hf 48) (by conv => lhs; simp [go_sem])
          have y49 : A.eval (.tmp 49) = _ := Eq.trans (hf 49) (by conv => lhs; simp [go_sem])
          have y50 : A.eval (.tmp 50) = _ := Eq.trans (hf 50) (by conv => lhs; simp [go_sem])
          have y51 : A.eval (.tmp 51) = _ := Eq.trans (hf 51) (by conv => lhs; simp [go_sem])
          have y52 : A.eval (.tmp 52) = _ := Eq.trans (hf 52) (by conv => lhs; simp [go_sem])
          have y53 : A.eval (.tmp 53) = _ := Eq.trans (hf 53) (by conv => lhs; simp [go_sem])
          have y54 : A.eval (.tmp 54) = _ := Eq.trans (hf 54) (by conv => lhs; simp [go_sem])
          have y55 : A.eval (.tmp 55) = _ := Eq.trans (hf 55) (by conv => lhs; simp [go_sem])
          have y56 : A.eval (.tmp 56) = _ := Eq.trans (hf 56) (by conv => lhs; simp [go_sem])
          have y57 : A.eval (.tmp 57) = _ := Eq.trans (hf 57) (by conv => lhs; simp [go_sem])
          have y58 : A.eval (.tmp 58) = _ := Eq.trans (hf 58) (by conv => lhs; simp [go_sem])
          have y59 : A.eval (.tmp 59) = _ := Eq.trans (hf 59) (by conv => lhs; simp [go_sem])
          have y60 : A.eval (.tmp 60) = _ := Eq.trans (hf 60) (by conv => lhs; simp [go_sem])
          have y61 : A.eval (.tmp 61) = _ := Eq.trans (hf 61) (by conv => lhs; simp [go_sem])
          have y62 : A.eval (.tmp 62) = _ := Eq.trans (hf 62) (by conv => lhs; simp [go_sem])
          have y63 : A.eval (.tmp 63) = _ := Eq.trans (hf 63) (by conv => lhs; simp [go_sem])
          have y64 : A.eval (.tmp 64) = _ := Eq.trans (hf 64) (by conv => lhs; simp [go_sem])
          have y65 : A.eval (.tmp 65) = _ := Eq.trans (hf 65) (by conv => lhs; simp [go_sem])
          have y66 : A.eval (.tmp 66) = _ := Eq.trans (hf 66) (by conv => lhs; simp [go_sem])
          have y67 : A.eval (.tmp 67) = _ := Eq.trans (hf 67) (by conv => lhs; simp [go_sem])
          have y68 : A.eval (.tmp 68) = _ := Eq.trans (hf 68) (by conv => lhs; simp [go_sem])
          have y69 : A.eval (.tmp 69) = _ := Eq.trans (hf 69) (by conv => lhs; simp [go_sem])
          have y70 : A.eval (.tmp 70) = _ := Eq.trans (hf 70) (by conv => lhs; simp [go_sem])
          have y71 : A.eval (.tmp 71) = _ := Eq.trans (hf 71) (by conv => lhs; simp [go_sem])
          have y72 : A.eval (.tmp 72) = _ := Eq.trans (hf 72) (by conv => lhs; simp [go_sem])
          have y73 : A.eval (.tmp 73) = _ := Eq.trans (hf 73) (by conv => lhs; simp [go_sem])
          have y74 : A.eval (.tmp 74) = _ := Eq.trans (hf 74) (by conv => lhs; simp [go_sem])
          have y75 : A.eval (.tmp 75) = _ := Eq.trans (hf 75) (by conv => lhs; simp [go_sem])
          have y76 : A.eval (.tmp 76) = _ := Eq.trans (hf 76) (by conv => lhs; simp [go_sem])
          have y77 : A.eval (.tmp 77) = _ := Eq.trans (hf 77) (by conv => lhs; simp [go_sem])
          have y78 : A.eval (.tmp 78) = _ := Eq.trans (hf 78) (by conv => lhs; simp [go_sem])
          have y79 : A.eval (.tmp 79) = _ := Eq.trans (hf 79) (by conv => lhs; simp [go_sem])
          have y80 : A.eval (.tmp 80) = _ := Eq.trans (hf 80) (by conv => lhs; simp [go_sem])
          have y81 : A.eval (.tmp 81) = _ := Eq.trans (hf 81) (by conv => lhs; simp [go_sem])
          have y82 : A.eval (.tmp 82) = _ := Eq.trans (hf 82) (by conv => lhs; simp [go_sem])
          have y83 : A.eval (.tmp 83) = _ := Eq.trans (hf 83) (by conv => lhs; simp [go_sem])
          have y84 : A.eval (.tmp 84) = _ := Eq.trans (hf 84) (by conv => lhs; simp [go_sem])
          have y85 : A.eval (.tmp 85) = _ := Eq.trans (hf 85) (by conv => lhs; simp [go_sem])
          have y86 : A.eval (.tmp 86) = _ := Eq.trans (hf 86) (by conv => lhs; simp [go_sem])
          have y87 : A.eval (.tmp 87) = _ := Eq.trans (hf 87) (by conv => lhs; simp [go_sem])
          have y88 : A.eval (.tmp 88) = _ := Eq.trans (hf 88) (by conv => lhs; simp [go_sem])
          have y89 : A.eval (.tmp 89) = _ := Eq.trans (hf 89) (by conv => lhs; simp [go_sem])
          have y90 : A.eval (.tmp 90) = _ := Eq.trans (hf 90) (by conv => lhs; simp [go_sem])
          have y91 : A.eval (.tmp 91) = _ := Eq.trans (hf 91) (by conv => lhs; simp [go_sem])
          have y92 : A.eval (.tmp 92) = _ := Eq.trans (hf 92) (by conv => lhs; simp [go_sem])
          have y93 : A.eval (.tmp 93) = _ := Eq.trans (hf 93) (by conv => lhs; simp [go_sem])
          have y94 : A.eval (.tmp 94) = _ := Eq.trans (hf 94) (by conv => lhs; simp [go_sem])
          have y95 : A.eval (.tmp 95) = _ := Eq.trans (hf 95) (by conv => lhs; simp [go_sem])
          clear hf
          have hA := frame_eq hn
          rw [show List.range 96 = [0, 1, 2, 3, 4, 5, 6, 7, 8, 9, 10, 11, 12, 13, 14, 15, 16, 17, 18, 19, 20, 21, 22, 23, 24, 25, 26, 27, 28, 29, 30, 31, 32, 33, 34, 35, 36, 37, 38, 39, 40, 41, 42, 43, 44, 45, 46, 47, 48, 49, 50, 51, 52, 53, 54, 55, 56, 57, 58, 59, 60, 61, 62, 63, 64, 65, 66, 67, 68, 69, 70, 71, 72, 73, 74, 75, 76, 77, 78, 79, 80, 81, 82, 83, 84, 85, 86, 87, 88, 89, 90, 91, 92, 93, 94, 95] from rfl, hd] at hA
          simp only [List.map_cons, List.map_nil, y0, y1, y2, y3, y4, y5, y6, y7, y8, y9, y10, y11, y12, y13, y14, y15, y16, y17, y18, y19, y20, y21, y22, y23, y24, y25, y26, y27, y28, y29, y30, y31, y32, y33, y34, y35, y36, y37, y38, y39, y40, y41, y42, y43, y44, y45, y46, y47, y48, y49, y50, y51, y52, y53, y54, y55, y56, y57, y58, y59, y60, y61, y62, y63, y64, y65, y66, y67, y68, y69, y70, y71, y72, y73, y74, y75, y76, y77, y78, y79, y80, y81, y82, y83, y84, y85, y86, y87, y88, y89, y90, y91, y92, y93, y94, y95] at hA
          clear y0 y1 y2 y3 y4 y5 y6 y7 y8 y9 y10 y11 y12 y13 y14 y15 y16 y17 y18 y19 y20 y21 y22 y23 y24 y25 y26 y27 y28 y29 y30 y31 y32 y33 y34 y35 y36 y37 y38 y39 y40 y41 y42 y43 y44 y45 y46 y47 y48 y49 y50 y51 y52 y53 y54 y55 y56 y57 y58 y59 y60 y61 y62 y63 y64 y65 y66 y67 y68 y69 y70 y71 y72 y73 y74 y75 y76 y77 y78 y79 y80 y81 y82 y83 y84 y85 y86 y87 y88 y89 y90 y91 y92 y93 y94 y95
          clear hn hd
          subst hA
          have HB5 := Lib.hid (HB.out.trans (hC.mono HB.out.size))
          clear hC kc cO HB
          go_wp2_with fail
          go_roundw
          case rel => exact ⟨i + 1, by simp only [Value.int.injEq, true_and]; omega, by omega, HB5⟩
          case measure => simp [intOf]; omega
        · have hltz : ¬ (i : Int) + 1 < (n : Int) := by omega
          obtain ⟨WB, hWB⟩ : ∃ WB, WB = wr := ⟨_, rfl⟩
          subst hWB
          have HVB := Lib.hid (HV.out.below HB.out)
          have HZB := Lib.hid (H2.out.below HB.out)
          have HBB := Lib.hid (HB2.out.trans (HB.out.mono HB2.out.size))
          obtain ⟨Wm, hmk, hcam, hbm⟩ := run_bools WB n (by omega)
          have HCM := Lib.hid hcam
          have HBM := Lib.hid hbm
          obtain ⟨gm, hgm⟩ : ∃ gm, WB.heap.size = gm := ⟨_, rfl⟩
          rw [hgm] at hmk HCM
          have HGM := Lib.hid hgm
          have hst := Sn.start ls z0
          rw [HN.out] at hst
          have HST := Lib.hid hst
          clear hcam hbm hgm hst HB HB2 HV H2 hlt
          go_wp2_with fail
          clear hmk hltz hi
          go_loopw [6] (fun iv wr => ∃ (i : Nat) (bs : List Bool), iv = .int .i64 i ∧ i ≤ z0.length ∧ Hid (Sn ls z0 i 0 bs) ∧ Hid (CamB wr gm bs) ∧ Hid (Below gm WB wr)) (fun iv _ => z0.length - (intOf iv).toNat)
          case atStart => exact ⟨0, _, rfl, Nat.zero_le _, HST.out, HCM.out, by rw [← HGM.out]; exact HBM.out⟩
          case round =>
            clear HST HCM HBM
            obtain ⟨i, bs, rfl, hi, HSN, HCM, HBW⟩ := hrel
            have hbw : Below WB.heap.size WB wr := by rw [HGM.out]; exact HBW.out
            have HZ := Lib.hid (HZB.out.below hbw)
            have HLV := Lib.hid (HVB.out.below hbw)
            clear hbw
            by_cases hit : i < z0.length
            · have hitz : (i : Int) < (z0.length : Int) := by omega
              obtain ⟨b2, off, ha2, hB, p0, p1, p2, p3, p4, p5, p6⟩ := HZ.out.at hit
              have hnul := vok_nul HOK.out hit
              obtain ⟨y, hy⟩ : ∃ y, z0.getD i zVw = y := ⟨_, rfl⟩
              rw [hy] at p0 p1 p2 p3 p4 p5 p6 hnul
              have HY := Lib.hid hy
              have c0 := p1
              cases hn0 : y.2.1 with
              | true =>
                rw [hn0] at p1 hnul
                have hsk := HSN.out.skip (by rw [HY.out]; exact hnul)
                have HSK := Lib.hid hsk
                clear hsk hnul hn0 c0 hy
                subst ha2
                go_wp2_with fail
                go_loopw [7, 8] (fun bv kv wr2 => bv = .bool true ∧ kv = .int .i64 0 ∧ wr = wr2) (fun _ _ _ => 0)
                case atStart => exact ⟨rfl, rfl, rfl⟩
                case round =>
                  obtain ⟨rfl, rfl, rfl⟩ := hrel
                  by_cases hn0 : 0 < n
                  · have hnz : (0 : Int) < (n : Int) := by omega
                    go_wp2_with fail
                    clear p0 p1 p2 p3 p4 p5 p6
                    go_roundw
                    case rel => exact ⟨i + 1, bs, by go_num, by omega, HSK, HCM, HBW⟩
                    case measure => simp [intOf]; omega
                  · have hnz : ¬ (0 : Int) < (n : Int) := by omega
                    go_wp2_with fail
                    clear p0 p1 p2 p3 p4 p5 p6
                    go_roundw
                    case rel => exact ⟨i + 1, bs, by go_num, by omega, HSK, HCM, HBW⟩
                    case measure => simp [intOf]; omega
              | false =>
                rw [hn0] at p1 hnul
                have HTL := Lib.hid (show tld y.2 = true from hnul)
                have hin := lvl_in hit (by rw [HY.out]; exact HTL.out)
                rw [HY.out, HLS.out, HN.out] at hin
                have HIN := Lib.hid hin
                have cL := fun W => level_any y.2.1 y.2.2.1 y.2.2.2.1 y.2.2.2.2.1 y.2.2.2.2.2.1 y.2.2.2.2.2.2 W
                unfold levV at cL
                rw [if_pos (show told y.2.1 y.2.2.1 y.2.2.2.1 y.2.2.2.2.1 y.2.2.2.2.2.1 y.2.2.2.2.2.2 = true from HTL.out)] at cL
                have CL := Lib.hid cL
                have HNF := Lib.hid hn0
                clear hnul hn0 c0 hy hin cL
                subst ha2
                go_wp2_with fail
                clear p0 p1 p2 p3 p4 p5 p6 hB
                go_loopw [7, 8] (fun bv kv wr2 => ∃ (k : Nat) (b : Bool) (bs2 : List Bool), k ≤ n ∧ kv = .int .i64 k ∧ bv = .bool b ∧ Hid (b = true ↔ ∃ m, m < k ∧ lv3 y = ls.getD m (0, 0, 0)) ∧ Hid (Sn ls z0 i k bs2) ∧ Hid (CamB wr2 gm bs2) ∧ Hid (Below gm WB wr2)) (fun _ kv _ => n - (intOf kv).toNat)
                case atStart => exact ⟨0, false, bs, Nat.zero_le _, rfl, rfl, ⟨fun h => absurd h (by decide), fun ⟨m, hm, _⟩ => absurd hm (Nat.not_lt_zero _)⟩, HSN.out, HCM.out, HBW.out⟩
                case round =>
                  clear HSN HCM HBW HZ HLV
                  obtain ⟨k, b, bs2, hk, rfl, rfl, HBI, HSN, HCM, HBW⟩ := hrel
                  have hbw : Below WB.heap.size WB wr := by rw [HGM.out]; exact HBW.out
                  have HZ := Lib.hid (HZB.out.below hbw)
                  have HLV := Lib.hid (HVB.out.below hbw)
                  clear hbw
                  by_cases hkt : k < n
                  · have hktz : (k : Int) < (n : Int) := by omega
                    obtain ⟨b9, off9, e9, hB, p0, p1, p2, p3, p4, p5, p6⟩ := HZ.out.at hit
                    simp only [Option.some.injEq, Addr.mk.injEq, and_true] at e9
                    obtain ⟨rfl, rfl⟩ := e9
                    rw [HY.out] at p0 p1 p2 p3 p4 p5 p6
                    have hlv : Ls wr (.slice al ls.length cl) ls := HLV.out
                    obtain ⟨b3, off3, ha3, hB3, kx⟩ := hlv.at (show k < ls.length by rw [HN.out]; exact hkt)
                    subst ha3
                    obtain ⟨x, hx⟩ : ∃ x, ls.getD k (0, 0, 0) = x := ⟨_, rfl⟩
                    rw [hx] at kx
                    have kc : ∀ w', Below wr.heap.size wr w' → (w'.cell? ⟨b2, off + i * 7 + 1, none⟩ = some (.bool y.2.1) ∧ w'.cell? ⟨b2, off + i * 7 + 2, none⟩ = some (.int .i64 y.2.2.1) ∧ w'.cell? ⟨b2, off + i * 7 + 3, none⟩ = some (.int .i64 y.2.2.2.1) ∧ w'.cell? ⟨b2, off + i * 7 + 4, none⟩ = some (.int .i64 y.2.2.2.2.1) ∧ w'.cell? ⟨b2, off + i * 7 + 5, none⟩ = some (.int .i64 y.2.2.2.2.2.1) ∧ w'.cell? ⟨b2, off + i * 7 + 6, none⟩ = some (.int .i64 y.2.2.2.2.2.2)) ∧ (w'.cell? ⟨b3, off3 + k * 3, none⟩ = some (.int .i64 x.1) ∧ w'.cell? ⟨b3, off3 + k * 3 + 1, none⟩ = some (.int .i64 x.2.1) ∧ w'.cell? ⟨b3, off3 + k * 3 + 2, none⟩ = some (.int .i64 x.2.2)) := fun w' hb => ⟨(C7.below ⟨p0, p1, p2, p3, p4, p5, p6⟩ hb hB).2, kx.below hb hB3⟩
                    have p1b := p1
                    rw [HNF.out] at p1b
                    have cL := CL.out
                    have HX := Lib.hid hx
                    have h8 := HSN.out.1
                    have HSL := Lib.hid (show k < bs2.length by rw [h8, HN.out]; exact hkt)
                    clear p0 p1 p2 p3 p4 p5 p6 hB hB3 hlv kx hx h8
                    by_cases he : lv3 y = x
                    · have hs1 := HSN.out.hit (by rw [HN.out]; exact hkt) (by rw [HY.out]; exact HTL.out) (by rw [HY.out, HX.out]; exact he)
                      have HS1 := Lib.hid hs1
                      have HB1 : Hid (∃ m, m < k + 1 ∧ lv3 y = ls.getD m (0, 0, 0)) := ⟨k, by omega, by rw [HX.out]; exact he⟩
                      have hIf : ∀ {α : Type} (X Y : α), (if y.2.2.1 = x.1 then if y.2.2.2.1 = x.2.1 then if y.2.2.2.2.1 = x.2.2 then X else Y else Y else Y) = X := by
                        intro α X Y
                        have h1 : y.2.2.1 = x.1 := congrArg (fun z : Lv => z.1) he
                        have h2 : y.2.2.2.1 = x.2.1 := congrArg (fun z : Lv => z.2.1) he
                        have h3 : y.2.2.2.2.1 = x.2.2 := congrArg (fun z : Lv => z.2.2) he
                        rw [if_pos h1, if_pos h2, if_pos h3]
                      clear he hs1
                      go_wp2_with fail
                      go_upto_region 17 with (fail)
                      refine wp_region_typed (C := fun w' => Below wr.heap.size wr w') (X := fun w w' => Below w.heap.size w w') (n := 96) (by kernel_rfl) (by kernel_rfl) rfl (fun w => Below.refl _ w) (Below.refl _ _).drew ?_
                      refine w_is (fun w => Below.refl _ w) _ (.inl rfl) (fun ρ w hC hc hfn hf => by have e0 : ρ (.tmp 0) = _ := hf 0 (by decide); (conv => lhs; simp [execOp, go_sem, hc, e0])) ?_
                      refine w_is (fun w => Below.refl _ w) _ (.inl rfl) (fun ρ w hC hc hfn hf => by have e6 : ρ (.tmp 6) = _ := hf 6 (by decide); (conv => lhs; simp [execOp, go_sem, hc, e6])) ?_
                      refine w_is (fun w => Below.refl _ w) _ (.inl rfl) (fun ρ w hC hc hfn hf => by have e68 : ρ (.tmp 68) = _ := hf 68 (by decide); have e69 : ρ (.tmp 69) = _ := hf 69 (by decide); (conv => lhs; simp [execOp, go_sem, hc, e68, e69, hit])) ?_
                      refine w_is (fun w => Below.refl _ w) _ (.inl rfl) (fun ρ w hC hc hfn hf => by have e70 : ρ (.tmp 70) = _ := hf 70 (by decide); (conv => lhs; simp [execOp, go_sem, hc, e70])) ?_
                      refine w_is (fun w => Below.refl _ w) _ (.inl rfl) (fun ρ w hC hc hfn hf => by have e71 : ρ (.tmp 71) = _ := hf 71 (by decide); (conv => lhs; simp [execOp, go_sem, hc, e71, kc w hC])) ?_
                      refine w_call (Is _) (fun _ _ _ h _ => h) 30 (.inl rfl) (fun ρ w hC hc hfn hf => by have e72 : ρ (.tmp 72) = _ := hf 72 (by decide); exact ⟨_, by (conv => lhs; simp [execOp, resolve, invoke, go_sem, hc, hfn, e72]), tc_below hC (cL w)⟩) ?_
                      refine w_is (fun w => Below.refl _ w) _ (.inl rfl) (fun ρ w hC hc hfn hf => by have e3 : ρ (.tmp 3) = _ := hf 3 (by decide); (conv => lhs; simp [execOp, go_sem, hc, e3])) ?_
                      refine w_is (fun w => Below.refl _ w) _ (.inl rfl) (fun ρ w hC hc hfn hf => by have e8 : ρ (.tmp 8) = _ := hf 8 (by decide); (conv => lhs; simp [execOp, go_sem, hc, e8])) ?_
                      refine w_is (fun w => Below.refl _ w) _ (.inl rfl) (fun ρ w hC hc hfn hf => by have e74 : ρ (.tmp 74) = _ := hf 74 (by decide); have e75 : ρ (.tmp 75) = _ := hf 75 (by decide); (conv => lhs; simp [execOp, go_sem, hc, e74, e75, hkt])) ?_
                      refine w_is (fun w => Below.refl _ w) _ (.inl rfl) (fun ρ w hC hc hfn hf => by have e76 : ρ (.tmp 76) = _ := hf 76 (by decide); (conv => lhs; simp [execOp, go_sem, hc, e76, kc w hC])) ?_
                      refine w_is (fun w => Below.refl _ w) _ (.inl rfl) (fun ρ w hC hc hfn hf => by have e73 : ρ (.tmp 73) = _ := hf 73 (by decide); have e77 : ρ (.tmp 77) = _ := hf 77 (by decide); (conv => lhs; simp [execOp, go_sem, hc, e73, e77, hIf, guard25])) ?_
                      intro A V5 hC hn hd hf
                      have y0 : A.eval (.tmp 0) = _ := Eq.trans (hf 0) (by conv => lhs; simp [go_sem])
                      have y1 : A.eval (.tmp 1) = _ := Eq.trans (hf 1) (by conv => lhs; simp [go_sem])
                      have y2 : A.eval (.tmp 2) = _ := Eq.trans (hf 2) (by conv => lhs; simp [go_sem])
                      have y3 : A.eval (.tmp 3) = _ := Eq.trans (hf 3) (by conv => lhs; simp [go_sem])
                      have y4 : A.eval (.tmp 4) = _ := Eq.trans (hf 4) (by conv => lhs; simp [go_sem])
                      have y5 : A.eval (.tmp 5) = _ := Eq.trans (hf 5) (by conv => lhs; simp [go_sem])
                      have y6 : A.eval (.tmp 6) = _ := Eq.trans (hf 6) (by conv => lhs; simp [go_sem])
                      have y7 : A.eval (.tmp 7) = _ := Eq.trans (hf 7) (by conv => lhs; simp [go_sem])
                      have y8 : A.eval (.tmp 8) = _ := Eq.trans (hf 8) (by conv => lhs; simp [go_sem])
                      have y9 : A.eval (.tmp 9) = _ := Eq.trans (hf 9) (by conv => lhs; simp [go_sem])
                      have y10 : A.eval (.tmp 10) = _ := Eq.trans (hf 10) (by conv => lhs; simp [go_sem])
                      have y11 : A.eval (.tmp 11) = _ := Eq.trans (hf 11) (by conv => lhs; simp [go_sem])
                      have y12 : A.eval (.tmp 12) = _ := Eq.trans (hf 12) (by conv => lhs; simp [go_sem])
                      have y13 : A.eval (.tmp 13) = _ := Eq.trans (hf 13) (by conv => lhs; simp [go_sem])
                      have y14 : A.eval (.tmp 14) = _ := Eq.trans (hf 14) (by conv => lhs; simp [go_sem])
                      have y15 : A.eval (.tmp 15) = _ := Eq.trans (hf 15) (by conv => lhs; simp [go_sem])
                      have y16 : A.eval (.tmp 16) = _ := Eq.trans (hf 16) (by conv => lhs; simp [go_sem])
                      have y17 : A.eval (.tmp 17) = _ := Eq.trans (hf 17) (by conv => lhs; simp [go_sem])
                      have y18 : A.eval (.tmp 18) = _ := Eq.trans (hf 18) (by conv => lhs; simp [go_sem])
                      have y19 : A.eval (.tmp 19) = _ := Eq.trans (hf 19) (by conv => lhs; simp [go_sem])
                      have y20 : A.eval (.tmp 20) = _ := Eq.trans (hf 20) (by conv => lhs; simp [go_sem])
                      have y21 : A.eval (.tmp 21) = _ := Eq.trans (hf 21) (by conv => lhs; simp [go_sem])
                      have y22 : A.eval (.tmp 22) = _ := Eq.trans (hf 22) (by conv => lhs; simp [go_sem])
                      have y23 : A.eval (.tmp 23) = _ := Eq.trans (hf 23) (by conv => lhs; simp [go_sem])
                      have y24 : A.eval (.tmp 24) = _ := Eq.trans (hf 24) (by conv => lhs; simp [go_sem])
                      have y25 : A.eval (.tmp 25) = _ := Eq.trans (hf 25) (by conv => lhs; simp [go_sem])
                      have y26 : A.eval (.tmp 26) = _ := Eq.trans (hf 26) (by conv => lhs; simp [go_sem])
                      have y27 : A.eval (.tmp 27) = _ := Eq.trans (hf 27) (by conv => lhs; simp [go_sem])
                      have y28 : A.eval (.tmp 28) = _ := Eq.trans (hf 28) (by conv => lhs; simp [go_sem])
                      have y29 : A.eval (.tmp 29) = _ := Eq.trans (hf 29) (by conv => lhs; simp [go_sem])
                      have y30 : A.eval (.tmp 30) = _ := Eq.trans (hf 30) (by conv => lhs; simp [go_sem])
                      have y31 : A.eval (.tmp 31) = _ := Eq.trans (hf 31) (by conv => lhs; simp [go_sem])
                      have y32 : A.eval (.tmp 32) = _ := Eq.trans (hf 32) (by conv => lhs; simp [go_sem])
                      have y33 : A.eval (.tmp 33) = _ := Eq.trans (hf 33) (by conv => lhs; simp [go_sem])
                      have y34 : A.eval (.tmp 34) = _ := Eq.trans (hf 34) (by conv => lhs; simp [go_sem])
                      have y35 : A.eval (.tmp 35) = _ := Eq.trans (hf 35) (by conv => lhs; simp [go_sem])
                      have y36 : A.eval (.tmp 36) = _ := Eq.trans (hf 36) (by conv => lhs; simp [go_sem])
                      have y37 : A.eval (.tmp 37) = _ := Eq.trans (hf 37) (by conv => lhs; simp [go_sem])
                      have y38 : A.eval (.tmp 38) = _ := Eq.trans (hf 38) (by conv => lhs; simp [go_sem])
                      have y39 : A.eval (.tmp 39) = _ := Eq.trans (hf 39) (by conv => lhs; simp [go_sem])
                      have y40 : A.eval (.tmp 40) = _ := Eq.trans (hf 40) (by conv => lhs; simp [go_sem])
                      have y41 : A.eval (.tmp 41) = _ := Eq.trans (hf 41) (by conv => lhs; simp [go_sem])
                      have y42 : A.eval (.tmp 42) = _ := Eq.trans (hf 42) (by conv => lhs; simp [go_sem])
                      have y43 : A.eval (.tmp 43) = _ := Eq.trans (hf 43) (by conv => lhs; simp [go_sem])
                      have y44 : A.eval (.tmp 44) = _ := Eq.trans (hf 44) (by conv => lhs; simp [go_sem])
                      have y45 : A.eval (.tmp 45) = _ := Eq.trans (hf 45) (by conv => lhs; simp [go_sem])
                      have y46 : A.eval (.tmp 46) = _ := Eq.trans (hf 46) (by conv => lhs; simp [go_sem])
                      have y47 : A.eval (.tmp 47) = _ := Eq.trans (hf 47) (by conv => lhs; simp [go_sem])
                      have y48 : A.eval (.tmp 48) = _ := Eq.trans (hf 48) (by conv => lhs; simp [go_sem])
                      have y49 : A.eval (.tmp 49) = _ := Eq.trans (hf 49) (by conv => lhs; simp [go_sem])
                      have y50 : A.eval (.tmp 50) = _ := Eq.trans (hf 50) (by conv => lhs; simp [go_sem])
                      have y51 : A.eval (.tmp 51) = _ := Eq.trans (hf 51) (by conv => lhs; simp [go_sem])
                      have y52 : A.eval (.tmp 52) = _ := Eq.trans (hf 52) (by conv => lhs; simp [go_sem])
                      have y53 : A.eval (.tmp 53) = _ := Eq.trans (hf 53) (by conv => lhs; simp [go_sem])
                      have y54 : A.eval (.tmp 54) = _ := Eq.trans (hf 54) (by conv => lhs; simp [go_sem])
                      have y55 : A.eval (.tmp 55) = _ := Eq.trans (hf 55) (by conv => lhs; simp [go_sem])
                      have y56 : A.eval (.tmp 56) = _ := Eq.trans (hf 56) (by conv => lhs; simp [go_sem])
                      have y57 : A.eval (.tmp 57) = _ := Eq.trans (hf 57) (by conv => lhs; simp [go_sem])
                      have y58 : A.eval (.tmp 58) = _ := Eq.trans (hf 58) (by conv => lhs; simp [go_sem])
                      have y59 : A.eval (.tmp 59) = _ := Eq.trans (hf 59) (by conv => lhs; simp [go_sem])
                      have y60 : A.eval (.tmp 60) = _ := Eq.trans (hf 60) (by conv => lhs; simp [go_sem])
                      have y61 : A.eval (.tmp 61) = _ := Eq.trans (hf 61) (by conv => lhs; simp [go_sem])
                      have y62 : A.eval (.tmp 62) = _ := Eq.trans (hf 62) (by conv => lhs; simp [go_sem])
                      have y63 : A.eval (.tmp 63) = _ := Eq.trans (hf 63) (by conv => lhs; simp [go_sem])
                      have y64 : A.eval (.tmp 64) = _ := Eq.trans (hf 64) (by conv => lhs; simp [go_sem])
                      have y65 : A.eval (.tmp 65) = _ := Eq.trans (hf 65) (by conv => lhs; simp [go_sem])
                      have y66 : A.eval (.tmp 66) = _ := Eq.trans (hf 66) (by conv => lhs; simp [go_sem])
                      have y67 : A.eval (.tmp 67) = _ := Eq.trans (hf 67) (by conv => lhs; simp [go_sem])
                      have y68 : A.eval (.tmp 68) = _ := hf 68
                      have y69 : A.eval (.tmp 69) = _ := hf 69
                      have y70 : A.eval (.tmp 70) = _ := hf 70
                      have y71 : A.eval (.tmp 71) = _ := hf 71
                      have y72 : A.eval (.tmp 72) = _ := hf 72
                      have y73 : A.eval (.tmp 73) = _ := hf 73
                      have y74 : A.eval (.tmp 74) = _ := hf 74
                      have y75 : A.eval (.tmp 75) = _ := hf 75
                      have y76 : A.eval (.tmp 76) = _ := hf 76
                      have y77 : A.eval (.tmp 77) = _ := hf 77
                      have y78 : A.eval (.tmp 78) = _ := hf 78
                      have y79 : A.eval (.tmp 79) = _ := Eq.trans (hf 79) (by conv => lhs; simp [go_sem])
                      have y80 : A.eval (.tmp 80) = _ := Eq.trans (hf 80) (by conv => lhs; simp [go_sem])
                      have y81 : A.eval (.tmp 81) = _ := Eq.trans (hf 81) (by conv => lhs; simp [go_sem])
                      have y82 : A.eval (.tmp 82) = _ := Eq.trans (hf 82) (by conv => lhs; simp [go_sem])
                      have y83 : A.eval (.tmp 83) = _ := Eq.trans (hf 83) (by conv => lhs; simp [go_sem])
                      have y84 : A.eval (.tmp 84) = _ := Eq.trans (hf 84) (by conv => lhs; simp [go_sem])
                      have y85 : A.eval (.tmp 85) = _ := Eq.trans (hf 85) (by conv => lhs; simp [go_sem])
                      have y86 : A.eval (.tmp 86) = _ := Eq.trans (hf 86) (by conv => lhs; simp [go_sem])
                      have y87 : A.eval (.tmp 87) = _ := Eq.trans (hf 87) (by conv => lhs; simp [go_sem])
                      have y88 : A.eval (.tmp 88) = _ := Eq.trans (hf 88) (by conv => lhs; simp [go_sem])
                      have y89 : A.eval (.tmp 89) = _ := Eq.trans (hf 89) (by conv => lhs; simp [go_sem])
                      have y90 : A.eval (.tmp 90) = _ := Eq.trans (hf 90) (by conv => lhs; simp [go_sem])
                      have y91 : A.eval (.tmp 91) = _ := Eq.trans (hf 91) (by conv => lhs; simp [go_sem])
                      have y92 : A.eval (.tmp 92) = _ := Eq.trans (hf 92) (by conv => lhs; simp [go_sem])
                      have y93 : A.eval (.tmp 93) = _ := Eq.trans (hf 93) (by conv => lhs; simp [go_sem])
                      have y94 : A.eval (.tmp 94) = _ := Eq.trans (hf 94) (by conv => lhs; simp [go_sem])
                      have y95 : A.eval (.tmp 95) = _ := Eq.trans (hf 95) (by conv => lhs; simp [go_sem])
                      clear hf
                      have hA := frame_eq hn
                      rw [show List.range 96 = [0, 1, 2, 3, 4, 5, 6, 7, 8, 9, 10, 11, 12, 13, 14, 15, 16, 17, 18, 19, 20, 21, 22, 23, 24, 25, 26, 27, 28, 29, 30, 31, 32, 33, 34, 35, 36, 37, 38, 39, 40, 41, 42, 43, 44, 45, 46, 47, 48, 49, 50, 51, 52, 53, 54, 55, 56, 57, 58, 59, 60, 61, 62, 63, 64, 65, 66, 67, 68, 69, 70, 71, 72, 73, 74, 75, 76, 77, 78, 79, 80, 81, 82, 83, 84, 85, 86, 87, 88, 89, 90, 91, 92, 93, 94, 95] from rfl, hd] at hA
                      simp only [List.map_cons, List.map_nil, y0, y1, y2, y3, y4, y5, y6, y7, y8, y9, y10, y11, y12, y13, y14, y15, y16, y17, y18, y19, y20, y21, y22, y23, y24, y25, y26, y27, y28, y29, y30, y31, y32, y33, y34, y35, y36, y37, y38, y39, y40, y41, y42, y43, y44, y45, y46, y47, y48, y49, y50, y51, y52, y53, y54, y55, y56, y57, y58, y59, y60, y61, y62, y63, y64, y65, y66, y67, y68, y69, y70, y71, y72, y73, y74, y75, y76, y77, y78, y79, y80, y81, y82, y83, y84, y85, y86, y87, y88, y89, y90, y91, y92, y93, y94, y95] at hA
                      clear y0 y1 y2 y3 y4 y5 y6 y7 y8 y9 y10 y11 y12 y13 y14 y15 y16 y17 y18 y19 y20 y21 y22 y23 y24 y25 y26 y27 y28 y29 y30 y31 y32 y33 y34 y35 y36 y37 y38 y39 y40 y41 y42 y43 y44 y45 y46 y47 y48 y49 y50 y51 y52 y53 y54 y55 y56 y57 y58 y59 y60 y61 y62 y63 y64 y65 y66 y67 y68 y69 y70 y71 y72 y73 y74 y75 y76 y77 y78 y79 y80 y81 y82 y83 y84 y85 y86 y87 y88 y89 y90 y91 y92 y93 y94 y95
                      clear hn hd
                      subst hA
                      have HB5 : Hid (Below gm WB V5) := HBW.out.trans (hC.mono (by have := HBW.out.size; rw [HGM.out] at this; exact this))
                      have HC5 := Lib.hid (HCM.out.below hC)
                      obtain ⟨c1, c2⟩ := HC5.out.at HSL.out
                      have HC6 := Lib.hid (HC5.out.set k)
                      have HB6 : Hid (Below gm WB (V5.setCell ⟨gm, k, none⟩ (.bool true))) := HB5.out.setCell (p := ⟨gm, k, none⟩) (Nat.le_refl _) _
                      clear hC kc hIf p1b
                      go_wp2_with fail
                      obtain ⟨V6, hV6⟩ : ∃ V6, V5.setCell ⟨gm, k, none⟩ (.bool true) = V6 := ⟨_, rfl⟩
                      rw [hV6] at HC6 HB6 ⊢
                      clear hV6 c1 c2
                      go_roundw
                      case rel => exact ⟨k + 1, true, bs2.set k true, by omega, by go_num, rfl, ⟨fun _ => HB1.out, fun _ => rfl⟩, HS1, HC6, HB6⟩
                      case measure => simp [intOf]; omega
                    · have hs1 := HSN.out.miss (by rw [HY.out, HX.out]; exact he)
                      have HS1 := Lib.hid hs1
                      have HB1 : Hid (b = true ↔ ∃ m, m < k + 1 ∧ lv3 y = ls.getD m (0, 0, 0)) := ⟨fun h => (HBI.out.1 h).imp (fun m h => ⟨by omega, h.2⟩), fun ⟨m, hm, h⟩ => HBI.out.2 ⟨m, by
                        by_cases e : m = k
                        · subst e; rw [HX.out] at h; exact absurd h he
                        · omega, h⟩⟩
                      have hIf : ∀ {α : Type} (X Y : α), (if y.2.2.1 = x.1 then if y.2.2.2.1 = x.2.1 then if y.2.2.2.2.1 = x.2.2 then X else Y else Y else Y) = Y := by
                        intro α X Y
                        by_cases h1 : y.2.2.1 = x.1
                        · rw [if_pos h1]
                          by_cases h2 : y.2.2.2.1 = x.2.1
                          · rw [if_pos h2, if_neg (fun h3 : y.2.2.2.2.1 = x.2.2 => he (Prod.ext h1 (Prod.ext h2 h3)))]
                          · rw [if_neg h2]
                        · rw [if_neg h1]
                      clear he hs1
                      go_wp2_with fail
                      go_upto_region 17 with (fail)
                      refine wp_region_typed (C := fun w' => Below wr.heap.size wr w') (X := fun w w' => Below w.heap.size w w') (n := 96) (by kernel_rfl) (by kernel_rfl) rfl (fun w => Below.refl _ w) (Below.refl _ _).drew ?_
                      refine w_is (fun w => Below.refl _ w) _ (.inl rfl) (fun ρ w hC hc hfn hf => by have e0 : ρ (.tmp 0) = _ := hf 0 (by decide); (conv => lhs; simp [execOp, go_sem, hc, e0])) ?_
                      refine w_is (fun w => Below.refl _ w) _ (.inl rfl) (fun ρ w hC hc hfn hf => by have e6 : ρ (.tmp 6) = _ := hf 6 (by decide); (conv => lhs; simp [execOp, go_sem, hc, e6])) ?_
                      refine w_is (fun w => Below.refl _ w) _ (.inl rfl) (fun ρ w hC hc hfn hf => by have e68 : ρ (.tmp 68) = _ := hf 68 (by decide); have e69 : ρ (.tmp 69) = _ := hf 69 (by decide); (conv => lhs; simp [execOp, go_sem, hc, e68, e69, hit])) ?_
                      refine w_is (fun w => Below.refl _ w) _ (.inl rfl) (fun ρ w hC hc hfn hf => by have e70 : ρ (.tmp 70) = _ := hf 70 (by decide); (conv => lhs; simp [execOp, go_sem, hc, e70])) ?_
                      refine w_is (fun w => Below.refl _ w) _ (.inl rfl) (fun ρ w hC hc hfn hf => by have e71 : ρ (.tmp 71) = _ := hf 71 (by decide); (conv => lhs; simp [execOp, go_sem, hc, e71, kc w hC])) ?_
                      refine w_call (Is _) (fun _ _ _ h _ => h) 30 (.inl rfl) (fun ρ w hC hc hfn hf => by have e72 : ρ (.tmp 72) = _ := hf 72 (by decide); exact ⟨_, by (conv => lhs; simp [execOp, resolve, invoke, go_sem, hc, hfn, e72]), tc_below hC (cL w)⟩) ?_
                      refine w_is (fun w => Below.refl _ w) _ (.inl rfl) (fun ρ w hC hc hfn hf => by have e3 : ρ (.tmp 3) = _ := hf 3 (by decide); (conv => lhs; simp [execOp, go_sem, hc, e3])) ?_
                      refine w_is (fun w => Below.refl _ w) _ (.inl rfl) (fun ρ w hC hc hfn hf => by have e8 : ρ (.tmp 8) = _ := hf 8 (by decide); (conv => lhs; simp [execOp, go_sem, hc, e8])) ?_
                      refine w_is (fun w => Below.refl _ w) _ (.inl rfl) (fun ρ w hC hc hfn hf => by have e74 : ρ (.tmp 74) = _ := hf 74 (by decide); have e75 : ρ (.tmp 75) = _ := hf 75 (by decide); (conv => lhs; simp [execOp, go_sem, hc, e74, e75, hkt])) ?_
                      refine w_is (fun w => Below.refl _ w) _ (.inl rfl) (fun ρ w hC hc hfn hf => by have e76 : ρ (.tmp 76) = _ := hf 76 (by decide); (conv => lhs; simp [execOp, go_sem, hc, e76, kc w hC])) ?_
                      refine w_is (fun w => Below.refl _ w) _ (.inl rfl) (fun ρ w hC hc hfn hf => by have e73 : ρ (.tmp 73) = _ := hf 73 (by decide); have e77 : ρ (.tmp 77) = _ := hf 77 (by decide); (conv => lhs; simp [execOp, go_sem, hc, e73, e77, hIf, guard25])) ?_
                      intro A V5 hC hn hd hf
                      have y0 : A.eval (.tmp 0) = _ := Eq.trans (hf 0) (by conv => lhs; simp [go_sem])
                      have y1 : A.eval (.tmp 1) = _ := Eq.trans (hf 1) (by conv => lhs; simp [go_sem])
                      have y2 : A.eval (.tmp 2) = _ := Eq.trans (hf 2) (by conv => lhs; simp [go_sem])
                      have y3 : A.eval (.tmp 3) = _ := Eq.trans (hf 3) (by conv => lhs; simp [go_sem])
                      have y4 : A.eval (.tmp 4) = _ := Eq.trans (hf 4) (by conv => lhs; simp [go_sem])
                      have y5 : A.eval (.tmp 5) = _ := Eq.trans (hf 5) (by conv => lhs; simp [go_sem])
                      have y6 : A.eval (.tmp 6) = _ := Eq.trans (hf 6) (by conv => lhs; simp [go_sem])
                      have y7 : A.eval (.tmp 7) = _ := Eq.trans (hf 7) (by conv => lhs; simp [go_sem])
                      have y8 : A.eval (.tmp 8) = _ := Eq.trans (hf 8) (by conv => lhs; simp [go_sem])
                      have y9 : A.eval (.tmp 9) = _ := Eq.trans (hf 9) (by conv => lhs; simp [go_sem])
                      have y10 : A.eval (.tmp 10) = _ := Eq.trans (hf 10) (by conv => lhs; simp [go_sem])
                      have y11 : A.eval (.tmp 11) = _ := Eq.trans (hf 11) (by conv => lhs; simp [go_sem])
                      have y12 : A.eval (.tmp 12) = _ := Eq.trans (hf 12) (by conv => lhs; simp [go_sem])
                      have y13 : A.eval (.tmp 13) = _ := Eq.trans (hf 13) (by conv => lhs; simp [go_sem])
                      have y14 : A.eval (.tmp 14) = _ := Eq.trans (hf 14) (by conv => lhs; simp [go_sem])
                      have y15 : A.eval (.tmp 15) = _ := Eq.trans (hf 15) (by conv => lhs; simp [go_sem])
                      have y16 : A.eval (.tmp 16) = _ := Eq.trans (hf 16) (by conv => lhs; simp [go_sem])
                      have y17 : A.eval (.tmp 17) = _ := Eq.trans (hf 17) (by conv => lhs; simp [go_sem])
                      have y18 : A.eval (.tmp 18) = _ := Eq.trans (hf 18) (by conv => lhs; simp [go_sem])
                      have y19 : A.eval (.tmp 19) = _ := Eq.trans (hf 19) (by conv => lhs; simp [go_sem])
                      have y20 : A.eval (.tmp 20) = _ := Eq.trans (hf 20) (by conv => lhs; simp [go_sem])
                      have y21 : A.eval (.tmp 21) = _ := Eq.trans (hf 21) (by conv => lhs; simp [go_sem])
                      have y22 : A.eval (.tmp 22) = _ := Eq.trans (hf 22) (by conv => lhs; simp [go_sem])
                      have y23 : A.eval (.tmp 23) = _ := Eq.trans (hf 23) (by conv => lhs; simp [go_sem])
                      have y24 : A.eval (.tmp 24) = _ := Eq.trans (hf 24) (by conv => lhs; simp [go_sem])
                      have y25 : A.eval (.tmp 25) = _ := Eq.trans (hf 25) (by conv => lhs; simp [go_sem])
                      have y26 : A.eval (.tmp 26) = _ := Eq.trans (hf 26) (by conv => lhs; simp [go_sem])
                      have y27 : A.eval (.tmp 27) = _ := Eq.trans (hf 27) (by conv => lhs; simp [go_sem])
                      have y28 : A.eval (.tmp 28) = _ := Eq.trans (hf 28) (by conv => lhs; simp [go_sem])
                      have y29 : A.eval (.tmp 29) = _ := Eq.trans (hf 29) (by conv => lhs; simp [go_sem])
                      have y30 : A.eval (.tmp 30) = _ := Eq.trans (hf 30) (by conv => lhs; simp [go_sem])
                      have y31 : A.eval (.tmp 31) = _ := Eq.trans (hf 31) (by conv => lhs; simp [go_sem])
                      have y32 : A.eval (.tmp 32) = _ := Eq.trans (hf 32) (by conv => lhs; simp [go_sem])
                      have y33 : A.eval (.tmp 33) = _ := Eq.trans (hf 33) (by conv => lhs; simp [go_sem])
                      have y34 : A.eval (.tmp 34) = _ := Eq.trans (hf 34) (by conv => lhs; simp [go_sem])
                      have y35 : A.eval (.tmp 35) = _ := Eq.trans (hf 35) (by conv => lhs; simp [go_sem])
                      have y36 : A.eval (.tmp 36) = _ := Eq.trans (hf 36) (by conv => lhs; simp [go_sem])
                      have y37 : A.eval (.tmp 37) = _ := Eq.trans (hf 37) (by conv => lhs; simp [go_sem])
                      have y38 : A.eval (.tmp 38) = _ := Eq.trans (hf 38) (by conv => lhs; simp [go_sem])
                      have y39 : A.eval (.tmp 39) = _ := Eq.trans (hf 39) (by conv => lhs; simp [go_sem])
                      have y40 : A.eval (.tmp 40) = _ := Eq.trans (hf 40) (by conv => lhs; simp [go_sem])
                      have y41 : A.eval (.tmp 41) = _ := Eq.trans (hf 41) (by conv => lhs; simp [go_sem])
                      have y42 : A.eval (.tmp 42) = _ := Eq.trans (hf 42) (by conv => lhs; simp [go_sem])
                      have y43 : A.eval (.tmp 43) = _ := Eq.trans (hf 43) (by conv => lhs; simp [go_sem])
                      have y44 : A.eval (.tmp 44) = _ := Eq.trans (hf 44) (by conv => lhs; simp [go_sem])
                      have y45 : A.eval (.tmp 45) = _ := Eq.trans (hf 45) (by conv => lhs; simp [go_sem])
                      have y46 : A.eval (.tmp 46) = _ := Eq.trans (hf 46) (by conv => lhs; simp [go_sem])
                      have y47 : A.eval (.tmp 47) = _ := Eq.trans (hf 47) (by conv => lhs; simp [go_sem])
                      have y48 : A.eval (.tmp 48) = _ := Eq.trans (hf 48) (by conv => lhs; simp [go_sem])
                      have y49 : A.eval (.tmp 49) = _ := Eq.trans (hf 49) (by conv => lhs; simp [go_sem])
                      have y50 : A.eval (.tmp 50) = _ := Eq.trans (hf 50) (by conv => lhs; simp [go_sem])
                      have y51 : A.eval (.tmp 51) = _ := Eq.trans (hf 51) (by conv => lhs; simp [go_sem])
                      have y52 : A.eval (.tmp 52) = _ := Eq.trans (hf 52) (by conv => lhs; simp [go_sem])
                      have y53 : A.eval (.tmp 53) = _ := Eq.trans (hf 53) (by conv => lhs; simp [go_sem])
                      have y54 : A.eval (.tmp 54) = _ := Eq.trans (hf 54) (by conv => lhs; simp [go_sem])
                      have y55 : A.eval (.tmp 55) = _ := Eq.trans (hf 55) (by conv => lhs; simp [go_sem])
                      have y56 : A.eval (.tmp 56) = _ := Eq.trans (hf 56) (by conv => lhs; simp [go_sem])
                      have y57 : A.eval (.tmp 57) = _ := Eq.trans (hf 57) (by conv => lhs; simp [go_sem])
                      have y58 : A.eval (.tmp 58) = _ := Eq.trans (hf 58) (by conv => lhs; simp [go_sem])
                      have y59 : A.eval (.tmp 59) = _ := Eq.trans (hf 59) (by conv => lhs; simp [go_sem])
                      have y60 : A.eval (.tmp 60) = _ := Eq.trans (hf 60) (by conv => lhs; simp [go_sem])
                      have y61 : A.eval (.tmp 61) = _ := Eq.trans (hf 61) (by conv => lhs; simp [go_sem])
                      have y62 : A.eval (.tmp 62) = _ := Eq.trans (hf 62) (by conv => lhs; simp [go_sem])
                      have y63 : A.eval (.tmp 63) = _ := Eq.trans (hf 63) (by conv => lhs; simp [go_sem])
                      have y64 : A.eval (.tmp 64) = _ := Eq.trans (hf 64) (by conv => lhs; simp [go_sem])
                      have y65 : A.eval (.tmp 65) = _ := Eq.trans (hf 65) (by conv => lhs; simp [go_sem])
                      have y66 : A.eval (.tmp 66) = _ := Eq.trans (hf 66) (by conv => lhs; simp [go_sem])
                      have y67 : A.eval (.tmp 67) = _ := Eq.trans (hf 67) (by conv => lhs; simp [go_sem])
                      have y68 : A.eval (.tmp 68) = _ := hf 68
                      have y69 : A.eval (.tmp 69) = _ := hf 69
                      have y70 : A.eval (.tmp 70) = _ := hf 70
                      have y71 : A.eval (.tmp 71) = _ := hf 71
                      have y72 : A.eval (.tmp 72) = _ := hf 72
                      have y73 : A.eval (.tmp 73) = _ := hf 73
                      have y74 : A.eval (.tmp 74) = _ := hf 74
                      have y75 : A.eval (.tmp 75) = _ := hf 75
                      have y76 : A.eval (.tmp 76) = _ := hf 76
                      have y77 : A.eval (.tmp 77) = _ := hf 77
                      have y78 : A.eval (.tmp 78) = _ := hf 78
                      have y79 : A.eval (.tmp 79) = _ := Eq.trans (hf 79) (by conv => lhs; simp [go_sem])
                      have y80 : A.eval (.tmp 80) = _ := Eq.trans (hf 80) (by conv => lhs; simp [go_sem])
                      have y81 : A.eval (.tmp 81) = _ := Eq.trans (hf 81) (by conv => lhs; simp [go_sem])
                      have y82 : A.eval (.tmp 82) = _ := Eq.trans (hf 82) (by conv => lhs; simp [go_sem])
                      have y83 : A.eval (.tmp 83) = _ := Eq.trans (hf 83) (by conv => lhs; simp [go_sem])
                      have y84 : A.eval (.tmp 84) = _ := Eq.trans (hf 84) (by conv => lhs; simp [go_sem])
                      have y85 : A.eval (.tmp 85) = _ := Eq.trans (hf 85) (by conv => lhs; simp [go_sem])
                      have y86 : A.eval (.tmp 86) = _ := Eq.trans (hf 86) (by conv => lhs; simp [go_sem])
                      have y87 : A.eval (.tmp 87) = _ := Eq.trans (hf 87) (by conv => lhs; simp [go_sem])
                      have y88 : A.eval (.tmp 88) = _ := Eq.trans (hf 88) (by conv => lhs; simp [go_sem])
                      have y89 : A.eval (.tmp 89) = _ := Eq.trans (hf 89) (by conv => lhs; simp [go_sem])
                      have y90 : A.eval (.tmp 90) = _ := Eq.trans (hf 90) (by conv => lhs; simp [go_sem])
                      have y91 : A.eval (.tmp 91) = _ := Eq.trans (hf 91) (by conv => lhs; simp [go_sem])
                      have y92 : A.eval (.tmp 92) = _ := Eq.trans (hf 92) (by conv => lhs; simp [go_sem])
                      have y93 : A.eval (.tmp 93) = _ := Eq.trans (hf 93) (by conv => lhs; simp [go_sem])
                      have y94 : A.eval (.tmp 94) = _ := Eq.trans (hf 94) (by conv => lhs; simp [go_sem])
                      have y95 : A.eval (.tmp 95) = _ := Eq.trans (hf 95) (by conv => lhs; simp [go_sem])
                      clear hf
                      have hA := frame_eq hn
                      rw [show List.range 96 = [0, 1, 2, 3, 4, 5, 6, 7, 8, 9, 10, 11, 12, 13, 14, 15, 16, 17, 18, 19, 20, 21, 22, 23, 24, 25, 26, 27, 28, 29, 30, 31, 32, 33, 34, 35, 36, 37, 38, 39, 40, 41, 42, 43, 44, 45, 46, 47, 48, 49, 50, 51, 52, 53, 54, 55, 56, 57, 58, 59, 60, 61, 62, 63, 64, 65, 66, 67, 68, 69, 70, 71, 72, 73, 74, 75, 76, 77, 78, 79, 80, 81, 82, 83, 84, 85, 86, 87, 88, 89, 90, 91, 92, 93, 94, 95] from rfl, hd] at hA
                      simp only [List.map_cons, List.map_nil, y0, y1, y2, y3, y4, y5, y6, y7, y8, y9, y10, y11, y12, y13, y14, y15, y16, y17, y18, y19, y20, y21, y22, y23, y24, y25, y26, y27, y28, y29, y30, y31, y32, y33, y34, y35, y36, y37, y38, y39, y40, y41, y42, y43, y44, y45, y46, y47, y48, y49, y50, y51, y52, y53, y54, y55, y56, y57, y58, y59, y60, y61, y62, y63, y64, y65, y66, y67, y68, y69, y70, y71, y72, y73, y74, y75, y76, y77, y78, y79, y80, y81, y82, y83, y84, y85, y86, y87, y88, y89, y90, y91, y92, y93, y94, y95] at hA
                      clear y0 y1 y2 y3 y4 y5 y6 y7 y8 y9 y10 y11 y12 y13 y14 y15 y16 y17 y18 y19 y20 y21 y22 y23 y24 y25 y26 y27 y28 y29 y30 y31 y32 y33 y34 y35 y36 y37 y38 y39 y40 y41 y42 y43 y44 y45 y46 y47 y48 y49 y50 y51 y52 y53 y54 y55 y56 y57 y58 y59 y60 y61 y62 y63 y64 y65 y66 y67 y68 y69 y70 y71 y72 y73 y74 y75 y76 y77 y78 y79 y80 y81 y82 y83 y84 y85 y86 y87 y88 y89 y90 y91 y92 y93 y94 y95
                      clear hn hd
                      subst hA
                      have HB5 : Hid (Below gm WB V5) := HBW.out.trans (hC.mono (by have := HBW.out.size; rw [HGM.out] at this; exact this))
                      have HC5 := Lib.hid (HCM.out.below hC)
                      clear hC kc hIf p1b
                      go_wp2_with fail
                      go_roundw
                      case rel => exact ⟨k + 1, b, bs2, by omega, by go_num, rfl, HB1, HS1, HC5, HB5⟩
                      case measure => simp [intOf]; omega
                  · obtain rfl : k = n := by omega
                    obtain rfl : b = true := HBI.out.2 HIN.out
                    have hnx := HSN.out
                    rw [← HN.out] at hnx
                    have HNX := Lib.hid hnx.next
                    clear hnx
                    go_wp2_with fail
                    go_roundw
                    case rel => exact ⟨i + 1, bs2, by go_num, by omega, HNX, HCM, HBW⟩
                    case measure => simp [intOf]; omega
            · have hitz : ¬ (i : Int) < (z0.length : Int) := by omega
              obtain rfl : i = z0.length := by omega
              obtain ⟨WE, hWE⟩ : ∃ WE, WE = wr := ⟨_, rfl⟩
              subst hWE
              have hall : ∀ m, m < n → bs.getD m false = true := fun m hm => by
                have h1 := HSN.out
                rw [← HLS.out] at h1
                exact h1.all (by rw [HLS.out, HN.out]; exact hm)
              have hbl : bs.length = n := HSN.out.1.trans HN.out
              have HAL := Lib.hid hall
              have HBL := Lib.hid hbl
              have AW := Lib.hid (fun W => awake18 W)
              clear hall hbl hi hitz HZ HLV
              go_wp2_with fail
              go_loopw [9] (fun kv wr => ∃ k : Nat, kv = .int .i64 k ∧ k ≤ n ∧ WE = wr) (fun kv _ => n - (intOf kv).toNat)
              case atStart => exact ⟨0, rfl, Nat.zero_le _, rfl⟩
              case round =>
                obtain ⟨k, rfl, hk, rfl⟩ := hrel
                by_cases hkt : k < n
                · have hktz : (k : Int) < (n : Int) := by omega
                  obtain ⟨c1, c2⟩ := HCM.out.at (show k < bs.length by rw [HBL.out]; exact hkt)
                  rw [HAL.out k hkt] at c1
                  go_wp2_with fail
                  go_roundw
                  case rel => exact ⟨k + 1, by go_num, by omega, by first | rfl | trivial⟩
                  case measure => simp [intOf]; omega
                · have hktz : ¬ (k : Int) < (n : Int) := by omega
                  have hbx : Below w.heap.size w WE := HBB.out.trans ((by rw [HGM.out]; exact HBW.out : Below WB.heap.size WB WE).mono HBB.out.size)
                  have HBX := Lib.hid hbx
                  clear hbx
                  go_wp2_with fail
                  refine (AW.out _).mono ?_
                  rintro e WF ⟨rfl, hb⟩
                  have HBF := Lib.hid (HBX.out.trans (hb.mono HBX.out.size))
                  clear hb
                  go_wp2_with fail
                  go_ret
                  exact ⟨rfl, HBF.out⟩
    · rw [show chkV z0 = 1 by unfold chkV; rw [if_neg hok]] at C0
      have AW := Lib.hid (fun W => awake18 W)
      clear hok
      go_enter Try.func6, Try.ntmps6
      go_wp2_with fail
      refine C0.out.mono ?_
      rintro e W1 ⟨rfl, hb⟩
      have HB1 := Lib.hid hb
      clear hb C0
      go_wp2_with fail
      refine (AW.out _).mono ?_
      rintro e W2 ⟨rfl, hb⟩
      have HB2 := Lib.hid (HB1.out.trans (hb.mono HB1.out.size))
      clear hb
      go_wp2_with fail
      go_ret
      exact ⟨rfl, HB2.out⟩
theorem walk (a0 : Option Addr) (cap0 : Nat) (z0 : List Vw) (w : World) (r0 : Vs w (.slice a0 z0.length cap0) z0) :
    Calls Try.prog 6 #[.slice a0 z0.length cap0] w fun e w' => e = .returned (.bool true) ∧ Below w.heap.size w w' := walk0 a0 cap0 z0 w r0

set_option maxRecDepth 100000 in
theorem lifted (os : _root_.Go.Os) (started : os.Started) (H : Type) (enc : TypeId × Value → H) :
    ReturnsInHanded {} Try.checked os 6 .any (Rows.linksLevelsSpec.pre6 enc Try.prog Try.f6 Rows.linksLevelsRow.domain false) (Rows.linksLevelsSpec.post enc Try.prog Try.f6 false true false false) := by
  refine returnsInHanded_of_change (C := Try.checked) own started (by kernel_rfl) Try.func6
    (ChangeSpec.witness6 (enc := enc) (C := Try.checked) false ⟨#[], #[.slice none 0 0], []⟩ 16 (by kernel_rfl) (by kernel_rfl) (by kernel_rfl) (by kernel_rfl)) ?_
  intro W base args ds gs before hval0 hW hcnd _
  have hval : ∀ (j : Nat) t v, Try.f6.params[j]? = some t → args[j]? = some v → Value.okWide Try.prog W .any base t v := hval0
  have hW' := hW
  obtain ⟨p, q, hA0, hV, rfl, hfz, hnd⟩ := hW
  have hA : DataW.TrodAll enc Try.prog W 0 (fun _ => true) true Try.f6.params.toList args.toList ds p := hA0
  rw [Try.params6] at hA hval
  obtain ⟨v0, vs0, e0, ds0, p0, q0, hargs, rfl, rfl, h0, x0⟩ := trodAll_cons hA
  obtain ⟨rfl, rfl, rfl⟩ := trodAll_nil x0
  obtain rfl : args = #[v0] := by cases args; simp_all
  obtain ⟨rfl, rfl⟩ := trodVars_none hV
  have k0 := h0
  have lt0 : ∀ x ∈ p0, x.block < W.heap.size := by obtain ⟨m, hm⟩ := k0; exact DataW.trod_lt m _ _ _ hm
  obtain ⟨a0, len0, cap0, rfl⟩ := okWide_slice underVS (hval 0 22 v0 rfl rfl)
  obtain ⟨z0, hz0, w0, hm0⟩ := vs_form h0
  subst hz0
  clear hA0 hval0
  refine (walk a0 cap0 z0 W w0).mono fun e W' ⟨he, bel⟩ => ?_
  subst he
  exact ⟨_, rfl, _, _, _, [], _, [], hW', trodAll_mk1 (shut_bool Try.underlying4 _), (trodAll_cons_mk (Below.trod laidOut (by kernel_rfl) (of_decide_eq_true (by kernel_rfl)) k0 bel lt0) trodAll_mk0), rfl, bel.frame _, fun h => by cases h⟩

theorem over : Rows.linksLevelsRow.holds Try.pinned (OpenSpec.ofChange Rows.linksLevelsSpec) :=
  OpenClaim.holds_of_wide 6 Try.f6 rfl rfl rfl rfl rfl rfl rfl ⟨rfl, rfl, rfl, rfl, rfl⟩ rfl rfl rfl rfl rfl (by kernel_rfl) Try.func6 (by kernel_rfl)
    (of_decide_eq_true (by kernel_rfl)) (by unfold Func.isWrapper; first | (rw [if_pos (by decide +kernel)]; kernel_rfl) | (rw [if_neg (by decide +kernel)]; exact ⟨rfl, rfl⟩))
    (fun os started H enc _ => lifted os started H enc)

theorem proved : Rows.LinksLevelsSaid := over
#print axioms proved
end Go.Proofs.Ytmimgpnogjgliaa.linksLevels
