/- slices.symMergeCmpFunc of a row of neighbours: one that is merged from behind. -/

import Derived.Test.YtmimgpnogjgliaaSm3
import Derived.Deep.RegionHeld
namespace Go.Proofs.Ytmimgpnogjgliaa
set_option maxRecDepth 100000
open Go.RowKit
attribute [local go_sem ↓] pre64

section
variable {ok : Int → Prop} {cf : Int → Int → Int} {lt : Int → Int → Prop} {B : Nat} {w0 : World} {DV : Int → Vw} {b off n cap : Nat}
set_option maxHeartbeats 8000000 in
theorem smergeN_last (O : SOrd ok cf lt) (HC : CmpY DV B w0 ok cf) (X L Z : List Int) (y : Int) (hL : 1 < L.length) (w : World) (h : SY DV B w0 b off w (X ++ (L ++ (y :: Z)))) (sL : L.Pairwise lt) (hLR : ∀ x ∈ L, x < y) (okL : ∀ x ∈ L, ok x) (oky : ok y) (hn : n = X.length + L.length + 1 + Z.length) (hbig : n ≤ 100000) (a m c : Nat) (ha : a = X.length) (hm : m = a + L.length) (hc : c = m + 1) :
    Calls Try.prog 70 #[.slice (some ⟨b, off, none⟩) n cap, .int .i64 a, .int .i64 m, .int .i64 c, .func (.func 58) #[] #[]] w fun e w' => e = .returned (.tuple #[]) ∧ ∃ S, SY DV B w0 b off w' (X ++ (S ++ Z)) ∧ S.Perm (y :: L) ∧ S.Pairwise lt := by
  have mixed : Try.prog.follows .mixedOrders = true := by kernel_rfl
  have H := Lib.hid h
  have HN := Lib.hid (And.intro hn (And.intro ha (And.intro hm (And.intro hc hL))))
  have q1 : IntKind.i64.wrap ((m : Int) - (a : Int)) = (L.length : Int) := by rw [IntKind.wrap_i64]; omega
  have q2 : ¬ (L.length : Int) = 1 := by omega
  have q3 : IntKind.i64.wrap ((c : Int) - (m : Int)) = 1 := by rw [IntKind.wrap_i64]; omega
  have HO := Lib.hid O
  have HCC := Lib.hid HC
  have HLR := Lib.hid hLR
  have OKY := Lib.hid oky
  have OKL := Lib.hid okL
  have SL0 := Lib.hid sL
  clear h ha hm hc hn O HC hLR oky okL sL
  go_enter Try.func70, Try.ntmps70
  go_upto_region 13 with (fail)
  generalize Value.bool ((L.length : Int) == 1) = u28
  clear q2
  go_wp2_with fail
  go_loopw [14, 15] (fun i j wr => ∃ (s t : Nat), i = .int .i64 s ∧ j = .int .i64 t ∧ a ≤ s ∧ s ≤ t ∧ t ≤ m ∧ Hid (SY DV B w0 b off wr (X ++ (L ++ (y :: Z)))) ∧ Hid (s = a ∨ (a < s ∧ lt (L.getD (s - 1 - a) 0) y)) ∧ Hid (t = m ∨ (t < m ∧ lt y (L.getD (t - a) 0)))) (fun i j _ => (intOf j).toNat - (intOf i).toNat)
  case atStart => exact ⟨a, m, rfl, rfl, Nat.le_refl _, by have := HN.out; omega, Nat.le_refl _, H.out, .inl rfl, .inl rfl⟩
  case round =>
    obtain ⟨s, t, rfl, rfl, hms, hst, htc, HS, H1, H2⟩ := hrel
    clear H
    by_cases hlt : s < t
    · have hltz : (s : Int) < (t : Int) := by omega
      obtain ⟨hh0, hh⟩ : ∃ hh0, hh0 = (s + t) / 2 := ⟨_, rfl⟩
      have rA : IntKind.i64.wrap ((s : Int) + (t : Int)) = (s : Int) + (t : Int) := by have := HN.out; rw [IntKind.wrap_i64]; omega
      have rB : IntKind.u64.wrap ((s : Int) + (t : Int)) = (s : Int) + (t : Int) := by have := HN.out; exact wrap_u (s + t) (by omega)
      have rC : IntKind.i64.wrap (((s : Int) + (t : Int)) / 2) = (hh0 : Int) := by have := HN.out; rw [IntKind.wrap_i64]; omega
      have r1 : IntKind.i64.wrap ((hh0 : Int) + 1) = (hh0 : Int) + 1 := by have := HN.out; rw [IntKind.wrap_i64]; omega
      have h3 : s ≤ hh0 ∧ hh0 < t := by omega
      obtain ⟨x, hx⟩ : ∃ x, L.getD (hh0 - a) 0 = x := ⟨_, rfl⟩
      have l2 : (X ++ (L ++ (y :: Z))).getD hh0 0 = x := by
        rw [gd_in _ _ _ (by have := HN.out; omega) (by have := HN.out; omega), ← hx, HN.out.2.1]
      have l1 : (X ++ (L ++ (y :: Z))).getD m 0 = y := by
        rw [← List.append_assoc]
        exact gd_mid _ _ _ (by have := HN.out; simp; omega)
      have hj1 : hh0 < (X ++ (L ++ (y :: Z))).length := by have := HN.out; simp; omega
      have hi1 : m < (X ++ (L ++ (y :: Z))).length := by have := HN.out; simp; omega
      have b1 : (hh0 : Int) < (n : Int) := by have := HN.out; omega
      have b2 : (m : Int) < (n : Int) := by have := HN.out; omega
      have hxL : x ∈ L := hx ▸ gd_mem (by have := HN.out; omega)
      have i1 := HLR.out x hxL
      have okx := OKL.out x hxL
      have cX := HS.out.cmp HCC.out OKY.out okx
      obtain ⟨cI, hcI⟩ : ∃ c, enD DV y = c := ⟨_, rfl⟩
      obtain ⟨cJ, hcJ⟩ : ∃ c, enD DV x = c := ⟨_, rfl⟩
      rw [hcI, hcJ] at cX
      have kc : ∀ w', Below wr.heap.size wr w' → Sem.run Try.prog (loadCellsFrom ⟨b, off + m * 7, none⟩ 0 K64 #[]) w' = .ok cI.toArray w' ∧ Sem.run Try.prog (loadCellsFrom ⟨b, off + hh0 * 7, none⟩ 0 K64 #[]) w' = .ok cJ.toArray w' := fun w' hb => by
        have h1 := (HS.out.low hb).load (i := m) hi1
        have h2 := (HS.out.low hb).load (i := hh0) hj1
        rw [l1, hcI] at h1
        rw [l2, hcJ] at h2
        exact ⟨h1, h2⟩
      clear hcI hcJ
      have HX := Lib.hid hx
      have H3 := Lib.hid h3
      clear hx h3 hh l1 l2 hi1 hj1
      by_cases hv : cf y x < 0
      · have hl := HO.out.yes x y okx OKY.out i1 hv
        have hvd : decide (cf y x < 0) = true := decide_eq_true hv
        go_upto_region 17 with (fail)
        refine wp_region_typed (C := fun w' => Below wr.heap.size wr w') (X := fun w w' => Below w.heap.size w w') (n := 220) (by kernel_rfl) (by kernel_rfl) rfl (fun w => Below.refl _ w) (Below.refl _ _).drew ?_
        refine w_is (fun w => Below.refl _ w) _ (.inl rfl) (fun ρ w hC hc hfn hf => by have e4 : ρ (.tmp 4) = _ := hf 4 (by decide); (conv => lhs; simp [execOp, go_sem, hc, e4])) ?_
        refine w_is (fun w => Below.refl _ w) _ (.inl rfl) (fun ρ w hC hc hfn hf => by have e0 : ρ (.tmp 0) = _ := hf 0 (by decide); (conv => lhs; simp [execOp, go_sem, hc, e0])) ?_
        refine w_is (fun w => Below.refl _ w) _ (.inl rfl) (fun ρ w hC hc hfn hf => by have e2 : ρ (.tmp 2) = _ := hf 2 (by decide); (conv => lhs; simp [execOp, go_sem, hc, e2])) ?_
        refine w_is (fun w => Below.refl _ w) _ (.inl rfl) (fun ρ w hC hc hfn hf => by have e93 : ρ (.tmp 93) = _ := hf 93 (by decide); have e94 : ρ (.tmp 94) = _ := hf 94 (by decide); (conv => lhs; simp [execOp, go_sem, hc, e93, e94, b2])) ?_
        refine w_is (fun w => Below.refl _ w) _ (.inl rfl) (fun ρ w hC hc hfn hf => by have e95 : ρ (.tmp 95) = _ := hf 95 (by decide); (conv => lhs; simp [execOp, go_sem, hc, e95, kc w hC])) ?_
        refine w_is (fun w => Below.refl _ w) _ (.inl rfl) (fun ρ w hC hc hfn hf => by have e0 : ρ (.tmp 0) = _ := hf 0 (by decide); (conv => lhs; simp [execOp, go_sem, hc, e0])) ?_
        refine w_is (fun w => Below.refl _ w) _ (.inl rfl) (fun ρ w hC hc hfn hf => by have e16 : ρ (.tmp 16) = _ := hf 16 (by decide); (conv => lhs; simp [execOp, go_sem, hc, e16])) ?_
        refine w_is (fun w => Below.refl _ w) _ (.inl rfl) (fun ρ w hC hc hfn hf => by have e97 : ρ (.tmp 97) = _ := hf 97 (by decide); have e98 : ρ (.tmp 98) = _ := hf 98 (by decide); (conv => lhs; simp [execOp, go_sem, hc, e97, e98, b1])) ?_
        refine w_is (fun w => Below.refl _ w) _ (.inl rfl) (fun ρ w hC hc hfn hf => by have e99 : ρ (.tmp 99) = _ := hf 99 (by decide); (conv => lhs; simp [execOp, go_sem, hc, e99, kc w hC])) ?_
        refine w_call (Is _) (fun _ _ _ h _ => h) 58 (.inl rfl) (fun ρ w hC hc hfn hf => by have e92 : ρ (.tmp 92) = _ := hf 92 (by decide); have e96 : ρ (.tmp 96) = _ := hf 96 (by decide); have e100 : ρ (.tmp 100) = _ := hf 100 (by decide); exact ⟨_, by (conv => lhs; simp [execOp, resolve, invoke, go_sem, hc, hfn, e92, e96, e100]), tc_below hC (cX w hC)⟩) ?_
        refine w_is (fun w => Below.refl _ w) _ (.inl rfl) (fun ρ w hC hc hfn hf => by have e101 : ρ (.tmp 101) = _ := hf 101 (by decide); (conv => lhs; simp [execOp, go_sem, hc, e101, hv])) ?_
        refine w_is (fun w => Below.refl _ w) _ (.inl rfl) (fun ρ w hC hc hfn hf => by have e102 : ρ (.tmp 102) = _ := hf 102 (by decide); (conv => lhs; simp [execOp, go_sem, hc, e102])) ?_
        intro A V hb hn hd hf
        have y0 : A.eval (.tmp 0) = _ := Eq.trans (hf 0) (by conv => lhs; simp [go_sem])
        have y1 : A.eval (.tmp 1) = _ := Eq.trans (hf 1) (by conv => lhs; simp [go_sem])
        have y2 : A.eval (.tmp 2) = _ := Eq.trans (hf 2) (by conv => lhs; simp [go_sem])
        have y3 : A.eval (.tmp 3) = _ := Eq.trans (hf 3) (by conv => lhs; simp [go_sem])
        have y4 : A.eval (.tmp 4) = _ := Eq.trans (hf 4) (by conv => lhs; simp [go_sem])
        have y5 : A.eval (.tmp 5) = _ := Eq.trans (hf 5) (by conv => lhs; simp [go_sem])
        have y6 : A.eval (.tmp 6) = _ := Eq.trans (hf 6) (by conv => lhs; simp [go_sem])
        have y7 : A.eval (.tmp 7) = _ := Eq.trans (hf 7) (by conv => lhs; simp [go_sem])
        have y8 : A.eval (.tmp 8) = _ := Eq.trans (hf 8) (by conv => lhs; simp [go_sem])
        have y9 : A.eval (.tmp 9) = _ := Eq.trans (hf 9) (by conv => lhs; simp [go_sem])
        have y10 : A.eval (.tmp 10) = _ := Eq.trans (hf 10) (by conv => lhs; simp [go_sem])
        have y11 : A.eval (.tmp 11) = _ := Eq.trans (hf 11) (by conv => lhs; simp [go_sem])
        have y12 : A.eval (.tmp 12) = _ := Eq.trans (hf 12) (by conv => lhs; simp [go_sem])
        have y13 : A.eval (.tmp 13) = _ := Eq.trans (hf 13) (by conv => lhs; simp [go_sem])
        have y14 : A.eval (.tmp 14) = _ := Eq.trans (hf 14) (by conv => lhs; simp [go_sem])
        have y15 : A.eval (.tmp 15) = _ := Eq.trans (hf 15) (by conv => lhs; simp [go_sem])
        have y16 : A.eval (.tmp 16) = _ := Eq.trans (hf 16) (by conv => lhs; simp [go_sem])
        have y17 : A.eval (.tmp 17) = _ := Eq.trans (hf 17) (by conv => lhs; simp [go_sem])
        have y18 : A.eval (.tmp 18) = _ := Eq.trans (hf 18) (by conv => lhs; simp [go_sem])
        have y19 : A.eval (.tmp 19) = _ := Eq.trans (hf 19) (by conv => lhs; simp [go_sem])
        have y20 : A.eval (.tmp 20) = _ := Eq.trans (hf 20) (by conv => lhs; simp [go_sem])
        have y21 : A.eval (.tmp 21) = _ := Eq.trans (hf 21) (by conv => lhs; simp [go_sem])
        have y22 : A.eval (.tmp 22) = _ := Eq.trans (hf 22) (by conv => lhs; simp [go_sem])
        have y23 : A.eval (.tmp 23) = _ := Eq.trans (hf 23) (by conv => lhs; simp [go_sem])
        have y24 : A.eval (.tmp 24) = _ := Eq.trans (hf 24) (by conv => lhs; simp [go_sem])
        have y25 : A.eval (.tmp 25) = _ := Eq.trans (hf 25) (by conv => lhs; simp [go_sem])
        have y26 : A.eval (.tmp 26) = _ := Eq.trans (hf 26) (by conv => lhs; simp [go_sem])
        have y27 : A.eval (.tmp 27) = _ := Eq.trans (hf 27) (by conv => lhs; simp [go_sem])
        have y28 : A.eval (.tmp 28) = _ := Eq.trans (hf 28) (by conv => lhs; simp [go_sem])
        have y29 : A.eval (.tmp 29) = _ := Eq.trans (hf 29) (by conv => lhs; simp [go_sem])
        have y30 : A.eval (.tmp 30) = _ := Eq.trans (hf 30) (by conv => lhs; simp [go_sem])
        have y31 : A.eval (.tmp 31) = _ := Eq.trans (hf 31) (by conv => lhs; simp [go_sem])
        have y32 : A.eval (.tmp 32) = _ := Eq.trans (hf 32) (by conv => lhs; simp [go_sem])
        have y33 : A.eval (.tmp 33) = _ := Eq.trans (hf 33) (by conv => lhs; simp [go_sem])
        have y34 : A.eval (.tmp 34) = _ := Eq.trans (hf 34) (by conv => lhs; simp [go_sem])
        have y35 : A.eval (.tmp 35) = _ := Eq.trans (hf 35) (by conv => lhs; simp [go_sem])
        have y36 : A.eval (.tmp 36) = _ := Eq.trans (hf 36) (by conv => lhs; simp [go_sem])
        have y37 : A.eval (.tmp 37) = _ := Eq.trans (hf 37) (by conv => lhs; simp [go_sem])
        have y38 : A.eval (.tmp 38) = _ := Eq.trans (hf 38) (by conv => lhs; simp [go_sem])
        have y39 : A.eval (.tmp 39) = _ := Eq.trans (hf 39) (by conv => lhs; simp [go_sem])
        have y40 : A.eval (.tmp 40) = _ := Eq.trans (hf 40) (by conv => lhs; simp [go_sem])
        have y41 : A.eval (.tmp 41) = _ := Eq.trans (hf 41) (by conv => lhs; simp [go_sem])
        have y42 : A.eval (.tmp 42) = _ := Eq.trans (hf 42) (by conv => lhs; simp [go_sem])
        have y43 : A.eval (.tmp 43) = _ := Eq.trans (hf 43) (by conv => lhs; simp [go_sem])
        have y44 : A.eval (.tmp 44) = _ := Eq.trans (hf 44) (by conv => lhs; simp [go_sem])
        have y45 : A.eval (.tmp 45) = _ := Eq.trans (hf 45) (by conv => lhs; simp [go_sem])
        have y46 : A.eval (.tmp 46) = _ := Eq.trans (hf 46) (by conv => lhs; simp [go_sem])
        have y47 : A.eval (.tmp 47) = _ := Eq.trans (hf 47) (by conv => lhs; simp [go_sem])
        have y48 : A.eval (.tmp 48) = _ := Eq.trans (hf 48) (by conv => lhs; simp [go_sem])
        have y49 : A.eval (.tmp 49) = _ := Eq.trans (hf 49) (by conv => lhs; simp [go_sem])
        have y50 : A.eval (.tmp 50) = _ := Eq.trans (hf 50) (by conv => lhs; simp [go_sem])
        have y51 : A.eval (.tmp 51) = _ := Eq.trans (hf 51) (by conv => lhs; simp [go_sem])
        have y52 : A.eval (.tmp 52) = _ := Eq.trans (hf 52) (by conv => lhs; simp [go_sem])
        have y53 : A.eval (.tmp 53) = _ := Eq.trans (hf 53) (by conv => lhs; simp [go_sem])
        have y54 : A.eval (.tmp 54) = _ := Eq.trans (hf 54) (by conv => lhs; simp [go_sem])
        have y55 : A.eval (.tmp 55) = _ := Eq.trans (hf 55) (by conv => lhs; simp [go_sem])
        have y56 : A.eval (.tmp 56) = _ := Eq.trans (hf 56) (by conv => lhs; simp [go_sem])
        have y57 : A.eval (.tmp 57) = _ := Eq.trans (hf 57) (by conv => lhs; simp [go_sem])
        have y58 : A.eval (.tmp 58) = _ := Eq.trans (hf 58) (by conv => lhs; simp [go_sem])
        have y59 : A.eval (.tmp 59) = _ := Eq.trans (hf 59) (by conv => lhs; simp [go_sem])
        have y60 : A.eval (.tmp 60) = _ := Eq.trans (hf 60) (by conv => lhs; simp [go_sem])
        have y61 : A.eval (.tmp 61) = _ := Eq.trans (hf 61) (by conv => lhs; simp [go_sem])
        have y62 : A.eval (.tmp 62) = _ := Eq.trans (hf 62) (by conv => lhs; simp [go_sem])
        have y63 : A.eval (.tmp 63) = _ := Eq.trans (hf 63) (by conv => lhs; simp [go_sem])
        have y64 : A.eval (.tmp 64) = _ := Eq.trans (hf 64) (by conv => lhs; simp [go_sem])
        have y65 : A.eval (.tmp 65) = _ := Eq.trans (hf 65) (by conv => lhs; simp [go_sem])
        have y66 : A.eval (.tmp 66) = _ := Eq.trans (hf 66) (by conv => lhs; simp [go_sem])
        have y67 : A.eval (.tmp 67) = _ := Eq.trans (hf 67) (by conv => lhs; simp [go_sem])
        have y68 : A.eval (.tmp 68) = _ := Eq.trans (hf 68) (by conv => lhs; simp [go_sem])
        have y69 : A.eval (.tmp 69) = _ := Eq.trans (hf 69) (by conv => lhs; simp [go_sem])
        have y70 : A.eval (.tmp 70) = _ := Eq.trans (hf 70) (by conv => lhs; simp [go_sem])
        have y71 : A.eval (.tmp 71) = _ := Eq.trans (hf 71) (by conv => lhs; simp [go_sem])
        have y72 : A.eval (.tmp 72) = _ := Eq.trans (hf 72) (by conv => lhs; simp [go_sem])
        have y73 : A.eval (.tmp 73) = _ := Eq.trans (hf 73) (by conv => lhs; simp [go_sem])
        have y74 : A.eval (.tmp 74) = _ := Eq.trans (hf 74) (by conv => lhs; simp [go_sem])
        have y75 : A.eval (.tmp 75) = _ := Eq.trans (hf 75) (by conv => lhs; simp [go_sem])
        have y76 : A.eval (.tmp 76) = _ := Eq.trans (hf 76) (by conv => lhs; simp [go_sem])
        have y77 : A.eval (.tmp 77) = _ := Eq.trans (hf 77) (by conv => lhs; simp [go_sem])
        have y78 : A.eval (.tmp 78) = _ := Eq.trans (hf 78) (by conv => lhs; simp [go_sem])
        have y79 : A.eval (.tmp 79) = _ := Eq.trans (hf 79) (by conv => lhs; simp [go_sem])
        have y80 : A.eval (.tmp 80) = _ := Eq.trans (hf 80) (by conv => lhs; simp [go_sem])
        have y81 : A.eval (.tmp 81) = _ := Eq.trans (hf 81) (by conv => lhs; simp [go_sem])
        have y82 : A.eval (.tmp 82) = _ := Eq.trans (hf 82) (by conv => lhs; simp [go_sem])
        have y83 : A.eval (.tmp 83) = _ := Eq.trans (hf 83) (by conv => lhs; simp [go_sem])
        have y84 : A.eval (.tmp 84) = _ := Eq.trans (hf 84) (by conv => lhs; simp [go_sem])
        have y85 : A.eval (.tmp 85) = _ := Eq.trans (hf 85) (by conv => lhs; simp [go_sem])
        have y86 : A.eval (.tmp 86) = _ := Eq.trans (hf 86) (by conv => lhs; simp [go_sem])
        have y87 : A.eval (.tmp 87) = _ := Eq.trans (hf 87) (by conv => lhs; simp [go_sem])
        have y88 : A.eval (.tmp 88) = _ := Eq.trans (hf 88) (by conv => lhs; simp [go_sem])
        have y89 : A.eval (.tmp 89) = _ := Eq.trans (hf 89) (by conv => lhs; simp [go_sem])
        have y90 : A.eval (.tmp 90) = _ := Eq.trans (hf 90) (by conv => lhs; simp [go_sem])
        have y91 : A.eval (.tmp 91) = _ := Eq.trans (hf 91) (by conv => lhs; simp [go_sem])
        have y92 : A.eval (.tmp 92) = _ := hf 92
        have y93 : A.eval (.tmp 93) = _ := hf 93
        have y94 : A.eval (.tmp 94) = _ := hf 94
        have y95 : A.eval (.tmp 95) = _ := hf 95
        have y96 : A.eval (.tmp 96) = _ := hf 96
        have y97 : A.eval (.tmp 97) = _ := hf 97
        have y98 : A.eval (.tmp 98) = _ := hf 98
        have y99 : A.eval (.tmp 99) = _ := hf 99
        have y100 : A.eval (.tmp 100) = _ := hf 100
        have y101 : A.eval (.tmp 101) = _ := hf 101
        have y102 : A.eval (.tmp 102) = _ := hf 102
        have y103 : A.eval (.tmp 103) = _ := hf 103
        have y104 : A.eval (.tmp 104) = _ := Eq.trans (hf 104) (by conv => lhs; simp [go_sem])
        have y105 : A.eval (.tmp 105) = _ := Eq.trans (hf 105) (by conv => lhs; simp [go_sem])
        have y106 : A.eval (.tmp 106) = _ := Eq.trans (hf 106) (by conv => lhs; simp [go_sem])
        have y107 : A.eval (.tmp 107) = _ := Eq.trans (hf 107) (by conv => lhs; simp [go_sem])
        have y108 : A.eval (.tmp 108) = _ := Eq.trans (hf 108) (by conv => lhs; simp [go_sem])
        have y109 : A.eval (.tmp 109) = _ := Eq.trans (hf 109) (by conv => lhs; simp [go_sem])
        have y110 : A.eval (.tmp 110) = _ := Eq.trans (hf 110) (by conv => lhs; simp [go_sem])
        have y111 : A.eval (.tmp 111) = _ := Eq.trans (hf 111) (by conv => lhs; simp [go_sem])
        have y112 : A.eval (.tmp 112) = _ := Eq.trans (hf 112) (by conv => lhs; simp [go_sem])
        have y113 : A.eval (.tmp 113) = _ := Eq.trans (hf 113) (by conv => lhs; simp [go_sem])
        have y114 : A.eval (.tmp 114) = _ := Eq.trans (hf 114) (by conv => lhs; simp [go_sem])
        have y115 : A.eval (.tmp 115) = _ := Eq.trans (hf 115) (by conv => lhs; simp [go_sem])
        have y116 : A.eval (.tmp 116) = _ := Eq.trans (hf 116) (by conv => lhs; simp [go_sem])
        have y117 : A.eval (.tmp 117) = _ := Eq.trans (hf 117) (by conv => lhs; simp [go_sem])
        have y118 : A.eval (.tmp 118) = _ := Eq.trans (hf 118) (by conv => lhs; simp [go_sem])
        have y119 : A.eval (.tmp 119) = _ := Eq.trans (hf 119) (by conv => lhs; simp [go_sem])
        have y120 : A.eval (.tmp 120) = _ := Eq.trans (hf 120) (by conv => lhs; simp [go_sem])
        have y121 : A.eval (.tmp 121) = _ := Eq.trans (hf 121) (by conv => lhs; simp [go_sem])
        have y122 : A.eval (.tmp 122) = _ := Eq.trans (hf 122) (by conv => lhs; simp [go_sem])
        have y123 : A.eval (.tmp 123) = _ := Eq.trans (hf 123) (by conv => lhs; simp [go_sem])
        have y124 : A.eval (.tmp 124) = _ := Eq.trans (hf 124) (by conv => lhs; simp [go_sem])
        have y125 : A.eval (.tmp 125) = _ := Eq.trans (hf 125) (by conv => lhs; simp [go_sem])
        have y126 : A.eval (.tmp 126) = _ := Eq.trans (hf 126) (by conv => lhs; simp [go_sem])
        have y127 : A.eval (.tmp 127) = _ := Eq.trans (hf 127) (by conv => lhs; simp [go_sem])
        have y128 : A.eval (.tmp 128) = _ := Eq.trans (hf 128) (by conv => lhs; simp [go_sem])
        have y129 : A.eval (.tmp 129) = _ := Eq.trans (hf 129) (by conv => lhs; simp [go_sem])
        have y130 : A.eval (.tmp 130) = _ := Eq.trans (hf 130) (by conv => lhs; simp [go_sem])
        have y131 : A.eval (.tmp 131) = _ := Eq.trans (hf 131) (by conv => lhs; simp [go_sem])
        have y132 : A.eval (.tmp 132) = _ := Eq.trans (hf 132) (by conv => lhs; simp [go_sem])
        have y133 : A.eval (.tmp 133) = _ := Eq.trans (hf 133) (by conv => lhs; simp [go_sem])
        have y134 : A.eval (.tmp 134) = _ := Eq.trans (hf 134) (by conv => lhs; simp [go_sem])
        have y135 : A.eval (.tmp 135) = _ := Eq.trans (hf 135) (by conv => lhs; simp [go_sem])
        have y136 : A.eval (.tmp 136) = _ := Eq.trans (hf 136) (by conv => lhs; simp [go_sem])
        have y137 : A.eval (.tmp 137) = _ := Eq.trans (hf 137) (by conv => lhs; simp [go_sem])
        have y138 : A.eval (.tmp 138) = _ := Eq.trans (hf 138) (by conv => lhs; simp [go_sem])
        have y139 : A.eval (.tmp 139) = _ := Eq.trans (hf 139) (by conv => lhs; simp [go_sem])
        have y140 : A.eval (.tmp 140) = _ := Eq.trans (hf 140) (by conv => lhs; simp [go_sem])
        have y141 : A.eval (.tmp 141) = _ := Eq.trans (hf 141) (by conv => lhs; simp [go_sem])
        have y142 : A.eval (.tmp 142) = _ := Eq.trans (hf 142) (by conv => lhs; simp [go_sem])
        have y143 : A.eval (.tmp 143) = _ := Eq.trans (hf 143) (by conv => lhs; simp [go_sem])
        have y144 : A.eval (.tmp 144) = _ := Eq.trans (hf 144) (by conv => lhs; simp [go_sem])
        have y145 : A.eval (.tmp 145) = _ := Eq.trans (hf 145) (by conv => lhs; simp [go_sem])
        have y146 : A.eval (.tmp 146) = _ := Eq.trans (hf 146) (by conv => lhs; simp [go_sem])
        have y147 : A.eval (.tmp 147) = _ := Eq.trans (hf 147) (by conv => lhs; simp [go_sem])
        have y148 : A.eval (.tmp 148) = _ := Eq.trans (hf 148) (by conv => lhs; simp [go_sem])
        have y149 : A.eval (.tmp 149) = _ := Eq.trans (hf 149) (by conv => lhs; simp [go_sem])
        have y150 : A.eval (.tmp 150) = _ := Eq.trans (hf 150) (by conv => lhs; simp [go_sem])
        have y151 : A.eval (.tmp 151) = _ := Eq.trans (hf 151) (by conv => lhs; simp [go_sem])
        have y152 : A.eval (.tmp 152) = _ := Eq.trans (hf 152) (by conv => lhs; simp [go_sem])
        have y153 : A.eval (.tmp 153) = _ := Eq.trans (hf 153) (by conv => lhs; simp [go_sem])
        have y154 : A.eval (.tmp 154) = _ := Eq.trans (hf 154) (by conv => lhs; simp [go_sem])
        have y155 : A.eval (.tmp 155) = _ := Eq.trans (hf 155) (by conv => lhs; simp [go_sem])
        have y156 : A.eval (.tmp 156) = _ := Eq.trans (hf 156) (by conv => lhs; simp [go_sem])
        have y157 : A.eval (.tmp 157) = _ := Eq.trans (hf 157) (by conv => lhs; simp [go_sem])
        have y158 : A.eval (.tmp 158) = _ := Eq.trans (hf 158) (by conv => lhs; simp [go_sem])
        have y159 : A.eval (.tmp 159) = _ := Eq.trans (hf 159) (by conv => lhs; simp [go_sem])
        have y160 : A.eval (.tmp 160) = _ := Eq.trans (hf 160) (by conv => lhs; simp [go_sem])
        have y161 : A.eval (.tmp 161) = _ := Eq.trans (hf 161) (by conv => lhs; simp [go_sem])
        have y162 : A.eval (.tmp 162) = _ := Eq.trans (hf 162) (by conv => lhs; simp [go_sem])
        have y163 : A.eval (.tmp 163) = _ := Eq.trans (hf 163) (by conv => lhs; simp [go_sem])
        have y164 : A.eval (.tmp 164) = _ := Eq.trans (hf 164) (by conv => lhs; simp [go_sem])
        have y165 : A.eval (.tmp 165) = _ := Eq.trans (hf 165) (by conv => lhs; simp [go_sem])
        have y166 : A.eval (.tmp 166) = _ := Eq.trans (hf 166) (by conv => lhs; simp [go_sem])
        have y167 : A.eval (.tmp 167) = _ := Eq.trans (hf 167) (by conv => lhs; simp [go_sem])
        have y168 : A.eval (.tmp 168) = _ := Eq.trans (hf 168) (by conv => lhs; simp [go_sem])
        have y169 : A.eval (.tmp 169) = _ := Eq.trans (hf 169) (by conv => lhs; simp [go_sem])
        have y170 : A.eval (.tmp 170) = _ := Eq.trans (hf 170) (by conv => lhs; simp [go_sem])
        have y171 : A.eval (.tmp 171) = _ := Eq.trans (hf 171) (by conv => lhs; simp [go_sem])
        have y172 : A.eval (.tmp 172) = _ := Eq.trans (hf 172) (by conv => lhs; simp [go_sem])
        have y173 : A.eval (.tmp 173) = _ := Eq.trans (hf 173) (by conv => lhs; simp [go_sem])
        have y174 : A.eval (.tmp 174) = _ := Eq.trans (hf 174) (by conv => lhs; simp [go_sem])
        have y175 : A.eval (.tmp 175) = _ := Eq.trans (hf 175) (by conv => lhs; simp [go_sem])
        have y176 : A.eval (.tmp 176) = _ := Eq.trans (hf 176) (by conv => lhs; simp [go_sem])
        have y177 : A.eval (.tmp 177) = _ := Eq.trans (hf 177) (by conv => lhs; simp [go_sem])
        have y178 : A.eval (.tmp 178) = _ := Eq.trans (hf 178) (by conv => lhs; simp [go_sem])
        have y179 : A.eval (.tmp 179) = _ := Eq.trans (hf 179) (by conv => lhs; simp [go_sem])
        have y180 : A.eval (.tmp 180) = _ := Eq.trans (hf 180) (by conv => lhs; simp [go_sem])
        have y181 : A.eval (.tmp 181) = _ := Eq.trans (hf 181) (by conv => lhs; simp [go_sem])
        have y182 : A.eval (.tmp 182) = _ := Eq.trans (hf 182) (by conv => lhs; simp [go_sem])
        have y183 : A.eval (.tmp 183) = _ := Eq.trans (hf 183) (by conv => lhs; simp [go_sem])
        have y184 : A.eval (.tmp 184) = _ := Eq.trans (hf 184) (by conv => lhs; simp [go_sem])
        have y185 : A.eval (.tmp 185) = _ := Eq.trans (hf 185) (by conv => lhs; simp [go_sem])
        have y186 : A.eval (.tmp 186) = _ := Eq.trans (hf 186) (by conv => lhs; simp [go_sem])
        have y187 : A.eval (.tmp 187) = _ := Eq.trans (hf 187) (by conv => lhs; simp [go_sem])
        have y188 : A.eval (.tmp 188) = _ := Eq.trans (hf 188) (by conv => lhs; simp [go_sem])
        have y189 : A.eval (.tmp 189) = _ := Eq.trans (hf 189) (by conv => lhs; simp [go_sem])
        have y190 : A.eval (.tmp 190) = _ := Eq.trans (hf 190) (by conv => lhs; simp [go_sem])
        have y191 : A.eval (.tmp 191) = _ := Eq.trans (hf 191) (by conv => lhs; simp [go_sem])
        have y192 : A.eval (.tmp 192) = _ := Eq.trans (hf 192) (by conv => lhs; simp [go_sem])
        have y193 : A.eval (.tmp 193) = _ := Eq.trans (hf 193) (by conv => lhs; simp [go_sem])
        have y194 : A.eval (.tmp 194) = _ := Eq.trans (hf 194) (by conv => lhs; simp [go_sem])
        have y195 : A.eval (.tmp 195) = _ := Eq.trans (hf 195) (by conv => lhs; simp [go_sem])
        have y196 : A.eval (.tmp 196) = _ := Eq.trans (hf 196) (by conv => lhs; simp [go_sem])
        have y197 : A.eval (.tmp 197) = _ := Eq.trans (hf 197) (by conv => lhs; simp [go_sem])
        have y198 : A.eval (.tmp 198) = _ := Eq.trans (hf 198) (by conv => lhs; simp [go_sem])
        have y199 : A.eval (.tmp 199) = _ := Eq.trans (hf 199) (by conv => lhs; simp [go_sem])
        have y200 : A.eval (.tmp 200) = _ := Eq.trans (hf 200) (by conv => lhs; simp [go_sem])
        have y201 : A.eval (.tmp 201) = _ := Eq.trans (hf 201) (by conv => lhs; simp [go_sem])
        have y202 : A.eval (.tmp 202) = _ := Eq.trans (hf 202) (by conv => lhs; simp [go_sem])
        have y203 : A.eval (.tmp 203) = _ := Eq.trans (hf 203) (by conv => lhs; simp [go_sem])
        have y204 : A.eval (.tmp 204) = _ := Eq.trans (hf 204) (by conv => lhs; simp [go_sem])
        have y205 : A.eval (.tmp 205) = _ := Eq.trans (hf 205) (by conv => lhs; simp [go_sem])
        have y206 : A.eval (.tmp 206) = _ := Eq.trans (hf 206) (by conv => lhs; simp [go_sem])
        have y207 : A.eval (.tmp 207) = _ := Eq.trans (hf 207) (by conv => lhs; simp [go_sem])
        have y208 : A.eval (.tmp 208) = _ := Eq.trans (hf 208) (by conv => lhs; simp [go_sem])
        have y209 : A.eval (.tmp 209) = _ := Eq.trans (hf 209) (by conv => lhs; simp [go_sem])
        have y210 : A.eval (.tmp 210) = _ := Eq.trans (hf 210) (by conv => lhs; simp [go_sem])
        have y211 : A.eval (.tmp 211) = _ := Eq.trans (hf 211) (by conv => lhs; simp [go_sem])
        have y212 : A.eval (.tmp 212) = _ := Eq.trans (hf 212) (by conv => lhs; simp [go_sem])
        have y213 : A.eval (.tmp 213) = _ := Eq.trans (hf 213) (by conv => lhs; simp [go_sem])
        have y214 : A.eval (.tmp 214) = _ := Eq.trans (hf 214) (by conv => lhs; simp [go_sem])
        have y215 : A.eval (.tmp 215) = _ := Eq.trans (hf 215) (by conv => lhs; simp [go_sem])
        have y216 : A.eval (.tmp 216) = _ := Eq.trans (hf 216) (by conv => lhs; simp [go_sem])
        have y217 : A.eval (.tmp 217) = _ := Eq.trans (hf 217) (by conv => lhs; simp [go_sem])
        have y218 : A.eval (.tmp 218) = _ := Eq.trans (hf 218) (by conv => lhs; simp [go_sem])
        have y219 : A.eval (.tmp 219) = _ := Eq.trans (hf 219) (by conv => lhs; simp [go_sem])
        clear hf
        have hA := frame_eq hn
        rw [show List.range 220 = [0, 1, 2, 3, 4, 5, 6, 7, 8, 9, 10, 11, 12, 13, 14, 15, 16, 17, 18, 19, 20, 21, 22, 23, 24, 25, 26, 27, 28, 29, 30, 31, 32, 33, 34, 35, 36, 37, 38, 39, 40, 41, 42, 43, 44, 45, 46, 47, 48, 49, 50, 51, 52, 53, 54, 55, 56, 57, 58, 59, 60, 61, 62, 63, 64, 65, 66, 67, 68, 69, 70, 71, 72, 73, 74, 75, 76, 77, 78, 79, 80, 81, 82, 83, 84, 85, 86, 87, 88, 89, 90, 91, 92, 93, 94, 95, 96, 97, 98, 99, 100, 101, 102, 103, 104, 105, 106, 107, 108, 109, 110, 111, 112, 113, 114, 115, 116, 117, 118, 119, 120, 121, 122, 123, 124, 125, 126, 127, 128, 129, 130, 131, 132, 133, 134, 135, 136, 137, 138, 139, 140, 141, 142, 143, 144, 145, 146, 147, 148, 149, 150, 151, 152, 153, 154, 155, 156, 157, 158, 159, 160, 161, 162, 163, 164, 165, 166, 167, 168, 169, 170, 171, 172, 173, 174, 175, 176, 177, 178, 179, 180, 181, 182, 183, 184, 185, 186, 187, 188, 189, 190, 191, 192, 193, 194, 195, 196, 197, 198, 199, 200, 201, 202, 203, 204, 205, 206, 207, 208, 209, 210, 211, 212, 213, 214, 215, 216, 217, 218, 219] from rfl, hd] at hA
        simp only [List.map_cons, List.map_nil, y0, y1, y2, y3, y4, y5, y6, y7, y8, y9, y10, y11, y12, y13, y14, y15, y16, y17, y18, y19, y20, y21, y22, y23, y24, y25, y26, y27, y28, y29, y30, y31, y32, y33, y34, y35, y36, y37, y38, y39, y40, y41, y42, y43, y44, y45, y46, y47, y48, y49, y50, y51, y52, y53, y54, y55, y56, y57, y58, y59, y60, y61, y62, y63, y64, y65, y66, y67, y68, y69, y70, y71, y72, y73, y74, y75, y76, y77, y78, y79, y80, y81, y82, y83, y84, y85, y86, y87, y88, y89, y90, y91, y92, y93, y94, y95, y96, y97, y98, y99, y100, y101, y102, y103, y104, y105, y106, y107, y108, y109, y110, y111, y112, y113, y114, y115, y116, y117, y118, y119, y120, y121, y122, y123, y124, y125, y126, y127, y128, y129, y130, y131, y132, y133, y134, y135, y136, y137, y138, y139, y140, y141, y142, y143, y144, y145, y146, y147, y148, y149, y150, y151, y152, y153, y154, y155, y156, y157, y158, y159, y160, y161, y162, y163, y164, y165, y166, y167, y168, y169, y170, y171, y172, y173, y174, y175, y176, y177, y178, y179, y180, y181, y182, y183, y184, y185, y186, y187, y188, y189, y190, y191, y192, y193, y194, y195, y196, y197, y198, y199, y200, y201, y202, y203, y204, y205, y206, y207, y208, y209, y210, y211, y212, y213, y214, y215, y216, y217, y218, y219] at hA
        clear y0 y1 y2 y3 y4 y5 y6 y7 y8 y9 y10 y11 y12 y13 y14 y15 y16 y17 y18 y19 y20 y21 y22 y23 y24 y25 y26 y27 y28 y29 y30 y31 y32 y33 y34 y35 y36 y37 y38 y39 y40 y41 y42 y43 y44 y45 y46 y47 y48 y49 y50 y51 y52 y53 y54 y55 y56 y57 y58 y59 y60 y61 y62 y63 y64 y65 y66 y67 y68 y69 y70 y71 y72 y73 y74 y75 y76 y77 y78 y79 y80 y81 y82 y83 y84 y85 y86 y87 y88 y89 y90 y91 y92 y93 y94 y95 y96 y97 y98 y99 y100 y101 y102 y103 y104 y105 y106 y107 y108 y109 y110 y111 y112 y113 y114 y115 y116 y117 y118 y119 y120 y121 y122 y123 y124 y125 y126 y127 y128 y129 y130 y131 y132 y133 y134 y135 y136 y137 y138 y139 y140 y141 y142 y143 y144 y145 y146 y147 y148 y149 y150 y151 y152 y153 y154 y155 y156 y157 y158 y159 y160 y161 y162 y163 y164 y165 y166 y167 y168 y169 y170 y171 y172 y173 y174 y175 y176 y177 y178 y179 y180 y181 y182 y183 y184 y185 y186 y187 y188 y189 y190 y191 y192 y193 y194 y195 y196 y197 y198 y199 y200 y201 y202 y203 y204 y205 y206 y207 y208 y209 y210 y211 y212 y213 y214 y215 y216 y217 y218 y219
        clear hn hd
        subst hA
        have HS3 := Lib.hid (HS.out.low hb)
        clear HS hb kc cX
        go_wp2_with fail
        go_roundw
        case rel => exact ⟨s, hh0, rfl, rfl, hms, by have := H3.out; omega, by have := H3.out; omega, HS3, H1, .inr ⟨by have := H3.out; omega, by rw [HX.out]; exact hl⟩⟩
        case measure => have := H3.out; simp [intOf]; omega
      · have hl := HO.out.no x y okx OKY.out i1 hv
        have hvd : decide (cf y x < 0) = false := decide_eq_false hv
        go_upto_region 17 with (fail)
        refine wp_region_typed (C := fun w' => Below wr.heap.size wr w') (X := fun w w' => Below w.heap.size w w') (n := 220) (by kernel_rfl) (by kernel_rfl) rfl (fun w => Below.refl _ w) (Below.refl _ _).drew ?_
        refine w_is (fun w => Below.refl _ w) _ (.inl rfl) (fun ρ w hC hc hfn hf => by have e4 : ρ (.tmp 4) = _ := hf 4 (by decide); (conv => lhs; simp [execOp, go_sem, hc, e4])) ?_
        refine w_is (fun w => Below.refl _ w) _ (.inl rfl) (fun ρ w hC hc hfn hf => by have e0 : ρ (.tmp 0) = _ := hf 0 (by decide); (conv => lhs; simp [execOp, go_sem, hc, e0])) ?_
        refine w_is (fun w => Below.refl _ w) _ (.inl rfl) (fun ρ w hC hc hfn hf => by have e2 : ρ (.tmp 2) = _ := hf 2 (by decide); (conv => lhs; simp [execOp, go_sem, hc, e2])) ?_
        refine w_is (fun w => Below.refl _ w) _ (.inl rfl) (fun ρ w hC hc hfn hf => by have e93 : ρ (.tmp 93) = _ := hf 93 (by decide); have e94 : ρ (.tmp 94) = _ := hf 94 (by decide); (conv => lhs; simp [execOp, go_sem, hc, e93, e94, b2])) ?_
        refine w_is (fun w => Below.refl _ w) _ (.inl rfl) (fun ρ w hC hc hfn hf => by have e95 : ρ (.tmp 95) = _ := hf 95 (by decide); (conv => lhs; simp [execOp, go_sem, hc, e95, kc w hC])) ?_
        refine w_is (fun w => Below.refl _ w) _ (.inl rfl) (fun ρ w hC hc hfn hf => by have e0 : ρ (.tmp 0) = _ := hf 0 (by decide); (conv => lhs; simp [execOp, go_sem, hc, e0])) ?_
        refine w_is (fun w => Below.refl _ w) _ (.inl rfl) (fun ρ w hC hc hfn hf => by have e16 : ρ (.tmp 16) = _ := hf 16 (by decide); (conv => lhs; simp [execOp, go_sem, hc, e16])) ?_
        refine w_is (fun w => Below.refl _ w) _ (.inl rfl) (fun ρ w hC hc hfn hf => by have e97 : ρ (.tmp 97) = _ := hf 97 (by decide); have e98 : ρ (.tmp 98) = _ := hf 98 (by decide); (conv => lhs; simp [execOp, go_sem, hc, e97, e98, b1])) ?_
        refine w_is (fun w => Below.refl _ w) _ (.inl rfl) (fun ρ w hC hc hfn hf => by have e99 : ρ (.tmp 99) = _ := hf 99 (by decide); (conv => lhs; simp [execOp, go_sem, hc, e99, kc w hC])) ?_
        refine w_call (Is _) (fun _ _ _ h _ => h) 58 (.inl rfl) (fun ρ w hC hc hfn hf => by have e92 : ρ (.tmp 92) = _ := hf 92 (by decide); have e96 : ρ (.tmp 96) = _ := hf 96 (by decide); have e100 : ρ (.tmp 100) = _ := hf 100 (by decide); exact ⟨_, by (conv => lhs; simp [execOp, resolve, invoke, go_sem, hc, hfn, e92, e96, e100]), tc_below hC (cX w hC)⟩) ?_
        refine w_is (fun w => Below.refl _ w) _ (.inl rfl) (fun ρ w hC hc hfn hf => by have e101 : ρ (.tmp 101) = _ := hf 101 (by decide); (conv => lhs; simp [execOp, go_sem, hc, e101, hv])) ?_
        refine w_is (fun w => Below.refl _ w) _ (.inl rfl) (fun ρ w hC hc hfn hf => by have e102 : ρ (.tmp 102) = _ := hf 102 (by decide); (conv => lhs; simp [execOp, go_sem, hc, e102])) ?_
        intro A V hb hn hd hf
        have y0 : A.eval (.tmp 0) = _ := Eq.trans (hf 0) (by conv => lhs; simp [go_sem])
        have y1 : A.eval (.tmp 1) = _ := Eq.trans (hf 1) (by conv => lhs; simp [go_sem])
        have y2 : A.eval (.tmp 2) = _ := Eq.trans (hf 2) (by conv => lhs; simp [go_sem])
        have y3 : A.eval (.tmp 3) = _ := Eq.trans (hf 3) (by conv => lhs; simp [go_sem])
        have y4 : A.eval (.tmp 4) = _ := Eq.trans (hf 4) (by conv => lhs; simp [go_sem])
        have y5 : A.eval (.tmp 5) = _ := Eq.trans (hf 5) (by conv => lhs; simp [go_sem])
        have y6 : A.eval (.tmp 6) = _ := Eq.trans (hf 6) (by conv => lhs; simp [go_sem])
        have y7 : A.eval (.tmp 7) = _ := Eq.trans (hf 7) (by conv => lhs; simp [go_sem])
        have y8 : A.eval (.tmp 8) = _ := Eq.trans (hf 8) (by conv => lhs; simp [go_sem])
        have y9 : A.eval (.tmp 9) = _ := Eq.trans (hf 9) (by conv => lhs; simp [go_sem])
        have y10 : A.eval (.tmp 10) = _ := Eq.trans (hf 10) (by conv => lhs; simp [go_sem])
        have y11 : A.eval (.tmp 11) = _ := Eq.trans (hf 11) (by conv => lhs; simp [go_sem])
        have y12 : A.eval (.tmp 12) = _ := Eq.trans (hf 12) (by conv => lhs; simp [go_sem])
        have y13 : A.eval (.tmp 13) = _ := Eq.trans (hf 13) (by conv => lhs; simp [go_sem])
        have y14 : A.eval (.tmp 14) = _ := Eq.trans (hf 14) (by conv => lhs; simp [go_sem])
        have y15 : A.eval (.tmp 15) = _ := Eq.trans (hf 15) (by conv => lhs; simp [go_sem])
        have y16 : A.eval (.tmp 16) = _ := Eq.trans (hf 16) (by conv => lhs; simp [go_sem])
        have y17 : A.eval (.tmp 17) = _ := Eq.trans (hf 17) (by conv => lhs; simp [go_sem])
        have y18 : A.eval (.tmp 18) = _ := Eq.trans (hf 18) (by conv => lhs; simp [go_sem])
        have y19 : A.eval (.tmp 19) = _ := Eq.trans (hf 19) (by conv => lhs; simp [go_sem])
        have y20 : A.eval (.tmp 20) = _ := Eq.trans (hf 20) (by conv => lhs; simp [go_sem])
        have y21 : A.eval (.tmp 21) = _ := Eq.trans (hf 21) (by conv => lhs; simp [go_sem])
        have y22 : A.eval (.tmp 22) = _ := Eq.trans (hf 22) (by conv => lhs; simp [go_sem])
        have y23 : A.eval (.tmp 23) = _ := Eq.trans (hf 23) (by conv => lhs; simp [go_sem])
        have y24 : A.eval (.tmp 24) = _ := Eq.trans (hf 24) (by conv => lhs; simp [go_sem])
        have y25 : A.eval (.tmp 25) = _ := Eq.trans (hf 25) (by conv => lhs; simp [go_sem])
        have y26 : A.eval (.tmp 26) = _ := Eq.trans (hf 26) (by conv => lhs; simp [go_sem])
        have y27 : A.eval (.tmp 27) = _ := Eq.trans (hf 27) (by conv => lhs; simp [go_sem])
        have y28 : A.eval (.tmp 28) = _ := Eq.trans (hf 28) (by conv => lhs; simp [go_sem])
        have y29 : A.eval (.tmp 29) = _ := Eq.trans (hf 29) (by conv => lhs; simp [go_sem])
        have y30 : A.eval (.tmp 30) = _ := Eq.trans (hf 30) (by conv => lhs; simp [go_sem])
        have y31 : A.eval (.tmp 31) = _ := Eq.trans (hf 31) (by conv => lhs; simp [go_sem])
        have y32 : A.eval (.tmp 32) = _ := Eq.trans (hf 32) (by conv => lhs; simp [go_sem])
        have y33 : A.eval (.tmp 33) = _ := Eq.trans (hf 33) (by conv => lhs; simp [go_sem])
        have y34 : A.eval (.tmp 34) = _ := Eq.trans (hf 34) (by conv => lhs; simp [go_sem])
        have y35 : A.eval (.tmp 35) = _ := Eq.trans (hf 35) (by conv => lhs; simp [go_sem])
        have y36 : A.eval (.tmp 36) = _ := Eq.trans (hf 36) (by conv => lhs; simp [go_sem])
        have y37 : A.eval (.tmp 37) = _ := Eq.trans (hf 37) (by conv => lhs; simp [go_sem])
        have y38 : A.eval (.tmp 38) = _ := Eq.trans (hf 38) (by conv => lhs; simp [go_sem])
        have y39 : A.eval (.tmp 39) = _ := Eq.trans (hf 39) (by conv => lhs; simp [go_sem])
        have y40 : A.eval (.tmp 40) = _ := Eq.trans (hf 40) (by conv => lhs; simp [go_sem])
        have y41 : A.eval (.tmp 41) = _ := Eq.trans (hf 41) (by conv => lhs; simp [go_sem])
        have y42 : A.eval (.tmp 42) = _ := Eq.trans (hf 42) (by conv => lhs; simp [go_sem])
        have y43 : A.eval (.tmp 43) = _ := Eq.trans (hf 43) (by conv => lhs; simp [go_sem])
        have y44 : A.eval (.tmp 44) = _ := Eq.trans (hf 44) (by conv => lhs; simp [go_sem])
        have y45 : A.eval (.tmp 45) = _ := Eq.trans (hf 45) (by conv => lhs; simp [go_sem])
        have y46 : A.eval (.tmp 46) = _ := Eq.trans (hf 46) (by conv => lhs; simp [go_sem])
        have y47 : A.eval (.tmp 47) = _ := Eq.trans (hf 47) (by conv => lhs; simp [go_sem])
        have y48 : A.eval (.tmp 48) = _ := Eq.trans (hf 48) (by conv => lhs; simp [go_sem])
        have y49 : A.eval (.tmp 49) = _ := Eq.trans (hf 49) (by conv => lhs; simp [go_sem])
        have y50 : A.eval (.tmp 50) = _ := Eq.trans (hf 50) (by conv => lhs; simp [go_sem])
        have y51 : A.eval (.tmp 51) = _ := Eq.trans (hf 51) (by conv => lhs; simp [go_sem])
        have y52 : A.eval (.tmp 52) = _ := Eq.trans (hf 52) (by conv => lhs; simp [go_sem])
        have y53 : A.eval (.tmp 53) = _ := Eq.trans (hf 53) (by conv => lhs; simp [go_sem])
        have y54 : A.eval (.tmp 54) = _ := Eq.trans (hf 54) (by conv => lhs; simp [go_sem])
        have y55 : A.eval (.tmp 55) = _ := Eq.trans (hf 55) (by conv => lhs; simp [go_sem])
        have y56 : A.eval (.tmp 56) = _ := Eq.trans (hf 56) (by conv => lhs; simp [go_sem])
        have y57 : A.eval (.tmp 57) = _ := Eq.trans (hf 57) (by conv => lhs; simp [go_sem])
        have y58 : A.eval (.tmp 58) = _ := Eq.trans (hf 58) (by conv => lhs; simp [go_sem])
        have y59 : A.eval (.tmp 59) = _ := Eq.trans (hf 59) (by conv => lhs; simp [go_sem])
        have y60 : A.eval (.tmp 60) = _ := Eq.trans (hf 60) (by conv => lhs; simp [go_sem])
        have y61 : A.eval (.tmp 61) = _ := Eq.trans (hf 61) (by conv => lhs; simp [go_sem])
        have y62 : A.eval (.tmp 62) = _ := Eq.trans (hf 62) (by conv => lhs; simp [go_sem])
        have y63 : A.eval (.tmp 63) = _ := Eq.trans (hf 63) (by conv => lhs; simp [go_sem])
        have y64 : A.eval (.tmp 64) = _ := Eq.trans (hf 64) (by conv => lhs; simp [go_sem])
        have y65 : A.eval (.tmp 65) = _ := Eq.trans (hf 65) (by conv => lhs; simp [go_sem])
        have y66 : A.eval (.tmp 66) = _ := Eq.trans (hf 66) (by conv => lhs; simp [go_sem])
        have y67 : A.eval (.tmp 67) = _ := Eq.trans (hf 67) (by conv => lhs; simp [go_sem])
        have y68 : A.eval (.tmp 68) = _ := Eq.trans (hf 68) (by conv => lhs; simp [go_sem])
        have y69 : A.eval (.tmp 69) = _ := Eq.trans (hf 69) (by conv => lhs; simp [go_sem])
        have y70 : A.eval (.tmp 70) = _ := Eq.trans (hf 70) (by conv => lhs; simp [go_sem])
        have y71 : A.eval (.tmp 71) = _ := Eq.trans (hf 71) (by conv => lhs; simp [go_sem])
        have y72 : A.eval (.tmp 72) = _ := Eq.trans (hf 72) (by conv => lhs; simp [go_sem])
        have y73 : A.eval (.tmp 73) = _ := Eq.trans (hf 73) (by conv => lhs; simp [go_sem])
        have y74 : A.eval (.tmp 74) = _ := Eq.trans (hf 74) (by conv => lhs; simp [go_sem])
        have y75 : A.eval (.tmp 75) = _ := Eq.trans (hf 75) (by conv => lhs; simp [go_sem])
        have y76 : A.eval (.tmp 76) = _ := Eq.trans (hf 76) (by conv => lhs; simp [go_sem])
        have y77 : A.eval (.tmp 77) = _ := Eq.trans (hf 77) (by conv => lhs; simp [go_sem])
        have y78 : A.eval (.tmp 78) = _ := Eq.trans (hf 78) (by conv => lhs; simp [go_sem])
        have y79 : A.eval (.tmp 79) = _ := Eq.trans (hf 79) (by conv => lhs; simp [go_sem])
        have y80 : A.eval (.tmp 80) = _ := Eq.trans (hf 80) (by conv => lhs; simp [go_sem])
        have y81 : A.eval (.tmp 81) = _ := Eq.trans (hf 81) (by conv => lhs; simp [go_sem])
        have y82 : A.eval (.tmp 82) = _ := Eq.trans (hf 82) (by conv => lhs; simp [go_sem])
        have y83 : A.eval (.tmp 83) = _ := Eq.trans (hf 83) (by conv => lhs; simp [go_sem])
        have y84 : A.eval (.tmp 84) = _ := Eq.trans (hf 84) (by conv => lhs; simp [go_sem])
        have y85 : A.eval (.tmp 85) = _ := Eq.trans (hf 85) (by conv => lhs; simp [go_sem])
        have y86 : A.eval (.tmp 86) = _ := Eq.trans (hf 86) (by conv => lhs; simp [go_sem])
        have y87 : A.eval (.tmp 87) = _ := Eq.trans (hf 87) (by conv => lhs; simp [go_sem])
        have y88 : A.eval (.tmp 88) = _ := Eq.trans (hf 88) (by conv => lhs; simp [go_sem])
        have y89 : A.eval (.tmp 89) = _ := Eq.trans (hf 89) (by conv => lhs; simp [go_sem])
        have y90 : A.eval (.tmp 90) = _ := Eq.trans (hf 90) (by conv => lhs; simp [go_sem])
        have y91 : A.eval (.tmp 91) = _ := Eq.trans (hf 91) (by conv => lhs; simp [go_sem])
        have y92 : A.eval (.tmp 92) = _ := hf 92
        have y93 : A.eval (.tmp 93) = _ := hf 93
        have y94 : A.eval (.tmp 94) = _ := hf 94
        have y95 : A.eval (.tmp 95) = _ := hf 95
        have y96 : A.eval (.tmp 96) = _ := hf 96
        have y97 : A.eval (.tmp 97) = _ := hf 97
        have y98 : A.eval (.tmp 98) = _ := hf 98
        have y99 : A.eval (.tmp 99) = _ := hf 99
        have y100 : A.eval (.tmp 100) = _ := hf 100
        have y101 : A.eval (.tmp 101) = _ := hf 101
        have y102 : A.eval (.tmp 102) = _ := hf 102
        have y103 : A.eval (.tmp 103) = _ := hf 103
        have y104 : A.eval (.tmp 104) = _ := Eq.trans (hf 104) (by conv => lhs; simp [go_sem])
        have y105 : A.eval (.tmp 105) = _ := Eq.trans (hf 105) (by conv => lhs; simp [go_sem])
        have y106 : A.eval (.tmp 106) = _ := Eq.trans (hf 106) (by conv => lhs; simp [go_sem])
        have y107 : A.eval (.tmp 107) = _ := Eq.trans (hf 107) (by conv => lhs; simp [go_sem])
        have y108 : A.eval (.tmp 108) = _ := Eq.trans (hf 108) (by conv => lhs; simp [go_sem])
        have y109 : A.eval (.tmp 109) = _ := Eq.trans (hf 109) (by conv => lhs; simp [go_sem])
        have y110 : A.eval (.tmp 110) = _ := Eq.trans (hf 110) (by conv => lhs; simp [go_sem])
        have y111 : A.eval (.tmp 111) = _ := Eq.trans (hf 111) (by conv => lhs; simp [go_sem])
        have y112 : A.eval (.tmp 112) = _ := Eq.trans (hf 112) (by conv => lhs; simp [go_sem])
        have y113 : A.eval (.tmp 113) = _ := Eq.trans (hf 113) (by conv => lhs; simp [go_sem])
        have y114 : A.eval (.tmp 114) = _ := Eq.trans (hf 114) (by conv => lhs; simp [go_sem])
        have y115 : A.eval (.tmp 115) = _ := Eq.trans (hf 115) (by conv => lhs; simp [go_sem])
        have y116 : A.eval (.tmp 116) = _ := Eq.trans (hf 116) (by conv => lhs; simp [go_sem])
        have y117 : A.eval (.tmp 117) = _ := Eq.trans (hf 117) (by conv => lhs; simp [go_sem])
        have y118 : A.eval (.tmp 118) = _ := Eq.trans (hf 118) (by conv => lhs; simp [go_sem])
        have y119 : A.eval (.tmp 119) = _ := Eq.trans (hf 119) (by conv => lhs; simp [go_sem])
        have y120 : A.eval (.tmp 120) = _ := Eq.trans (hf 120) (by conv => lhs; simp [go_sem])
        have y121 : A.eval (.tmp 121) = _ := Eq.trans (hf 121) (by conv => lhs; simp [go_sem])
        have y122 : A.eval (.tmp 122) = _ := Eq.trans (hf 122) (by conv => lhs; simp [go_sem])
        have y123 : A.eval (.tmp 123) = _ := Eq.trans (hf 123) (by conv => lhs; simp [go_sem])
        have y124 : A.eval (.tmp 124) = _ := Eq.trans (hf 124) (by conv => lhs; simp [go_sem])
        have y125 : A.eval (.tmp 125) = _ := Eq.trans (hf 125) (by conv => lhs; simp [go_sem])
        have y126 : A.eval (.tmp 126) = _ := Eq.trans (hf 126) (by conv => lhs; simp [go_sem])
        have y127 : A.eval (.tmp 127) = _ := Eq.trans (hf 127) (by conv => lhs; simp [go_sem])
        have y128 : A.eval (.tmp 128) = _ := Eq.trans (hf 128) (by conv => lhs; simp [go_sem])
        have y129 : A.eval (.tmp 129) = _ := Eq.trans (hf 129) (by conv => lhs; simp [go_sem])
        have y130 : A.eval (.tmp 130) = _ := Eq.trans (hf 130) (by conv => lhs; simp [go_sem])
        have y131 : A.eval (.tmp 131) = _ := Eq.trans (hf 131) (by conv => lhs; simp [go_sem])
        have y132 : A.eval (.tmp 132) = _ := Eq.trans (hf 132) (by conv => lhs; simp [go_sem])
        have y133 : A.eval (.tmp 133) = _ := Eq.trans (hf 133) (by conv => lhs; simp [go_sem])
        have y134 : A.eval (.tmp 134) = _ := Eq.trans (hf 134) (by conv => lhs; simp [go_sem])
        have y135 : A.eval (.tmp 135) = _ := Eq.trans (hf 135) (by conv => lhs; simp [go_sem])
        have y136 : A.eval (.tmp 136) = _ := Eq.trans (hf 136) (by conv => lhs; simp [go_sem])
        have y137 : A.eval (.tmp 137) = _ := Eq.trans (hf 137) (by conv => lhs; simp [go_sem])
        have y138 : A.eval (.tmp 138) = _ := Eq.trans (hf 138) (by conv => lhs; simp [go_sem])
        have y139 : A.eval (.tmp 139) = _ := Eq.trans (hf 139) (by conv => lhs; simp [go_sem])
        have y140 : A.eval (.tmp 140) = _ := Eq.trans (hf 140) (by conv => lhs; simp [go_sem])
        have y141 : A.eval (.tmp 141) = _ := Eq.trans (hf 141) (by conv => lhs; simp [go_sem])
        have y142 : A.eval (.tmp 142) = _ := Eq.trans (hf 142) (by conv => lhs; simp [go_sem])
        have y143 : A.eval (.tmp 143) = _ := Eq.trans (hf 143) (by conv => lhs; simp [go_sem])
        have y144 : A.eval (.tmp 144) = _ := Eq.trans (hf 144) (by conv => lhs; simp [go_sem])
        have y145 : A.eval (.tmp 145) = _ := Eq.trans (hf 145) (by conv => lhs; simp [go_sem])
        have y146 : A.eval (.tmp 146) = _ := Eq.trans (hf 146) (by conv => lhs; simp [go_sem])
        have y147 : A.eval (.tmp 147) = _ := Eq.trans (hf 147) (by conv => lhs; simp [go_sem])
        have y148 : A.eval (.tmp 148) = _ := Eq.trans (hf 148) (by conv => lhs; simp [go_sem])
        have y149 : A.eval (.tmp 149) = _ := Eq.trans (hf 149) (by conv => lhs; simp [go_sem])
        have y150 : A.eval (.tmp 150) = _ := Eq.trans (hf 150) (by conv => lhs; simp [go_sem])
        have y151 : A.eval (.tmp 151) = _ := Eq.trans (hf 151) (by conv => lhs; simp [go_sem])
        have y152 : A.eval (.tmp 152) = _ := Eq.trans (hf 152) (by conv => lhs; simp [go_sem])
        have y153 : A.eval (.tmp 153) = _ := Eq.trans (hf 153) (by conv => lhs; simp [go_sem])
        have y154 : A.eval (.tmp 154) = _ := Eq.trans (hf 154) (by conv => lhs; simp [go_sem])
        have y155 : A.eval (.tmp 155) = _ := Eq.trans (hf 155) (by conv => lhs; simp [go_sem])
        have y156 : A.eval (.tmp 156) = _ := Eq.trans (hf 156) (by conv => lhs; simp [go_sem])
        have y157 : A.eval (.tmp 157) = _ := Eq.trans (hf 157) (by conv => lhs; simp [go_sem])
        have y158 : A.eval (.tmp 158) = _ := Eq.trans (hf 158) (by conv => lhs; simp [go_sem])
        have y159 : A.eval (.tmp 159) = _ := Eq.trans (hf 159) (by conv => lhs; simp [go_sem])
        have y160 : A.eval (.tmp 160) = _ := Eq.trans (hf 160) (by conv => lhs; simp [go_sem])
        have y161 : A.eval (.tmp 161) = _ := Eq.trans (hf 161) (by conv => lhs; simp [go_sem])
        have y162 : A.eval (.tmp 162) = _ := Eq.trans (hf 162) (by conv => lhs; simp [go_sem])
        have y163 : A.eval (.tmp 163) = _ := Eq.trans (hf 163) (by conv => lhs; simp [go_sem])
        have y164 : A.eval (.tmp 164) = _ := Eq.trans (hf 164) (by conv => lhs; simp [go_sem])
        have y165 : A.eval (.tmp 165) = _ := Eq.trans (hf 165) (by conv => lhs; simp [go_sem])
        have y166 : A.eval (.tmp 166) = _ := Eq.trans (hf 166) (by conv => lhs; simp [go_sem])
        have y167 : A.eval (.tmp 167) = _ := Eq.trans (hf 167) (by conv => lhs; simp [go_sem])
        have y168 : A.eval (.tmp 168) = _ := Eq.trans (hf 168) (by conv => lhs; simp [go_sem])
        have y169 : A.eval (.tmp 169) = _ := Eq.trans (hf 169) (by conv => lhs; simp [go_sem])
        have y170 : A.eval (.tmp 170) = _ := Eq.trans (hf 170) (by conv => lhs; simp [go_sem])
        have y171 : A.eval (.tmp 171) = _ := Eq.trans (hf 171) (by conv => lhs; simp [go_sem])
        have y172 : A.eval (.tmp 172) = _ := Eq.trans (hf 172) (by conv => lhs; simp [go_sem])
        have y173 : A.eval (.tmp 173) = _ := Eq.trans (hf 173) (by conv => lhs; simp [go_sem])
        have y174 : A.eval (.tmp 174) = _ := Eq.trans (hf 174) (by conv => lhs; simp [go_sem])
        have y175 : A.eval (.tmp 175) = _ := Eq.trans (hf 175) (by conv => lhs; simp [go_sem])
        have y176 : A.eval (.tmp 176) = _ := Eq.trans (hf 176) (by conv => lhs; simp [go_sem])
        have y177 : A.eval (.tmp 177) = _ := Eq.trans (hf 177) (by conv => lhs; simp [go_sem])
        have y178 : A.eval (.tmp 178) = _ := Eq.trans (hf 178) (by conv => lhs; simp [go_sem])
        have y179 : A.eval (.tmp 179) = _ := Eq.trans (hf 179) (by conv => lhs; simp [go_sem])
        have y180 : A.eval (.tmp 180) = _ := Eq.trans (hf 180) (by conv => lhs; simp [go_sem])
        have y181 : A.eval (.tmp 181) = _ := Eq.trans (hf 181) (by conv => lhs; simp [go_sem])
        have y182 : A.eval (.tmp 182) = _ := Eq.trans (hf 182) (by conv => lhs; simp [go_sem])
        have y183 : A.eval (.tmp 183) = _ := Eq.trans (hf 183) (by conv => lhs; simp [go_sem])
        have y184 : A.eval (.tmp 184) = _ := Eq.trans (hf 184) (by conv => lhs; simp [go_sem])
        have y185 : A.eval (.tmp 185) = _ := Eq.trans (hf 185) (by conv => lhs; simp [go_sem])
        have y186 : A.eval (.tmp 186) = _ := Eq.trans (hf 186) (by conv => lhs; simp [go_sem])
        have y187 : A.eval (.tmp 187) = _ := Eq.trans (hf 187) (by conv => lhs; simp [go_sem])
        have y188 : A.eval (.tmp 188) = _ := Eq.trans (hf 188) (by conv => lhs; simp [go_sem])
        have y189 : A.eval (.tmp 189) = _ := Eq.trans (hf 189) (by conv => lhs; simp [go_sem])
        have y190 : A.eval (.tmp 190) = _ := Eq.trans (hf 190) (by conv => lhs; simp [go_sem])
        have y191 : A.eval (.tmp 191) = _ := Eq.trans (hf 191) (by conv => lhs; simp [go_sem])
        have y192 : A.eval (.tmp 192) = _ := Eq.trans (hf 192) (by conv => lhs; simp [go_sem])
        have y193 : A.eval (.tmp 193) = _ := Eq.trans (hf 193) (by conv => lhs; simp [go_sem])
        have y194 : A.eval (.tmp 194) = _ := Eq.trans (hf 194) (by conv => lhs; simp [go_sem])
        have y195 : A.eval (.tmp 195) = _ := Eq.trans (hf 195) (by conv => lhs; simp [go_sem])
        have y196 : A.eval (.tmp 196) = _ := Eq.trans (hf 196) (by conv => lhs; simp [go_sem])
        have y197 : A.eval (.tmp 197) = _ := Eq.trans (hf 197) (by conv => lhs; simp [go_sem])
        have y198 : A.eval (.tmp 198) = _ := Eq.trans (hf 198) (by conv => lhs; simp [go_sem])
        have y199 : A.eval (.tmp 199) = _ := Eq.trans (hf 199) (by conv => lhs; simp [go_sem])
        have y200 : A.eval (.tmp 200) = _ := Eq.trans (hf 200) (by conv => lhs; simp [go_sem])
        have y201 : A.eval (.tmp 201) = _ := Eq.trans (hf 201) (by conv => lhs; simp [go_sem])
        have y202 : A.eval (.tmp 202) = _ := Eq.trans (hf 202) (by conv => lhs; simp [go_sem])
        have y203 : A.eval (.tmp 203) = _ := Eq.trans (hf 203) (by conv => lhs; simp [go_sem])
        have y204 : A.eval (.tmp 204) = _ := Eq.trans (hf 204) (by conv => lhs; simp [go_sem])
        have y205 : A.eval (.tmp 205) = _ := Eq.trans (hf 205) (by conv => lhs; simp [go_sem])
        have y206 : A.eval (.tmp 206) = _ := Eq.trans (hf 206) (by conv => lhs; simp [go_sem])
        have y207 : A.eval (.tmp 207) = _ := Eq.trans (hf 207) (by conv => lhs; simp [go_sem])
        have y208 : A.eval (.tmp 208) = _ := Eq.trans (hf 208) (by conv => lhs; simp [go_sem])
        have y209 : A.eval (.tmp 209) = _ := Eq.trans (hf 209) (by conv => lhs; simp [go_sem])
        have y210 : A.eval (.tmp 210) = _ := Eq.trans (hf 210) (by conv => lhs; simp [go_sem])
        have y211 : A.eval (.tmp 211) = _ := Eq.trans (hf 211) (by conv => lhs; simp [go_sem])
        have y212 : A.eval (.tmp 212) = _ := Eq.trans (hf 212) (by conv => lhs; simp [go_sem])
        have y213 : A.eval (.tmp 213) = _ := Eq.trans (hf 213) (by conv => lhs; simp [go_sem])
        have y214 : A.eval (.tmp 214) = _ := Eq.trans (hf 214) (by conv => lhs; simp [go_sem])
        have y215 : A.eval (.tmp 215) = _ := Eq.trans (hf 215) (by conv => lhs; simp [go_sem])
        have y216 : A.eval (.tmp 216) = _ := Eq.trans (hf 216) (by conv => lhs; simp [go_sem])
        have y217 : A.eval (.tmp 217) = _ := Eq.trans (hf 217) (by conv => lhs; simp [go_sem])
        have y218 : A.eval (.tmp 218) = _ := Eq.trans (hf 218) (by conv => lhs; simp [go_sem])
        have y219 : A.eval (.tmp 219) = _ := Eq.trans (hf 219) (by conv => lhs; simp [go_sem])
        clear hf
        have hA := frame_eq hn
        rw [show List.range 220 = [0, 1, 2, 3, 4, 5, 6, 7, 8, 9, 10, 11, 12, 13, 14, 15, 16, 17, 18, 19, 20, 21, 22, 23, 24, 25, 26, 27, 28, 29, 30, 31, 32, 33, 34, 35, 36, 37, 38, 39, 40, 41, 42, 43, 44, 45, 46, 47, 48, 49, 50, 51, 52, 53, 54, 55, 56, 57, 58, 59, 60, 61, 62, 63, 64, 65, 66, 67, 68, 69, 70, 71, 72, 73, 74, 75, 76, 77, 78, 79, 80, 81, 82, 83, 84, 85, 86, 87, 88, 89, 90, 91, 92, 93, 94, 95, 96, 97, 98, 99, 100, 101, 102, 103, 104, 105, 106, 107, 108, 109, 110, 111, 112, 113, 114, 115, 116, 117, 118, 119, 120, 121, 122, 123, 124, 125, 126, 127, 128, 129, 130, 131, 132, 133, 134, 135, 136, 137, 138, 139, 140, 141, 142, 143, 144, 145, 146, 147, 148, 149, 150, 151, 152, 153, 154, 155, 156, 157, 158, 159, 160, 161, 162, 163, 164, 165, 166, 167, 168, 169, 170, 171, 172, 173, 174, 175, 176, 177, 178, 179, 180, 181, 182, 183, 184, 185, 186, 187, 188, 189, 190, 191, 192, 193, 194, 195, 196, 197, 198, 199, 200, 201, 202, 203, 204, 205, 206, 207, 208, 209, 210, 211, 212, 213, 214, 215, 216, 217, 218, 219] from rfl, hd] at hA
        simp only [List.map_cons, List.map_nil, y0, y1, y2, y3, y4, y5, y6, y7, y8, y9, y10, y11, y12, y13, y14, y15, y16, y17, y18, y19, y20, y21, y22, y23, y24, y25, y26, y27, y28, y29, y30, y31, y32, y33, y34, y35, y36, y37, y38, y39, y40, y41, y42, y43, y44, y45, y46, y47, y48, y49, y50, y51, y52, y53, y54, y55, y56, y57, y58, y59, y60, y61, y62, y63, y64, y65, y66, y67, y68, y69, y70, y71, y72, y73, y74, y75, y76, y77, y78, y79, y80, y81, y82, y83, y84, y85, y86, y87, y88, y89, y90, y91, y92, y93, y94, y95, y96, y97, y98, y99, y100, y101, y102, y103, y104, y105, y106, y107, y108, y109, y110, y111, y112, y113, y114, y115, y116, y117, y118, y119, y120, y121, y122, y123, y124, y125, y126, y127, y128, y129, y130, y131, y132, y133, y134, y135, y136, y137, y138, y139, y140, y141, y142, y143, y144, y145, y146, y147, y148, y149, y150, y151, y152, y153, y154, y155, y156, y157, y158, y159, y160, y161, y162, y163, y164, y165, y166, y167, y168, y169, y170, y171, y172, y173, y174, y175, y176, y177, y178, y179, y180, y181, y182, y183, y184, y185, y186, y187, y188, y189, y190, y191, y192, y193, y194, y195, y196, y197, y198, y199, y200, y201, y202, y203, y204, y205, y206, y207, y208, y209, y210, y211, y212, y213, y214, y215, y216, y217, y218, y219] at hA
        clear y0 y1 y2 y3 y4 y5 y6 y7 y8 y9 y10 y11 y12 y13 y14 y15 y16 y17 y18 y19 y20 y21 y22 y23 y24 y25 y26 y27 y28 y29 y30 y31 y32 y33 y34 y35 y36 y37 y38 y39 y40 y41 y42 y43 y44 y45 y46 y47 y48 y49 y50 y51 y52 y53 y54 y55 y56 y57 y58 y59 y60 y61 y62 y63 y64 y65 y66 y67 y68 y69 y70 y71 y72 y73 y74 y75 y76 y77 y78 y79 y80 y81 y82 y83 y84 y85 y86 y87 y88 y89 y90 y91 y92 y93 y94 y95 y96 y97 y98 y99 y100 y101 y102 y103 y104 y105 y106 y107 y108 y109 y110 y111 y112 y113 y114 y115 y116 y117 y118 y119 y120 y121 y122 y123 y124 y125 y126 y127 y128 y129 y130 y131 y132 y133 y134 y135 y136 y137 y138 y139 y140 y141 y142 y143 y144 y145 y146 y147 y148 y149 y150 y151 y152 y153 y154 y155 y156 y157 y158 y159 y160 y161 y162 y163 y164 y165 y166 y167 y168 y169 y170 y171 y172 y173 y174 y175 y176 y177 y178 y179 y180 y181 y182 y183 y184 y185 y186 y187 y188 y189 y190 y191 y192 y193 y194 y195 y196 y197 y198 y199 y200 y201 y202 y203 y204 y205 y206 y207 y208 y209 y210 y211 y212 y213 y214 y215 y216 y217 y218 y219
        clear hn hd
        subst hA
        have HS3 := Lib.hid (HS.out.low hb)
        clear HS hb kc cX
        go_wp2_with fail
        go_roundw
        case rel => exact ⟨hh0 + 1, t, by go_num, rfl, by have := H3.out; omega, by have := H3.out; omega, htc, HS3, .inr ⟨by have := H3.out; omega, by rw [Nat.add_sub_cancel, HX.out]; exact hl⟩, H2⟩
        case measure => have := H3.out; simp [intOf]; omega
    · obtain rfl : s = t := by omega
      have hltz : ¬ (s : Int) < (s : Int) := by omega
      have HS0 : Hid (SY DV B w0 b off wr (Put1 X L y Z L.length)) := by
        show SY _ _ _ _ _ _ _
        have := HS.out
        simpa [Put1] using this
      clear HS
      go_wp2_with fail
      go_loopw [17] (fun k wr => ∃ (u : Nat), k = .int .i64 ((a : Int) + (u : Int)) ∧ s ≤ a + u ∧ u ≤ L.length ∧ Hid (SY DV B w0 b off wr (Put1 X L y Z u))) (fun k _ => (intOf k).toNat)
      case atStart => exact ⟨L.length, by have := HN.out; simp only [Value.int.injEq, true_and]; omega, by have := HN.out; omega, Nat.le_refl _, HS0⟩
      case round =>
        obtain ⟨u, rfl, hu, huL, HS⟩ := hrel
        clear HS0
        by_cases hlt : s < a + u
        · obtain ⟨u, rfl⟩ : ∃ u', u = u' + 1 := ⟨u - 1, by omega⟩
          have hltz : (s : Int) < (a : Int) + ((u : Int) + 1) := by omega
          have hltz2 : (a : Int) + ((u : Int) + 1) > (s : Int) := by omega
          obtain ⟨iN, hiN⟩ : ∃ iN, iN = a + u + 1 := ⟨_, rfl⟩
          obtain ⟨jN, hjN⟩ : ∃ jN, jN = a + u := ⟨_, rfl⟩
          obtain ⟨l1, l2, l3⟩ := (Put1.step X L y Z (q := u) (i := jN) (j := iN) (by omega) (by have := HN.out; omega) (by have := HN.out; omega)).2
          have hln := Put1.len X L y Z (u + 1)
          obtain ⟨d, hd⟩ : ∃ d, Put1 X L y Z (u + 1) = d := ⟨_, rfl⟩
          obtain ⟨x, hx⟩ : ∃ x, L.getD u 0 = x := ⟨_, rfl⟩
          rw [hd] at HS l1 l2 l3 hln
          rw [hx] at l2
          have hi1 : iN < d.length := by have := HN.out; omega
          have hj1 : jN < d.length := by have := HN.out; omega
          have e1 : ((a : Int) + ((u : Int) + 1)).toNat = iN := by omega
          have p1 : (0 : Int) ≤ (a : Int) + ((u : Int) + 1) := by omega
          have b1 : (a : Int) + ((u : Int) + 1) < (n : Int) := by have := HN.out; omega
          have r2 : IntKind.i64.wrap ((a : Int) + ((u : Int) + 1) - 1) = (a : Int) + (u : Int) := by have := HN.out; rw [IntKind.wrap_i64]; omega
          have e2 : ((a : Int) + (u : Int)).toNat = jN := by omega
          have p2 : (0 : Int) ≤ (a : Int) + (u : Int) := by omega
          have b2 : (a : Int) + (u : Int) < (n : Int) := by have := HN.out; omega
          clear hd hx hiN hjN hln
          have HD0 := Lib.hid HS.out.drew
          have c1 := HD0.out.load (i := iN) hi1
          have c2 := HD0.out.load (i := jN) hj1
          have s1 := HD0.out.st1 (i := iN) hi1 x
          have s2 := HD0.out.st2 (i := iN) (j := jN) hi1 hj1 x y
          have HS4 := HD0.out.swap (i := iN) (j := jN) hi1 hj1
          rw [l1] at c1
          rw [l2] at c2
          rw [l1, l2] at HS4
          rw [l3] at HS4
          have n1 := enD_len DV y
          have n2 := enD_len DV x
          generalize enD DV y = eI at c1 s2 HS4 n1
          generalize enD DV x = eJ at c2 s1 s2 HS4 n2
          clear HD0 l1 l2
          clear HS l3 hi1 hj1
          go_wp2_with fail
          go_big_region_o
          clear c1 c2 s1 s2 n1 n2
          generalize (wr.drew.setCells b (off + iN * 7) eJ).setCells b (off + jN * 7) eI = w3 at HS4 ⊢
          have HS5 := Lib.hid HS4
          clear HS4
          clear e1 e2
          go_wp2_with fail
          go_roundw
          case rel => exact ⟨u, rfl, by omega, by omega, HS5⟩
          case measure => simp [intOf]; omega
        · have hltz : ¬ (s : Int) < (a : Int) + (u : Int) := by omega
          have hltz2 : ¬ (a : Int) + (u : Int) > (s : Int) := by omega
          go_wp2_with fail
          refine bodyPost_ret (v := .tuple #[]) (by simp [results, Try.results70, go_sem]) rfl ?_
          have hu2 : u = s - a := by have := HN.out; omega
          refine ⟨rfl, L.take u ++ y :: L.drop u, ?_, Put1.perm L y u, Put1.srt HO.out.tr SL0.out huL ?_ ?_⟩
          · have := HS.out
            simpa [Put1] using this
          · rcases H1.out with h1 | ⟨h1, h2⟩
            · exact .inl (by omega)
            · exact .inr ⟨by omega, by rw [show u - 1 = s - 1 - a by omega]; exact h2⟩
          · rcases H2.out with h1 | ⟨h1, h2⟩
            · exact .inl (by have := HN.out; omega)
            · exact .inr ⟨by have := HN.out; omega, by rw [hu2]; exact h2⟩
end
end Go.Proofs.Ytmimgpnogjgliaa

