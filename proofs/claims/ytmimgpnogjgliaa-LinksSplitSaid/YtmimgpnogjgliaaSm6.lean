/- slices.symMergeCmpFunc of a row of neighbours. -/

import Derived.Test.YtmimgpnogjgliaaSm5
import Derived.Test.YtmimgpnogjgliaaSm4
namespace Go.Proofs.Ytmimgpnogjgliaa
set_option maxRecDepth 100000
open Go.RowKit
attribute [local go_sem ↓] pre64

section
variable {ok : Int → Prop} {cf : Int → Int → Int} {lt : Int → Int → Prop} {B : Nat} {w0 : World} {DV : Int → Vw} {b off n cap : Nat}
/-- What symMerge does with up to N of a row. -/
def MergeN (ok : Int → Prop) (lt : Int → Int → Prop) (B : Nat) (w0 : World) (DV : Int → Vw) (b off n cap N : Nat) : Prop :=
  ∀ (X L R Z : List Int) (w : World) (a m c : Nat), L.length + R.length ≤ N → 0 < L.length → 0 < R.length → SY DV B w0 b off w (X ++ (L ++ (R ++ Z))) → L.Pairwise lt → R.Pairwise lt → (∀ x ∈ L, ∀ y ∈ R, x < y) → (∀ x ∈ L, ok x) → (∀ y ∈ R, ok y) →
    n = X.length + L.length + R.length + Z.length → a = X.length → m = a + L.length → c = m + R.length →
    Calls Try.prog 70 #[.slice (some ⟨b, off, none⟩) n cap, .int .i64 a, .int .i64 m, .int .i64 c, .func (.func 58) #[] #[]] w fun e w' => e = .returned (.tuple #[]) ∧ ∃ S, SY DV B w0 b off w' (X ++ (S ++ Z)) ∧ S.Perm (L ++ R) ∧ S.Pairwise lt
set_option maxHeartbeats 16000000 in
theorem smergeN_gen (O : SOrd ok cf lt) (HC : CmpY DV B w0 ok cf) (N : Nat) (IH : MergeN ok lt B w0 DV b off n cap N) (X L R Z : List Int) (hL : 1 < L.length) (hR : 1 < R.length) (hNN : L.length + R.length ≤ N + 1) (w : World) (h : SY DV B w0 b off w (X ++ (L ++ (R ++ Z)))) (sL : L.Pairwise lt) (sR : R.Pairwise lt) (hLR : ∀ x ∈ L, ∀ y ∈ R, x < y) (okL : ∀ x ∈ L, ok x) (okR : ∀ y ∈ R, ok y) (hn : n = X.length + L.length + R.length + Z.length) (hbig : n ≤ 100000) (a m c : Nat) (ha : a = X.length) (hm : m = a + L.length) (hc : c = m + R.length) :
    Calls Try.prog 70 #[.slice (some ⟨b, off, none⟩) n cap, .int .i64 a, .int .i64 m, .int .i64 c, .func (.func 58) #[] #[]] w fun e w' => e = .returned (.tuple #[]) ∧ ∃ S, SY DV B w0 b off w' (X ++ (S ++ Z)) ∧ S.Perm (L ++ R) ∧ S.Pairwise lt := by
  have mixed : Try.prog.follows .mixedOrders = true := by kernel_rfl
  have H := Lib.hid h
  have HN := Lib.hid (And.intro hn (And.intro ha (And.intro hm (And.intro hc (And.intro hL (And.intro hR hNN))))))
  have q1 : IntKind.i64.wrap ((m : Int) - (a : Int)) = (L.length : Int) := by rw [IntKind.wrap_i64]; omega
  have q2 : ¬ (L.length : Int) = 1 := by omega
  have q3 : IntKind.i64.wrap ((c : Int) - (m : Int)) = (R.length : Int) := by rw [IntKind.wrap_i64]; omega
  have q4 : ¬ (R.length : Int) = 1 := by omega
  have HO := Lib.hid O
  have HCC := Lib.hid HC
  have HLR := Lib.hid hLR
  have OKR := Lib.hid okR
  have OKL := Lib.hid okL
  have SL0 := Lib.hid sL
  have SR0 := Lib.hid sR
  have HIH := Lib.hid IH
  clear h ha hm hc hn O HC hLR okR okL sL sR IH hL hR hNN
  go_enter Try.func70, Try.ntmps70
  go_upto_region 24 with (fail)
  generalize Value.bool ((L.length : Int) == 1) = u28
  generalize Value.bool ((R.length : Int) == 1) = u80
  clear q2 q4
  obtain ⟨md, hh⟩ : ∃ md, md = (a + c) / 2 := ⟨_, rfl⟩
  have rA : IntKind.i64.wrap ((a : Int) + (c : Int)) = (a : Int) + (c : Int) := by have := HN.out; rw [IntKind.wrap_i64]; omega
  have rB : IntKind.u64.wrap ((a : Int) + (c : Int)) = (a : Int) + (c : Int) := by have := HN.out; exact wrap_u (a + c) (by omega)
  have rC : IntKind.i64.wrap (((a : Int) + (c : Int)) / 2) = (md : Int) := by have := HN.out; rw [IntKind.wrap_i64]; omega
  have hmd : a < md ∧ md < c := by have := HN.out; omega
  have hmd2 : 2 * md ≤ a + c ∧ a + c ≤ 2 * md + 1 := by omega
  have HMD := Lib.hid (And.intro hmd hmd2)
  clear hmd hmd2 hh
  have rn : IntKind.i64.wrap ((md : Int) + (m : Int)) = (md : Int) + (m : Int) := by have := HN.out; have := HMD.out; rw [IntKind.wrap_i64]; omega
  obtain ⟨pN, hpN⟩ : ∃ pN, pN = md + m - 1 := ⟨_, rfl⟩
  have rp : IntKind.i64.wrap ((md : Int) + (m : Int) - 1) = (pN : Int) := by have := HN.out; have := HMD.out; rw [IntKind.wrap_i64]; omega
  have HPN := Lib.hid hpN
  clear hpN
  go_upto_if 140 with (fail)
  go_cut [20, 21] from 138 to 146 (fun s r wc => ∃ lo hi : Nat, s = .int .i64 lo ∧ r = .int .i64 hi ∧ Hid (a ≤ lo ∧ lo ≤ hi ∧ hi ≤ m ∧ hi ≤ md ∧ md + m ≤ lo + c ∧ (lo = a ∨ md + m = lo + c) ∧ (hi = m ∨ hi = md)) ∧ w = wc)
  case first =>
    by_cases hg : md < m
    · have g1 : (m : Int) > (md : Int) := by omega
      have g2 : (md : Int) < (m : Int) := by omega
      obtain ⟨lo, hlo⟩ : ∃ lo, lo = md + m - c := ⟨_, rfl⟩
      have r1 : IntKind.i64.wrap ((md : Int) + (m : Int) - (c : Int)) = (lo : Int) := by have := HN.out; have := HMD.out; rw [IntKind.wrap_i64]; omega
      have HLO := Lib.hid hlo
      clear hlo
      go_wp2_with fail
      go_meet
      case rel => exact ⟨lo, md, rfl, rfl, by have := HN.out; have := HMD.out; have := HLO.out; show _ ∧ _; omega, rfl⟩
    · have g1 : ¬ (m : Int) > (md : Int) := by omega
      have g2 : ¬ (md : Int) < (m : Int) := by omega
      go_wp2_with fail
      go_meet
      case rel => exact ⟨a, m, rfl, rfl, by have := HN.out; have := HMD.out; show _ ∧ _; omega, rfl⟩
  obtain ⟨lo, hi, rfl, rfl, HLH, rfl⟩ := hcut
  go_wp2_with fail
  go_loopw [20, 21] (fun i j wr => ∃ (s t : Nat), i = .int .i64 s ∧ j = .int .i64 t ∧ lo ≤ s ∧ s ≤ t ∧ t ≤ hi ∧ Hid (SY DV B w0 b off wr (X ++ (L ++ (R ++ Z)))) ∧ Hid (s = lo ∨ (lo < s ∧ lt (L.getD (s - 1 - a) 0) (R.getD (md - s) 0))) ∧ Hid (t = hi ∨ (t < hi ∧ lt (R.getD (md - 1 - t) 0) (L.getD (t - a) 0)))) (fun i j _ => (intOf j).toNat - (intOf i).toNat)
  case atStart => exact ⟨lo, hi, rfl, rfl, Nat.le_refl _, HLH.out.2.1, Nat.le_refl _, H.out, .inl rfl, .inl rfl⟩
  case round =>
    obtain ⟨s, t, rfl, rfl, hms, hst, htc, HS, H1, H2⟩ := hrel
    clear H
    by_cases hlt : s < t
    · have hltz : (s : Int) < (t : Int) := by omega
      obtain ⟨hh0, hh⟩ : ∃ hh0, hh0 = (s + t) / 2 := ⟨_, rfl⟩
      have rA : IntKind.i64.wrap ((s : Int) + (t : Int)) = (s : Int) + (t : Int) := by have := HN.out; have := HLH.out; rw [IntKind.wrap_i64]; omega
      have rB : IntKind.u64.wrap ((s : Int) + (t : Int)) = (s : Int) + (t : Int) := by have := HN.out; have := HLH.out; exact wrap_u (s + t) (by omega)
      have rC : IntKind.i64.wrap (((s : Int) + (t : Int)) / 2) = (hh0 : Int) := by have := HN.out; have := HLH.out; rw [IntKind.wrap_i64]; omega
      have r1 : IntKind.i64.wrap ((hh0 : Int) + 1) = (hh0 : Int) + 1 := by have := HN.out; have := HLH.out; rw [IntKind.wrap_i64]; omega
      have h3 : s ≤ hh0 ∧ hh0 < t := by omega
      obtain ⟨iN, hiN⟩ : ∃ iN, iN = pN - hh0 := ⟨_, rfl⟩
      have hpN := HPN.out
      obtain ⟨l_1, l_2, l_3, l_4, l_5, l_6, l_7⟩ := HLH.out
      obtain ⟨n_1, n_2, n_3, n_4, n_5, n_6, n_7⟩ := HN.out
      have HB3 : m ≤ iN ∧ iN < c ∧ iN - m = md - 1 - hh0 ∧ a ≤ hh0 ∧ hh0 < m ∧ hh0 < md ∧ hh0 ≤ pN := by omega
      have r2 : IntKind.i64.wrap ((pN : Int) - (hh0 : Int)) = (iN : Int) := by rw [IntKind.wrap_i64]; omega
      obtain ⟨x, hx⟩ : ∃ x, L.getD (hh0 - a) 0 = x := ⟨_, rfl⟩
      obtain ⟨y, hy⟩ : ∃ y, R.getD (md - 1 - hh0) 0 = y := ⟨_, rfl⟩
      have l2 : (X ++ (L ++ (R ++ Z))).getD hh0 0 = x := by
        rw [gd_in _ _ _ (by omega) (by omega), ← hx, n_2]
      have l1 : (X ++ (L ++ (R ++ Z))).getD iN 0 = y := by
        rw [← List.append_assoc, gd_in _ _ _ (by rw [List.length_append]; omega) (by rw [List.length_append]; omega), ← hy]
        congr 1
        rw [List.length_append]; omega
      have hj1 : hh0 < (X ++ (L ++ (R ++ Z))).length := by simp only [List.length_append]; omega
      have hi1 : iN < (X ++ (L ++ (R ++ Z))).length := by simp only [List.length_append]; omega
      have b1 : (hh0 : Int) < (n : Int) := by omega
      have b2 : (iN : Int) < (n : Int) := by omega
      have hxL : x ∈ L := hx ▸ gd_mem (by omega)
      have hyR : y ∈ R := hy ▸ gd_mem (by omega)
      have i1 := HLR.out x hxL y hyR
      have okx := OKL.out x hxL
      have oky := OKR.out y hyR
      have cX := HS.out.cmp HCC.out oky okx
      obtain ⟨cI, hcI⟩ : ∃ c, enD DV y = c := ⟨_, rfl⟩
      obtain ⟨cJ, hcJ⟩ : ∃ c, enD DV x = c := ⟨_, rfl⟩
      rw [hcI, hcJ] at cX
      have kc : ∀ w', Below wr.heap.size wr w' → Sem.run Try.prog (loadCellsFrom ⟨b, off + iN * 7, none⟩ 0 K64 #[]) w' = .ok cI.toArray w' ∧ Sem.run Try.prog (loadCellsFrom ⟨b, off + hh0 * 7, none⟩ 0 K64 #[]) w' = .ok cJ.toArray w' := fun w' hb => by
        have h1 := (HS.out.low hb).load (i := iN) hi1
        have h2 := (HS.out.low hb).load (i := hh0) hj1
        rw [l1, hcI] at h1
        rw [l2, hcJ] at h2
        exact ⟨h1, h2⟩
      clear hcI hcJ
      have HX := Lib.hid hx
      have HY := Lib.hid hy
      have H3 := Lib.hid (And.intro h3 HB3)
      clear hx hy h3 hh l1 l2 hi1 hj1 HB3 hiN hpN l_1 l_2 l_3 l_4 l_5 l_6 l_7 n_1 n_2 n_3 n_4 n_5 n_6 n_7
      by_cases hv : cf y x < 0
      · have hl := HO.out.yes x y okx oky i1 hv
        have hvd : decide (cf y x < 0) = true := decide_eq_true hv
        go_upto_region 35 with (fail)
        refine wp_region_typed (C := fun w' => Below wr.heap.size wr w') (X := fun w w' => Below w.heap.size w w') (n := 220) (by kernel_rfl) (by kernel_rfl) rfl (fun w => Below.refl _ w) (Below.refl _ _).drew ?_
        refine w_is (fun w => Below.refl _ w) _ (.inl rfl) (fun ρ w hC hc hfn hf => by have e4 : ρ (.tmp 4) = _ := hf 4 (by decide); (conv => lhs; simp [execOp, go_sem, hc, e4])) ?_
        refine w_is (fun w => Below.refl _ w) _ (.inl rfl) (fun ρ w hC hc hfn hf => by have e0 : ρ (.tmp 0) = _ := hf 0 (by decide); (conv => lhs; simp [execOp, go_sem, hc, e0])) ?_
        refine w_is (fun w => Below.refl _ w) _ (.inl rfl) (fun ρ w hC hc hfn hf => by have e22 : ρ (.tmp 22) = _ := hf 22 (by decide); (conv => lhs; simp [execOp, go_sem, hc, e22])) ?_
        refine w_is (fun w => Below.refl _ w) _ (.inl rfl) (fun ρ w hC hc hfn hf => by have e23 : ρ (.tmp 23) = _ := hf 23 (by decide); (conv => lhs; simp [execOp, go_sem, hc, e23])) ?_
        refine w_is (fun w => Below.refl _ w) _ (.inl rfl) (fun ρ w hC hc hfn hf => by have e160 : ρ (.tmp 160) = _ := hf 160 (by decide); have e161 : ρ (.tmp 161) = _ := hf 161 (by decide); (conv => lhs; simp [execOp, go_sem, hc, e160, e161, r2])) ?_
        refine w_is (fun w => Below.refl _ w) _ (.inl rfl) (fun ρ w hC hc hfn hf => by have e159 : ρ (.tmp 159) = _ := hf 159 (by decide); have e162 : ρ (.tmp 162) = _ := hf 162 (by decide); (conv => lhs; simp [execOp, go_sem, hc, e159, e162, b2])) ?_
        refine w_is (fun w => Below.refl _ w) _ (.inl rfl) (fun ρ w hC hc hfn hf => by have e163 : ρ (.tmp 163) = _ := hf 163 (by decide); (conv => lhs; simp [execOp, go_sem, hc, e163, kc w hC])) ?_
        refine w_is (fun w => Below.refl _ w) _ (.inl rfl) (fun ρ w hC hc hfn hf => by have e0 : ρ (.tmp 0) = _ := hf 0 (by decide); (conv => lhs; simp [execOp, go_sem, hc, e0])) ?_
        refine w_is (fun w => Below.refl _ w) _ (.inl rfl) (fun ρ w hC hc hfn hf => by have e23 : ρ (.tmp 23) = _ := hf 23 (by decide); (conv => lhs; simp [execOp, go_sem, hc, e23])) ?_
        refine w_is (fun w => Below.refl _ w) _ (.inl rfl) (fun ρ w hC hc hfn hf => by have e165 : ρ (.tmp 165) = _ := hf 165 (by decide); have e166 : ρ (.tmp 166) = _ := hf 166 (by decide); (conv => lhs; simp [execOp, go_sem, hc, e165, e166, b1])) ?_
        refine w_is (fun w => Below.refl _ w) _ (.inl rfl) (fun ρ w hC hc hfn hf => by have e167 : ρ (.tmp 167) = _ := hf 167 (by decide); (conv => lhs; simp [execOp, go_sem, hc, e167, kc w hC])) ?_
        refine w_call (Is _) (fun _ _ _ h _ => h) 58 (.inl rfl) (fun ρ w hC hc hfn hf => by have e158 : ρ (.tmp 158) = _ := hf 158 (by decide); have e164 : ρ (.tmp 164) = _ := hf 164 (by decide); have e168 : ρ (.tmp 168) = _ := hf 168 (by decide); exact ⟨_, by (conv => lhs; simp [execOp, resolve, invoke, go_sem, hc, hfn, e158, e164, e168]), tc_below hC (cX w hC)⟩) ?_
        refine w_is (fun w => Below.refl _ w) _ (.inl rfl) (fun ρ w hC hc hfn hf => by have e169 : ρ (.tmp 169) = _ := hf 169 (by decide); (conv => lhs; simp [execOp, go_sem, hc, e169, hv])) ?_
        refine w_is (fun w => Below.refl _ w) _ (.inl rfl) (fun ρ w hC hc hfn hf => by have e170 : ρ (.tmp 170) = _ := hf 170 (by decide); (conv => lhs; simp [execOp, go_sem, hc, e170])) ?_
        intro A V hb hn hd hf
        have y0 : A.eval (.tmp 0) = _ := Eq.trans (hf 0) (by conv => lhs; simp [go_sem])
        have y1 : A.eval (.tmp 1) = _ := Eq.trans (hf 1) (by conv => lhs; simp [go_sem])
        have y2 : A.eval (.tmp 2) = _ := Eq.trans (hf 2) (by conv => lhs; simp [go_sem])
        have y3 : A.eval (.tmp 3) = _ := Eq.trans (hf 3) (by conv => lhs; simp [go_sem])
        have y4 : A.eval (.tmp 4) = _ := Eq.trans (hf 4) (by conv => lhs; simp [go_sem])
        have y5 : A.eval (.tmp 5) = _ := Eq.trans (hf 5) (by conv => lhs; simp [go_sem])
        have y6 : A.eval (.tmp 6) = _ := Eq.trans (hf 6) (by conv => lhs; simp [go_sem])
        have y7 : A.eval (.tmp 7) = _ := Eq.trans (hf 7) (by conv => lhs; simp [go_sem])
        have y8 : A.eval (.tmp 8) = _ := Eq.trans (hf 8) (by conv => lhs; simp [go_sem])
        have y9 : A.eval (.tmp 9) = _ := Eq.trans (hf 9) (by conv => lhs; simp [go_sem])
        have y10 : A.eval (.tmp 10) = _ := Eq.trans (hf 10) (by conv => lhs; simp [go_sem])
        have y11 : A.eval (.tmp 11) = _ := Eq.trans (hf 11) (by conv => lhs; simp [go_sem])
        have y12 : A.eval (.tmp 12) = _ := Eq.trans (hf 12) (by conv => lhs; simp [go_sem])
        have y13 : A.eval (.tmp 13) = _ := Eq.trans (hf 13) (by conv => lhs; simp [go_sem])
        have y14 : A.eval (.tmp 14) = _ := Eq.trans (hf 14) (by conv => lhs; simp [go_sem])
        have y15 : A.eval (.tmp 15) = _ := Eq.trans (hf 15) (by conv => lhs; simp [go_sem])
        have y16 : A.eval (.tmp 16) = _ := Eq.trans (hf 16) (by conv => lhs; simp [go_sem])
        have y17 : A.eval (.tmp 17) = _ := Eq.trans (hf 17) (by conv => lhs; simp [go_sem])
        have y18 : A.eval (.tmp 18) = _ := Eq.trans (hf 18) (by conv => lhs; simp [go_sem])
        have y19 : A.eval (.tmp 19) = _ := Eq.trans (hf 19) (by conv => lhs; simp [go_sem])
        have y20 : A.eval (.tmp 20) = _ := Eq.trans (hf 20) (by conv => lhs; simp [go_sem])
        have y21 : A.eval (.tmp 21) = _ := Eq.trans (hf 21) (by conv => lhs; simp [go_sem])
        have y22 : A.eval (.tmp 22) = _ := Eq.trans (hf 22) (by conv => lhs; simp [go_sem])
        have y23 : A.eval (.tmp 23) = _ := Eq.trans (hf 23) (by conv => lhs; simp [go_sem])
        have y24 : A.eval (.tmp 24) = _ := Eq.trans (hf 24) (by conv => lhs; simp [go_sem])
        have y25 : A.eval (.tmp 25) = _ := Eq.trans (hf 25) (by conv => lhs; simp [go_sem])
        have y26 : A.eval (.tmp 26) = _ := Eq.trans (hf 26) (by conv => lhs; simp [go_sem])
        have y27 : A.eval (.tmp 27) = _ := Eq.trans (hf 27) (by conv => lhs; simp [go_sem])
        have y28 : A.eval (.tmp 28) = _ := Eq.trans (hf 28) (by conv => lhs; simp [go_sem])
        have y29 : A.eval (.tmp 29) = _ := Eq.trans (hf 29) (by conv => lhs; simp [go_sem])
        have y30 : A.eval (.tmp 30) = _ := Eq.trans (hf 30) (by conv => lhs; simp [go_sem])
        have y31 : A.eval (.tmp 31) = _ := Eq.trans (hf 31) (by conv => lhs; simp [go_sem])
        have y32 : A.eval (.tmp 32) = _ := Eq.trans (hf 32) (by conv => lhs; simp [go_sem])
        have y33 : A.eval (.tmp 33) = _ := Eq.trans (hf 33) (by conv => lhs; simp [go_sem])
        have y34 : A.eval (.tmp 34) = _ := Eq.trans (hf 34) (by conv => lhs; simp [go_sem])
        have y35 : A.eval (.tmp 35) = _ := Eq.trans (hf 35) (by conv => lhs; simp [go_sem])
        have y36 : A.eval (.tmp 36) = _ := Eq.trans (hf 36) (by conv => lhs; simp [go_sem])
        have y37 : A.eval (.tmp 37) = _ := Eq.trans (hf 37) (by conv => lhs; simp [go_sem])
        have y38 : A.eval (.tmp 38) = _ := Eq.trans (hf 38) (by conv => lhs; simp [go_sem])
        have y39 : A.eval (.tmp 39) = _ := Eq.trans (hf 39) (by conv => lhs; simp [go_sem])
        have y40 : A.eval (.tmp 40) = _ := Eq.trans (hf 40) (by conv => lhs; simp [go_sem])
        have y41 : A.eval (.tmp 41) = _ := Eq.trans (hf 41) (by conv => lhs; simp [go_sem])
        have y42 : A.eval (.tmp 42) = _ := Eq.trans (hf 42) (by conv => lhs; simp [go_sem])
        have y43 : A.eval (.tmp 43) = _ := Eq.trans (hf 43) (by conv => lhs; simp [go_sem])
        have y44 : A.eval (.tmp 44) = _ := Eq.trans (hf 44) (by conv => lhs; simp [go_sem])
        have y45 : A.eval (.tmp 45) = _ := Eq.trans (hf 45) (by conv => lhs; simp [go_sem])
        have y46 : A.eval (.tmp 46) = _ := Eq.trans (hf 46) (by conv => lhs; simp [go_sem])
        have y47 : A.eval (.tmp 47) = _ := Eq.trans (hf 47) (by conv => lhs; simp [go_sem])
        have y48 : A.eval (.tmp 48) = _ := Eq.trans (hf 48) (by conv => lhs; simp [go_sem])
        have y49 : A.eval (.tmp 49) = _ := Eq.trans (hf 49) (by conv => lhs; simp [go_sem])
        have y50 : A.eval (.tmp 50) = _ := Eq.trans (hf 50) (by conv => lhs; simp [go_sem])
        have y51 : A.eval (.tmp 51) = _ := Eq.trans (hf 51) (by conv => lhs; simp [go_sem])
        have y52 : A.eval (.tmp 52) = _ := Eq.trans (hf 52) (by conv => lhs; simp [go_sem])
        have y53 : A.eval (.tmp 53) = _ := Eq.trans (hf 53) (by conv => lhs; simp [go_sem])
        have y54 : A.eval (.tmp 54) = _ := Eq.trans (hf 54) (by conv => lhs; simp [go_sem])
        have y55 : A.eval (.tmp 55) = _ := Eq.trans (hf 55) (by conv => lhs; simp [go_sem])
        have y56 : A.eval (.tmp 56) = _ := Eq.trans (hf 56) (by conv => lhs; simp [go_sem])
        have y57 : A.eval (.tmp 57) = _ := Eq.trans (hf 57) (by conv => lhs; simp [go_sem])
        have y58 : A.eval (.tmp 58) = _ := Eq.trans (hf 58) (by conv => lhs; simp [go_sem])
        have y59 : A.eval (.tmp 59) = _ := Eq.trans (hf 59) (by conv => lhs; simp [go_sem])
        have y60 : A.eval (.tmp 60) = _ := Eq.trans (hf 60) (by conv => lhs; simp [go_sem])
        have y61 : A.eval (.tmp 61) = _ := Eq.trans (hf 61) (by conv => lhs; simp [go_sem])
        have y62 : A.eval (.tmp 62) = _ := Eq.trans (hf 62) (by conv => lhs; simp [go_sem])
        have y63 : A.eval (.tmp 63) = _ := Eq.trans (hf 63) (by conv => lhs; simp [go_sem])
        have y64 : A.eval (.tmp 64) = _ := Eq.trans (hf 64) (by conv => lhs; simp [go_sem])
        have y65 : A.eval (.tmp 65) = _ := Eq.trans (hf 65) (by conv => lhs; simp [go_sem])
        have y66 : A.eval (.tmp 66) = _ := Eq.trans (hf 66) (by conv => lhs; simp [go_sem])
        have y67 : A.eval (.tmp 67) = _ := Eq.trans (hf 67) (by conv => lhs; simp [go_sem])
        have y68 : A.eval (.tmp 68) = _ := Eq.trans (hf 68) (by conv => lhs; simp [go_sem])
        have y69 : A.eval (.tmp 69) = _ := Eq.trans (hf 69) (by conv => lhs; simp [go_sem])
        have y70 : A.eval (.tmp 70) = _ := Eq.trans (hf 70) (by conv => lhs; simp [go_sem])
        have y71 : A.eval (.tmp 71) = _ := Eq.trans (hf 71) (by conv => lhs; simp [go_sem])
        have y72 : A.eval (.tmp 72) = _ := Eq.trans (hf 72) (by conv => lhs; simp [go_sem])
        have y73 : A.eval (.tmp 73) = _ := Eq.trans (hf 73) (by conv => lhs; simp [go_sem])
        have y74 : A.eval (.tmp 74) = _ := Eq.trans (hf 74) (by conv => lhs; simp [go_sem])
        have y75 : A.eval (.tmp 75) = _ := Eq.trans (hf 75) (by conv => lhs; simp [go_sem])
        have y76 : A.eval (.tmp 76) = _ := Eq.trans (hf 76) (by conv => lhs; simp [go_sem])
        have y77 : A.eval (.tmp 77) = _ := Eq.trans (hf 77) (by conv => lhs; simp [go_sem])
        have y78 : A.eval (.tmp 78) = _ := Eq.trans (hf 78) (by conv => lhs; simp [go_sem])
        have y79 : A.eval (.tmp 79) = _ := Eq.trans (hf 79) (by conv => lhs; simp [go_sem])
        have y80 : A.eval (.tmp 80) = _ := Eq.trans (hf 80) (by conv => lhs; simp [go_sem])
        have y81 : A.eval (.tmp 81) = _ := Eq.trans (hf 81) (by conv => lhs; simp [go_sem])
        have y82 : A.eval (.tmp 82) = _ := Eq.trans (hf 82) (by conv => lhs; simp [go_sem])
        have y83 : A.eval (.tmp 83) = _ := Eq.trans (hf 83) (by conv => lhs; simp [go_sem])
        have y84 : A.eval (.tmp 84) = _ := Eq.trans (hf 84) (by conv => lhs; simp [go_sem])
        have y85 : A.eval (.tmp 85) = _ := Eq.trans (hf 85) (by conv => lhs; simp [go_sem])
        have y86 : A.eval (.tmp 86) = _ := Eq.trans (hf 86) (by conv => lhs; simp [go_sem])
        have y87 : A.eval (.tmp 87) = _ := Eq.trans (hf 87) (by conv => lhs; simp [go_sem])
        have y88 : A.eval (.tmp 88) = _ := Eq.trans (hf 88) (by conv => lhs; simp [go_sem])
        have y89 : A.eval (.tmp 89) = _ := Eq.trans (hf 89) (by conv => lhs; simp [go_sem])
        have y90 : A.eval (.tmp 90) = _ := Eq.trans (hf 90) (by conv => lhs; simp [go_sem])
        have y91 : A.eval (.tmp 91) = _ := Eq.trans (hf 91) (by conv => lhs; simp [go_sem])
        have y92 : A.eval (.tmp 92) = _ := Eq.trans (hf 92) (by conv => lhs; simp [go_sem])
        have y93 : A.eval (.tmp 93) = _ := Eq.trans (hf 93) (by conv => lhs; simp [go_sem])
        have y94 : A.eval (.tmp 94) = _ := Eq.trans (hf 94) (by conv => lhs; simp [go_sem])
        have y95 : A.eval (.tmp 95) = _ := Eq.trans (hf 95) (by conv => lhs; simp [go_sem])
        have y96 : A.eval (.tmp 96) = _ := Eq.trans (hf 96) (by conv => lhs; simp [go_sem])
        have y97 : A.eval (.tmp 97) = _ := Eq.trans (hf 97) (by conv => lhs; simp [go_sem])
        have y98 : A.eval (.tmp 98) = _ := Eq.trans (hf 98) (by conv => lhs; simp [go_sem])
        have y99 : A.eval (.tmp 99) = _ := Eq.trans (hf 99) (by conv => lhs; simp [go_sem])
        have y100 : A.eval (.tmp 100) = _ := Eq.trans (hf 100) (by conv => lhs; simp [go_sem])
        have y101 : A.eval (.tmp 101) = _ := Eq.trans (hf 101) (by conv => lhs; simp [go_sem])
        have y102 : A.eval (.tmp 102) = _ := Eq.trans (hf 102) (by conv => lhs; simp [go_sem])
        have y103 : A.eval (.tmp 103) = _ := Eq.trans (hf 103) (by conv => lhs; simp [go_sem])
        have y104 : A.eval (.tmp 104) = _ := Eq.trans (hf 104) (by conv => lhs; simp [go_sem])
        have y105 : A.eval (.tmp 105) = _ := Eq.trans (hf 105) (by conv => lhs; simp [go_sem])
        have y106 : A.eval (.tmp 106) = _ := Eq.trans (hf 106) (by conv => lhs; simp [go_sem])
        have y107 : A.eval (.tmp 107) = _ := Eq.trans (hf 107) (by conv => lhs; simp [go_sem])
        have y108 : A.eval (.tmp 108) = _ := Eq.trans (hf 108) (by conv => lhs; simp [go_sem])
        have y109 : A.eval (.tmp 109) = _ := Eq.trans (hf 109) (by conv => lhs; simp [go_sem])
        have y110 : A.eval (.tmp 110) = _ := Eq.trans (hf 110) (by conv => lhs; simp [go_sem])
        have y111 : A.eval (.tmp 111) = _ := Eq.trans (hf 111) (by conv => lhs; simp [go_sem])
        have y112 : A.eval (.tmp 112) = _ := Eq.trans (hf 112) (by conv => lhs; simp [go_sem])
        have y113 : A.eval (.tmp 113) = _ := Eq.trans (hf 113) (by conv => lhs; simp [go_sem])
        have y114 : A.eval (.tmp 114) = _ := Eq.trans (hf 114) (by conv => lhs; simp [go_sem])
        have y115 : A.eval (.tmp 115) = _ := Eq.trans (hf 115) (by conv => lhs; simp [go_sem])
        have y116 : A.eval (.tmp 116) = _ := Eq.trans (hf 116) (by conv => lhs; simp [go_sem])
        have y117 : A.eval (.tmp 117) = _ := Eq.trans (hf 117) (by conv => lhs; simp [go_sem])
        have y118 : A.eval (.tmp 118) = _ := Eq.trans (hf 118) (by conv => lhs; simp [go_sem])
        have y119 : A.eval (.tmp 119) = _ := Eq.trans (hf 119) (by conv => lhs; simp [go_sem])
        have y120 : A.eval (.tmp 120) = _ := Eq.trans (hf 120) (by conv => lhs; simp [go_sem])
        have y121 : A.eval (.tmp 121) = _ := Eq.trans (hf 121) (by conv => lhs; simp [go_sem])
        have y122 : A.eval (.tmp 122) = _ := Eq.trans (hf 122) (by conv => lhs; simp [go_sem])
        have y123 : A.eval (.tmp 123) = _ := Eq.trans (hf 123) (by conv => lhs; simp [go_sem])
        have y124 : A.eval (.tmp 124) = _ := Eq.trans (hf 124) (by conv => lhs; simp [go_sem])
        have y125 : A.eval (.tmp 125) = _ := Eq.trans (hf 125) (by conv => lhs; simp [go_sem])
        have y126 : A.eval (.tmp 126) = _ := Eq.trans (hf 126) (by conv => lhs; simp [go_sem])
        have y127 : A.eval (.tmp 127) = _ := Eq.trans (hf 127) (by conv => lhs; simp [go_sem])
        have y128 : A.eval (.tmp 128) = _ := Eq.trans (hf 128) (by conv => lhs; simp [go_sem])
        have y129 : A.eval (.tmp 129) = _ := Eq.trans (hf 129) (by conv => lhs; simp [go_sem])
        have y130 : A.eval (.tmp 130) = _ := Eq.trans (hf 130) (by conv => lhs; simp [go_sem])
        have y131 : A.eval (.tmp 131) = _ := Eq.trans (hf 131) (by conv => lhs; simp [go_sem])
        have y132 : A.eval (.tmp 132) = _ := Eq.trans (hf 132) (by conv => lhs; simp [go_sem])
        have y133 : A.eval (.tmp 133) = _ := Eq.trans (hf 133) (by conv => lhs; simp [go_sem])
        have y134 : A.eval (.tmp 134) = _ := Eq.trans (hf 134) (by conv => lhs; simp [go_sem])
        have y135 : A.eval (.tmp 135) = _ := Eq.trans (hf 135) (by conv => lhs; simp [go_sem])
        have y136 : A.eval (.tmp 136) = _ := Eq.trans (hf 136) (by conv => lhs; simp [go_sem])
        have y137 : A.eval (.tmp 137) = _ := Eq.trans (hf 137) (by conv => lhs; simp [go_sem])
        have y138 : A.eval (.tmp 138) = _ := Eq.trans (hf 138) (by conv => lhs; simp [go_sem])
        have y139 : A.eval (.tmp 139) = _ := Eq.trans (hf 139) (by conv => lhs; simp [go_sem])
        have y140 : A.eval (.tmp 140) = _ := Eq.trans (hf 140) (by conv => lhs; simp [go_sem])
        have y141 : A.eval (.tmp 141) = _ := Eq.trans (hf 141) (by conv => lhs; simp [go_sem])
        have y142 : A.eval (.tmp 142) = _ := Eq.trans (hf 142) (by conv => lhs; simp [go_sem])
        have y143 : A.eval (.tmp 143) = _ := Eq.trans (hf 143) (by conv => lhs; simp [go_sem])
        have y144 : A.eval (.tmp 144) = _ := Eq.trans (hf 144) (by conv => lhs; simp [go_sem])
        have y145 : A.eval (.tmp 145) = _ := Eq.trans (hf 145) (by conv => lhs; simp [go_sem])
        have y146 : A.eval (.tmp 146) = _ := Eq.trans (hf 146) (by conv => lhs; simp [go_sem])
        have y147 : A.eval (.tmp 147) = _ := Eq.trans (hf 147) (by conv => lhs; simp [go_sem])
        have y148 : A.eval (.tmp 148) = _ := Eq.trans (hf 148) (by conv => lhs; simp [go_sem])
        have y149 : A.eval (.tmp 149) = _ := Eq.trans (hf 149) (by conv => lhs; simp [go_sem])
        have y150 : A.eval (.tmp 150) = _ := Eq.trans (hf 150) (by conv => lhs; simp [go_sem])
        have y151 : A.eval (.tmp 151) = _ := Eq.trans (hf 151) (by conv => lhs; simp [go_sem])
        have y152 : A.eval (.tmp 152) = _ := Eq.trans (hf 152) (by conv => lhs; simp [go_sem])
        have y153 : A.eval (.tmp 153) = _ := Eq.trans (hf 153) (by conv => lhs; simp [go_sem])
        have y154 : A.eval (.tmp 154) = _ := Eq.trans (hf 154) (by conv => lhs; simp [go_sem])
        have y155 : A.eval (.tmp 155) = _ := Eq.trans (hf 155) (by conv => lhs; simp [go_sem])
        have y156 : A.eval (.tmp 156) = _ := Eq.trans (hf 156) (by conv => lhs; simp [go_sem])
        have y157 : A.eval (.tmp 157) = _ := Eq.trans (hf 157) (by conv => lhs; simp [go_sem])
        have y158 : A.eval (.tmp 158) = _ := hf 158
        have y159 : A.eval (.tmp 159) = _ := hf 159
        have y160 : A.eval (.tmp 160) = _ := hf 160
        have y161 : A.eval (.tmp 161) = _ := hf 161
        have y162 : A.eval (.tmp 162) = _ := hf 162
        have y163 : A.eval (.tmp 163) = _ := hf 163
        have y164 : A.eval (.tmp 164) = _ := hf 164
        have y165 : A.eval (.tmp 165) = _ := hf 165
        have y166 : A.eval (.tmp 166) = _ := hf 166
        have y167 : A.eval (.tmp 167) = _ := hf 167
        have y168 : A.eval (.tmp 168) = _ := hf 168
        have y169 : A.eval (.tmp 169) = _ := hf 169
        have y170 : A.eval (.tmp 170) = _ := hf 170
        have y171 : A.eval (.tmp 171) = _ := hf 171
        have y172 : A.eval (.tmp 172) = _ := Eq.trans (hf 172) (by conv => lhs; simp [go_sem])
        have y173 : A.eval (.tmp 173) = _ := Eq.trans (hf 173) (by conv => lhs; simp [go_sem])
        have y174 : A.eval (.tmp 174) = _ := Eq.trans (hf 174) (by conv => lhs; simp [go_sem])
        have y175 : A.eval (.tmp 175) = _ := Eq.trans (hf 175) (by conv => lhs; simp [go_sem])
        have y176 : A.eval (.tmp 176) = _ := Eq.trans (hf 176) (by conv => lhs; simp [go_sem])
        have y177 : A.eval (.tmp 177) = _ := Eq.trans (hf 177) (by conv => lhs; simp [go_sem])
        have y178 : A.eval (.tmp 178) = _ := Eq.trans (hf 178) (by conv => lhs; simp [go_sem])
        have y179 : A.eval (.tmp 179) = _ := Eq.trans (hf 179) (by conv => lhs; simp [go_sem])
        have y180 : A.eval (.tmp 180) = _ := Eq.trans (hf 180) (by conv => lhs; simp [go_sem])
        have y181 : A.eval (.tmp 181) = _ := Eq.trans (hf 181) (by conv => lhs; simp [go_sem])
        have y182 : A.eval (.tmp 182) = _ := Eq.trans (hf 182) (by conv => lhs; simp [go_sem])
        have y183 : A.eval (.tmp 183) = _ := Eq.trans (hf 183) (by conv => lhs; simp [go_sem])
        have y184 : A.eval (.tmp 184) = _ := Eq.trans (hf 184) (by conv => lhs; simp [go_sem])
        have y185 : A.eval (.tmp 185) = _ := Eq.trans (hf 185) (by conv => lhs; simp [go_sem])
        have y186 : A.eval (.tmp 186) = _ := Eq.trans (hf 186) (by conv => lhs; simp [go_sem])
        have y187 : A.eval (.tmp 187) = _ := Eq.trans (hf 187) (by conv => lhs; simp [go_sem])
        have y188 : A.eval (.tmp 188) = _ := Eq.trans (hf 188) (by conv => lhs; simp [go_sem])
        have y189 : A.eval (.tmp 189) = _ := Eq.trans (hf 189) (by conv => lhs; simp [go_sem])
        have y190 : A.eval (.tmp 190) = _ := Eq.trans (hf 190) (by conv => lhs; simp [go_sem])
        have y191 : A.eval (.tmp 191) = _ := Eq.trans (hf 191) (by conv => lhs; simp [go_sem])
        have y192 : A.eval (.tmp 192) = _ := Eq.trans (hf 192) (by conv => lhs; simp [go_sem])
        have y193 : A.eval (.tmp 193) = _ := Eq.trans (hf 193) (by conv => lhs; simp [go_sem])
        have y194 : A.eval (.tmp 194) = _ := Eq.trans (hf 194) (by conv => lhs; simp [go_sem])
        have y195 : A.eval (.tmp 195) = _ := Eq.trans (hf 195) (by conv => lhs; simp [go_sem])
        have y196 : A.eval (.tmp 196) = _ := Eq.trans (hf 196) (by conv => lhs; simp [go_sem])
        have y197 : A.eval (.tmp 197) = _ := Eq.trans (hf 197) (by conv => lhs; simp [go_sem])
        have y198 : A.eval (.tmp 198) = _ := Eq.trans (hf 198) (by conv => lhs; simp [go_sem])
        have y199 : A.eval (.tmp 199) = _ := Eq.trans (hf 199) (by conv => lhs; simp [go_sem])
        have y200 : A.eval (.tmp 200) = _ := Eq.trans (hf 200) (by conv => lhs; simp [go_sem])
        have y201 : A.eval (.tmp 201) = _ := Eq.trans (hf 201) (by conv => lhs; simp [go_sem])
        have y202 : A.eval (.tmp 202) = _ := Eq.trans (hf 202) (by conv => lhs; simp [go_sem])
        have y203 : A.eval (.tmp 203) = _ := Eq.trans (hf 203) (by conv => lhs; simp [go_sem])
        have y204 : A.eval (.tmp 204) = _ := Eq.trans (hf 204) (by conv => lhs; simp [go_sem])
        have y205 : A.eval (.tmp 205) = _ := Eq.trans (hf 205) (by conv => lhs; simp [go_sem])
        have y206 : A.eval (.tmp 206) = _ := Eq.trans (hf 206) (by conv => lhs; simp [go_sem])
        have y207 : A.eval (.tmp 207) = _ := Eq.trans (hf 207) (by conv => lhs; simp [go_sem])
        have y208 : A.eval (.tmp 208) = _ := Eq.trans (hf 208) (by conv => lhs; simp [go_sem])
        have y209 : A.eval (.tmp 209) = _ := Eq.trans (hf 209) (by conv => lhs; simp [go_sem])
        have y210 : A.eval (.tmp 210) = _ := Eq.trans (hf 210) (by conv => lhs; simp [go_sem])
        have y211 : A.eval (.tmp 211) = _ := Eq.trans (hf 211) (by conv => lhs; simp [go_sem])
        have y212 : A.eval (.tmp 212) = _ := Eq.trans (hf 212) (by conv => lhs; simp [go_sem])
        have y213 : A.eval (.tmp 213) = _ := Eq.trans (hf 213) (by conv => lhs; simp [go_sem])
        have y214 : A.eval (.tmp 214) = _ := Eq.trans (hf 214) (by conv => lhs; simp [go_sem])
        have y215 : A.eval (.tmp 215) = _ := Eq.trans (hf 215) (by conv => lhs; simp [go_sem])
        have y216 : A.eval (.tmp 216) = _ := Eq.trans (hf 216) (by conv => lhs; simp [go_sem])
        have y217 : A.eval (.tmp 217) = _ := Eq.trans (hf 217) (by conv => lhs; simp [go_sem])
        have y218 : A.eval (.tmp 218) = _ := Eq.trans (hf 218) (by conv => lhs; simp [go_sem])
        have y219 : A.eval (.tmp 219) = _ := Eq.trans (hf 219) (by conv => lhs; simp [go_sem])
        clear hf
        have hA := frame_eq hn
        rw [show List.range 220 = [0, 1, 2, 3, 4, 5, 6, 7, 8, 9, 10, 11, 12, 13, 14, 15, 16, 17, 18, 19, 20, 21, 22, 23, 24, 25, 26, 27, 28, 29, 30, 31, 32, 33, 34, 35, 36, 37, 38, 39, 40, 41, 42, 43, 44, 45, 46, 47, 48, 49, 50, 51, 52, 53, 54, 55, 56, 57, 58, 59, 60, 61, 62, 63, 64, 65, 66, 67, 68, 69, 70, 71, 72, 73, 74, 75, 76, 77, 78, 79, 80, 81, 82, 83, 84, 85, 86, 87, 88, 89, 90, 91, 92, 93, 94, 95, 96, 97, 98, 99, 100, 101, 102, 103, 104, 105, 106, 107, 108, 109, 110, 111, 112, 113, 114, 115, 116, 117, 118, 119, 120, 121, 122, 123, 124, 125, 126, 127, 128, 129, 130, 131, 132, 133, 134, 135, 136, 137, 138, 139, 140, 141, 142, 143, 144, 145, 146, 147, 148, 149, 150, 151, 152, 153, 154, 155, 156, 157, 158, 159, 160, 161, 162, 163, 164, 165, 166, 167, 168, 169, 170, 171, 172, 173, 174, 175, 176, 177, 178, 179, 180, 181, 182, 183, 184, 185, 186, 187, 188, 189, 190, 191, 192, 193, 194, 195, 196, 197, 198, 199, 200, 201, 202, 203, 204, 205, 206, 207, 208, 209, 210, 211, 212, 213, 214, 215, 216, 217, 218, 219] from rfl, hd] at hA
        simp only [List.map_cons, List.map_nil, y0, y1, y2, y3, y4, y5, y6, y7, y8, y9, y10, y11, y12, y13, y14, y15, y16, y17, y18, y19, y20, y21, y22, y23, y24, y25, y26, y27, y28, y29, y30, y31, y32, y33, y34, y35, y36, y37, y38, y39, y40, y41, y42, y43, y44, y45, y46, y47, y48, y49, y50, y51, y52, y53, y54, y55, y56, y57, y58, y59, y60, y61, y62, y63, y64, y65, y66, y67, y68, y69, y70, y71, y72, y73, y74, y75, y76, y77, y78, y79, y80, y81, y82, y83, y84, y85, y86, y87, y88, y89, y90, y91, y92, y93, y94, y95, y96, y97, y98, y99, y100, y101, y102, y103, y104, y105, y106, y107, y108, y109, y110, y111, y112, y113, y114, y115, y116, y117, y118, y119, y120, y121, y122, y123, y124, y125, y126, y127, y128, y129, y130, y131, y132, y133, y134, y135, y136, y137, y138, y139, y140, y141, y142, y143, y144, y145, y146, y147, y148, y149, y150, y151, y152, y153, y154, y155, y156, y157, y158, y159, y160, y161, y162, y163, y164, y165, y166, y167, y168, y169, y170, y171, y172, y173, y174, y175, y176, y177, y178, y179, y180, y181, y182, y183, y184, y185, y186, y187, y188, y189, y190, y191, y192, y193, y194, y195, y196, y197, y198, y199, y200, y201, y202, y203, y204, y205, y206, y207, y208, y209, y210, y211, y212, y213, y214, y215, y216, y217, y218, y219] at hA
        clear y0 y1 y2 y3 y4 y5 y6 y7 y8 y9 y10 y11 y12 y13 y14 y15 y16 y17 y18 y19 y20 y21 y22 y23 y24 y25 y26 y27 y28 y29 y30 y31 y32 y33 y34 y35 y36 y37 y38 y39 y40 y41 y42 y43 y44 y45 y46 y47 y48 y49 y50 y51 y52 y53 y54 y55 y56 y57 y58 y59 y60 y61 y62 y63 y64 y65 y66 y67 y68 y69 y70 y71 y72 y73 y74 y75 y76 y77 y78 y79 y80 y81 y82 y83 y84 y85 y86 y87 y88 y89 y90 y91 y92 y93 y94 y95 y96 y97 y98 y99 y100 y101 y102 y103 y104 y105 y106 y107 y108 y109 y110 y111 y112 y113 y114 y115 y116 y117 y118 y119 y120 y121 y122 y123 y124 y125 y126 y127 y128 y129 y130 y131 y132 y133 y134 y135 y136 y137 y138 y139 y140 y141 y142 y143 y144 y145 y146 y147 y148 y149 y150 y151 y152 y153 y154 y155 y156 y157 y158 y159 y160 y161 y162 y163 y164 y165 y166 y167 y168 y169 y170 y171 y172 y173 y174 y175 y176 y177 y178 y179 y180 y181 y182 y183 y184 y185 y186 y187 y188 y189 y190 y191 y192 y193 y194 y195 y196 y197 y198 y199 y200 y201 y202 y203 y204 y205 y206 y207 y208 y209 y210 y211 y212 y213 y214 y215 y216 y217 y218 y219
        clear hn hd
        subst hA
        have HS3 := Lib.hid (HS.out.low hb)
        clear HS hb kc cX
        go_wp2_with fail
        go_roundw
        case rel => exact ⟨s, hh0, rfl, rfl, hms, by have := H3.out; omega, by have := H3.out; omega, HS3, H1, .inr ⟨by have := H3.out; omega, by rw [HX.out, HY.out]; exact hl⟩⟩
        case measure => have := H3.out; simp [intOf]; omega
      · have hl := HO.out.no x y okx oky i1 hv
        have hvd : decide (cf y x < 0) = false := decide_eq_false hv
        go_upto_region 35 with (fail)
        refine wp_region_typed (C := fun w' => Below wr.heap.size wr w') (X := fun w w' => Below w.heap.size w w') (n := 220) (by kernel_rfl) (by kernel_rfl) rfl (fun w => Below.refl _ w) (Below.refl _ _).drew ?_
        refine w_is (fun w => Below.refl _ w) _ (.inl rfl) (fun ρ w hC hc hfn hf => by have e4 : ρ (.tmp 4) = _ := hf 4 (by decide); (conv => lhs; simp [execOp, go_sem, hc, e4])) ?_
        refine w_is (fun w => Below.refl _ w) _ (.inl rfl) (fun ρ w hC hc hfn hf => by have e0 : ρ (.tmp 0) = _ := hf 0 (by decide); (conv => lhs; simp [execOp, go_sem, hc, e0])) ?_
        refine w_is (fun w => Below.refl _ w) _ (.inl rfl) (fun ρ w hC hc hfn hf => by have e22 : ρ (.tmp 22) = _ := hf 22 (by decide); (conv => lhs; simp [execOp, go_sem, hc, e22])) ?_
        refine w_is (fun w => Below.refl _ w) _ (.inl rfl) (fun ρ w hC hc hfn hf => by have e23 : ρ (.tmp 23) = _ := hf 23 (by decide); (conv => lhs; simp [execOp, go_sem, hc, e23])) ?_
        refine w_is (fun w => Below.refl _ w) _ (.inl rfl) (fun ρ w hC hc hfn hf => by have e160 : ρ (.tmp 160) = _ := hf 160 (by decide); have e161 : ρ (.tmp 161) = _ := hf 161 (by decide); (conv => lhs; simp [execOp, go_sem, hc, e160, e161, r2])) ?_
        refine w_is (fun w => Below.refl _ w) _ (.inl rfl) (fun ρ w hC hc hfn hf => by have e159 : ρ (.tmp 159) = _ := hf 159 (by decide); have e162 : ρ (.tmp 162) = _ := hf 162 (by decide); (conv => lhs; simp [execOp, go_sem, hc, e159, e162, b2])) ?_
        refine w_is (fun w => Below.refl _ w) _ (.inl rfl) (fun ρ w hC hc hfn hf => by have e163 : ρ (.tmp 163) = _ := hf 163 (by decide); (conv => lhs; simp [execOp, go_sem, hc, e163, kc w hC])) ?_
        refine w_is (fun w => Below.refl _ w) _ (.inl rfl) (fun ρ w hC hc hfn hf => by have e0 : ρ (.tmp 0) = _ := hf 0 (by decide); (conv => lhs; simp [execOp, go_sem, hc, e0])) ?_
        refine w_is (fun w => Below.refl _ w) _ (.inl rfl) (fun ρ w hC hc hfn hf => by have e23 : ρ (.tmp 23) = _ := hf 23 (by decide); (conv => lhs; simp [execOp, go_sem, hc, e23])) ?_
        refine w_is (fun w => Below.refl _ w) _ (.inl rfl) (fun ρ w hC hc hfn hf => by have e165 : ρ (.tmp 165) = _ := hf 165 (by decide); have e166 : ρ (.tmp 166) = _ := hf 166 (by decide); (conv => lhs; simp [execOp, go_sem, hc, e165, e166, b1])) ?_
        refine w_is (fun w => Below.refl _ w) _ (.inl rfl) (fun ρ w hC hc hfn hf => by have e167 : ρ (.tmp 167) = _ := hf 167 (by decide); (conv => lhs; simp [execOp, go_sem, hc, e167, kc w hC])) ?_
        refine w_call (Is _) (fun _ _ _ h _ => h) 58 (.inl rfl) (fun ρ w hC hc hfn hf => by have e158 : ρ (.tmp 158) = _ := hf 158 (by decide); have e164 : ρ (.tmp 164) = _ := hf 164 (by decide); have e168 : ρ (.tmp 168) = _ := hf 168 (by decide); exact ⟨_, by (conv => lhs; simp [execOp, resolve, invoke, go_sem, hc, hfn, e158, e164, e168]), tc_below hC (cX w hC)⟩) ?_
        refine w_is (fun w => Below.refl _ w) _ (.inl rfl) (fun ρ w hC hc hfn hf => by have e169 : ρ (.tmp 169) = _ := hf 169 (by decide); (conv => lhs; simp [execOp, go_sem, hc, e169, hv])) ?_
        refine w_is (fun w => Below.refl _ w) _ (.inl rfl) (fun ρ w hC hc hfn hf => by have e170 : ρ (.tmp 170) = _ := hf 170 (by decide); (conv => lhs; simp [execOp, go_sem, hc, e170])) ?_
        intro A V hb hn hd hf
        have y0 : A.eval (.tmp 0) = _ := Eq.trans (hf 0) (by conv => lhs; simp [go_sem])
        have y1 : A.eval (.tmp 1) = _ := Eq.trans (hf 1) (by conv => lhs; simp [go_sem])
        have y2 : A.eval (.tmp 2) = _ := Eq.trans (hf 2) (by conv => lhs; simp [go_sem])
        have y3 : A.eval (.tmp 3) = _ := Eq.trans (hf 3) (by conv => lhs; simp [go_sem])
        have y4 : A.eval (.tmp 4) = _ := Eq.trans (hf 4) (by conv => lhs; simp [go_sem])
        have y5 : A.eval (.tmp 5) = _ := Eq.trans (hf 5) (by conv => lhs; simp [go_sem])
        have y6 : A.eval (.tmp 6) = _ := Eq.trans (hf 6) (by conv => lhs; simp [go_sem])
        have y7 : A.eval (.tmp 7) = _ := Eq.trans (hf 7) (by conv => lhs; simp [go_sem])
        have y8 : A.eval (.tmp 8) = _ := Eq.trans (hf 8) (by conv => lhs; simp [go_sem])
        have y9 : A.eval (.tmp 9) = _ := Eq.trans (hf 9) (by conv => lhs; simp [go_sem])
        have y10 : A.eval (.tmp 10) = _ := Eq.trans (hf 10) (by conv => lhs; simp [go_sem])
        have y11 : A.eval (.tmp 11) = _ := Eq.trans (hf 11) (by conv => lhs; simp [go_sem])
        have y12 : A.eval (.tmp 12) = _ := Eq.trans (hf 12) (by conv => lhs; simp [go_sem])
        have y13 : A.eval (.tmp 13) = _ := Eq.trans (hf 13) (by conv => lhs; simp [go_sem])
        have y14 : A.eval (.tmp 14) = _ := Eq.trans (hf 14) (by conv => lhs; simp [go_sem])
        have y15 : A.eval (.tmp 15) = _ := Eq.trans (hf 15) (by conv => lhs; simp [go_sem])
        have y16 : A.eval (.tmp 16) = _ := Eq.trans (hf 16) (by conv => lhs; simp [go_sem])
        have y17 : A.eval (.tmp 17) = _ := Eq.trans (hf 17) (by conv => lhs; simp [go_sem])
        have y18 : A.eval (.tmp 18) = _ := Eq.trans (hf 18) (by conv => lhs; simp [go_sem])
        have y19 : A.eval (.tmp 19) = _ := Eq.trans (hf 19) (by conv => lhs; simp [go_sem])
        have y20 : A.eval (.tmp 20) = _ := Eq.trans (hf 20) (by conv => lhs; simp [go_sem])
        have y21 : A.eval (.tmp 21) = _ := Eq.trans (hf 21) (by conv => lhs; simp [go_sem])
        have y22 : A.eval (.tmp 22) = _ := Eq.trans (hf 22) (by conv => lhs; simp [go_sem])
        have y23 : A.eval (.tmp 23) = _ := Eq.trans (hf 23) (by conv => lhs; simp [go_sem])
        have y24 : A.eval (.tmp 24) = _ := Eq.trans (hf 24) (by conv => lhs; simp [go_sem])
        have y25 : A.eval (.tmp 25) = _ := Eq.trans (hf 25) (by conv => lhs; simp [go_sem])
        have y26 : A.eval (.tmp 26) = _ := Eq.trans (hf 26) (by conv => lhs; simp [go_sem])
        have y27 : A.eval (.tmp 27) = _ := Eq.trans (hf 27) (by conv => lhs; simp [go_sem])
        have y28 : A.eval (.tmp 28) = _ := Eq.trans (hf 28) (by conv => lhs; simp [go_sem])
        have y29 : A.eval (.tmp 29) = _ := Eq.trans (hf 29) (by conv => lhs; simp [go_sem])
        have y30 : A.eval (.tmp 30) = _ := Eq.trans (hf 30) (by conv => lhs; simp [go_sem])
        have y31 : A.eval (.tmp 31) = _ := Eq.trans (hf 31) (by conv => lhs; simp [go_sem])
        have y32 : A.eval (.tmp 32) = _ := Eq.trans (hf 32) (by conv => lhs; simp [go_sem])
        have y33 : A.eval (.tmp 33) = _ := Eq.trans (hf 33) (by conv => lhs; simp [go_sem])
        have y34 : A.eval (.tmp 34) = _ := Eq.trans (hf 34) (by conv => lhs; simp [go_sem])
        have y35 : A.eval (.tmp 35) = _ := Eq.trans (hf 35) (by conv => lhs; simp [go_sem])
        have y36 : A.eval (.tmp 36) = _ := Eq.trans (hf 36) (by conv => lhs; simp [go_sem])
        have y37 : A.eval (.tmp 37) = _ := Eq.trans (hf 37) (by conv => lhs; simp [go_sem])
        have y38 : A.eval (.tmp 38) = _ := Eq.trans (hf 38) (by conv => lhs; simp [go_sem])
        have y39 : A.eval (.tmp 39) = _ := Eq.trans (hf 39) (by conv => lhs; simp [go_sem])
        have y40 : A.eval (.tmp 40) = _ := Eq.trans (hf 40) (by conv => lhs; simp [go_sem])
        have y41 : A.eval (.tmp 41) = _ := Eq.trans (hf 41) (by conv => lhs; simp [go_sem])
        have y42 : A.eval (.tmp 42) = _ := Eq.trans (hf 42) (by conv => lhs; simp [go_sem])
        have y43 : A.eval (.tmp 43) = _ := Eq.trans (hf 43) (by conv => lhs; simp [go_sem])
        have y44 : A.eval (.tmp 44) = _ := Eq.trans (hf 44) (by conv => lhs; simp [go_sem])
        have y45 : A.eval (.tmp 45) = _ := Eq.trans (hf 45) (by conv => lhs; simp [go_sem])
        have y46 : A.eval (.tmp 46) = _ := Eq.trans (hf 46) (by conv => lhs; simp [go_sem])
        have y47 : A.eval (.tmp 47) = _ := Eq.trans (hf 47) (by conv => lhs; simp [go_sem])
        have y48 : A.eval (.tmp 48) = _ := Eq.trans (hf 48) (by conv => lhs; simp [go_sem])
        have y49 : A.eval (.tmp 49) = _ := Eq.trans (hf 49) (by conv => lhs; simp [go_sem])
        have y50 : A.eval (.tmp 50) = _ := Eq.trans (hf 50) (by conv => lhs; simp [go_sem])
        have y51 : A.eval (.tmp 51) = _ := Eq.trans (hf 51) (by conv => lhs; simp [go_sem])
        have y52 : A.eval (.tmp 52) = _ := Eq.trans (hf 52) (by conv => lhs; simp [go_sem])
        have y53 : A.eval (.tmp 53) = _ := Eq.trans (hf 53) (by conv => lhs; simp [go_sem])
        have y54 : A.eval (.tmp 54) = _ := Eq.trans (hf 54) (by conv => lhs; simp [go_sem])
        have y55 : A.eval (.tmp 55) = _ := Eq.trans (hf 55) (by conv => lhs; simp [go_sem])
        have y56 : A.eval (.tmp 56) = _ := Eq.trans (hf 56) (by conv => lhs; simp [go_sem])
        have y57 : A.eval (.tmp 57) = _ := Eq.trans (hf 57) (by conv => lhs; simp [go_sem])
        have y58 : A.eval (.tmp 58) = _ := Eq.trans (hf 58) (by conv => lhs; simp [go_sem])
        have y59 : A.eval (.tmp 59) = _ := Eq.trans (hf 59) (by conv => lhs; simp [go_sem])
        have y60 : A.eval (.tmp 60) = _ := Eq.trans (hf 60) (by conv => lhs; simp [go_sem])
        have y61 : A.eval (.tmp 61) = _ := Eq.trans (hf 61) (by conv => lhs; simp [go_sem])
        have y62 : A.eval (.tmp 62) = _ := Eq.trans (hf 62) (by conv => lhs; simp [go_sem])
        have y63 : A.eval (.tmp 63) = _ := Eq.trans (hf 63) (by conv => lhs; simp [go_sem])
        have y64 : A.eval (.tmp 64) = _ := Eq.trans (hf 64) (by conv => lhs; simp [go_sem])
        have y65 : A.eval (.tmp 65) = _ := Eq.trans (hf 65) (by conv => lhs; simp [go_sem])
        have y66 : A.eval (.tmp 66) = _ := Eq.trans (hf 66) (by conv => lhs; simp [go_sem])
        have y67 : A.eval (.tmp 67) = _ := Eq.trans (hf 67) (by conv => lhs; simp [go_sem])
        have y68 : A.eval (.tmp 68) = _ := Eq.trans (hf 68) (by conv => lhs; simp [go_sem])
        have y69 : A.eval (.tmp 69) = _ := Eq.trans (hf 69) (by conv => lhs; simp [go_sem])
        have y70 : A.eval (.tmp 70) = _ := Eq.trans (hf 70) (by conv => lhs; simp [go_sem])
        have y71 : A.eval (.tmp 71) = _ := Eq.trans (hf 71) (by conv => lhs; simp [go_sem])
        have y72 : A.eval (.tmp 72) = _ := Eq.trans (hf 72) (by conv => lhs; simp [go_sem])
        have y73 : A.eval (.tmp 73) = _ := Eq.trans (hf 73) (by conv => lhs; simp [go_sem])
        have y74 : A.eval (.tmp 74) = _ := Eq.trans (hf 74) (by conv => lhs; simp [go_sem])
        have y75 : A.eval (.tmp 75) = _ := Eq.trans (hf 75) (by conv => lhs; simp [go_sem])
        have y76 : A.eval (.tmp 76) = _ := Eq.trans (hf 76) (by conv => lhs; simp [go_sem])
        have y77 : A.eval (.tmp 77) = _ := Eq.trans (hf 77) (by conv => lhs; simp [go_sem])
        have y78 : A.eval (.tmp 78) = _ := Eq.trans (hf 78) (by conv => lhs; simp [go_sem])
        have y79 : A.eval (.tmp 79) = _ := Eq.trans (hf 79) (by conv => lhs; simp [go_sem])
        have y80 : A.eval (.tmp 80) = _ := Eq.trans (hf 80) (by conv => lhs; simp [go_sem])
        have y81 : A.eval (.tmp 81) = _ := Eq.trans (hf 81) (by conv => lhs; simp [go_sem])
        have y82 : A.eval (.tmp 82) = _ := Eq.trans (hf 82) (by conv => lhs; simp [go_sem])
        have y83 : A.eval (.tmp 83) = _ := Eq.trans (hf 83) (by conv => lhs; simp [go_sem])
        have y84 : A.eval (.tmp 84) = _ := Eq.trans (hf 84) (by conv => lhs; simp [go_sem])
        have y85 : A.eval (.tmp 85) = _ := Eq.trans (hf 85) (by conv => lhs; simp [go_sem])
        have y86 : A.eval (.tmp 86) = _ := Eq.trans (hf 86) (by conv => lhs; simp [go_sem])
        have y87 : A.eval (.tmp 87) = _ := Eq.trans (hf 87) (by conv => lhs; simp [go_sem])
        have y88 : A.eval (.tmp 88) = _ := Eq.trans (hf 88) (by conv => lhs; simp [go_sem])
        have y89 : A.eval (.tmp 89) = _ := Eq.trans (hf 89) (by conv => lhs; simp [go_sem])
        have y90 : A.eval (.tmp 90) = _ := Eq.trans (hf 90) (by conv => lhs; simp [go_sem])
        have y91 : A.eval (.tmp 91) = _ := Eq.trans (hf 91) (by conv => lhs; simp [go_sem])
        have y92 : A.eval (.tmp 92) = _ := Eq.trans (hf 92) (by conv => lhs; simp [go_sem])
        have y93 : A.eval (.tmp 93) = _ := Eq.trans (hf 93) (by conv => lhs; simp [go_sem])
        have y94 : A.eval (.tmp 94) = _ := Eq.trans (hf 94) (by conv => lhs; simp [go_sem])
        have y95 : A.eval (.tmp 95) = _ := Eq.trans (hf 95) (by conv => lhs; simp [go_sem])
        have y96 : A.eval (.tmp 96) = _ := Eq.trans (hf 96) (by conv => lhs; simp [go_sem])
        have y97 : A.eval (.tmp 97) = _ := Eq.trans (hf 97) (by conv => lhs; simp [go_sem])
        have y98 : A.eval (.tmp 98) = _ := Eq.trans (hf 98) (by conv => lhs; simp [go_sem])
        have y99 : A.eval (.tmp 99) = _ := Eq.trans (hf 99) (by conv => lhs; simp [go_sem])
        have y100 : A.eval (.tmp 100) = _ := Eq.trans (hf 100) (by conv => lhs; simp [go_sem])
        have y101 : A.eval (.tmp 101) = _ := Eq.trans (hf 101) (by conv => lhs; simp [go_sem])
        have y102 : A.eval (.tmp 102) = _ := Eq.trans (hf 102) (by conv => lhs; simp [go_sem])
        have y103 : A.eval (.tmp 103) = _ := Eq.trans (hf 103) (by conv => lhs; simp [go_sem])
        have y104 : A.eval (.tmp 104) = _ := Eq.trans (hf 104) (by conv => lhs; simp [go_sem])
        have y105 : A.eval (.tmp 105) = _ := Eq.trans (hf 105) (by conv => lhs; simp [go_sem])
        have y106 : A.eval (.tmp 106) = _ := Eq.trans (hf 106) (by conv => lhs; simp [go_sem])
        have y107 : A.eval (.tmp 107) = _ := Eq.trans (hf 107) (by conv => lhs; simp [go_sem])
        have y108 : A.eval (.tmp 108) = _ := Eq.trans (hf 108) (by conv => lhs; simp [go_sem])
        have y109 : A.eval (.tmp 109) = _ := Eq.trans (hf 109) (by conv => lhs; simp [go_sem])
        have y110 : A.eval (.tmp 110) = _ := Eq.trans (hf 110) (by conv => lhs; simp [go_sem])
        have y111 : A.eval (.tmp 111) = _ := Eq.trans (hf 111) (by conv => lhs; simp [go_sem])
        have y112 : A.eval (.tmp 112) = _ := Eq.trans (hf 112) (by conv => lhs; simp [go_sem])
        have y113 : A.eval (.tmp 113) = _ := Eq.trans (hf 113) (by conv => lhs; simp [go_sem])
        have y114 : A.eval (.tmp 114) = _ := Eq.trans (hf 114) (by conv => lhs; simp [go_sem])
        have y115 : A.eval (.tmp 115) = _ := Eq.trans (hf 115) (by conv => lhs; simp [go_sem])
        have y116 : A.eval (.tmp 116) = _ := Eq.trans (hf 116) (by conv => lhs; simp [go_sem])
        have y117 : A.eval (.tmp 117) = _ := Eq.trans (hf 117) (by conv => lhs; simp [go_sem])
        have y118 : A.eval (.tmp 118) = _ := Eq.trans (hf 118) (by conv => lhs; simp [go_sem])
        have y119 : A.eval (.tmp 119) = _ := Eq.trans (hf 119) (by conv => lhs; simp [go_sem])
        have y120 : A.eval (.tmp 120) = _ := Eq.trans (hf 120) (by conv => lhs; simp [go_sem])
        have y121 : A.eval (.tmp 121) = _ := Eq.trans (hf 121) (by conv => lhs; simp [go_sem])
        have y122 : A.eval (.tmp 122) = _ := Eq.trans (hf 122) (by conv => lhs; simp [go_sem])
        have y123 : A.eval (.tmp 123) = _ := Eq.trans (hf 123) (by conv => lhs; simp [go_sem])
        have y124 : A.eval (.tmp 124) = _ := Eq.trans (hf 124) (by conv => lhs; simp [go_sem])
        have y125 : A.eval (.tmp 125) = _ := Eq.trans (hf 125) (by conv => lhs; simp [go_sem])
        have y126 : A.eval (.tmp 126) = _ := Eq.trans (hf 126) (by conv => lhs; simp [go_sem])
        have y127 : A.eval (.tmp 127) = _ := Eq.trans (hf 127) (by conv => lhs; simp [go_sem])
        have y128 : A.eval (.tmp 128) = _ := Eq.trans (hf 128) (by conv => lhs; simp [go_sem])
        have y129 : A.eval (.tmp 129) = _ := Eq.trans (hf 129) (by conv => lhs; simp [go_sem])
        have y130 : A.eval (.tmp 130) = _ := Eq.trans (hf 130) (by conv => lhs; simp [go_sem])
        have y131 : A.eval (.tmp 131) = _ := Eq.trans (hf 131) (by conv => lhs; simp [go_sem])
        have y132 : A.eval (.tmp 132) = _ := Eq.trans (hf 132) (by conv => lhs; simp [go_sem])
        have y133 : A.eval (.tmp 133) = _ := Eq.trans (hf 133) (by conv => lhs; simp [go_sem])
        have y134 : A.eval (.tmp 134) = _ := Eq.trans (hf 134) (by conv => lhs; simp [go_sem])
        have y135 : A.eval (.tmp 135) = _ := Eq.trans (hf 135) (by conv => lhs; simp [go_sem])
        have y136 : A.eval (.tmp 136) = _ := Eq.trans (hf 136) (by conv => lhs; simp [go_sem])
        have y137 : A.eval (.tmp 137) = _ := Eq.trans (hf 137) (by conv => lhs; simp [go_sem])
        have y138 : A.eval (.tmp 138) = _ := Eq.trans (hf 138) (by conv => lhs; simp [go_sem])
        have y139 : A.eval (.tmp 139) = _ := Eq.trans (hf 139) (by conv => lhs; simp [go_sem])
        have y140 : A.eval (.tmp 140) = _ := Eq.trans (hf 140) (by conv => lhs; simp [go_sem])
        have y141 : A.eval (.tmp 141) = _ := Eq.trans (hf 141) (by conv => lhs; simp [go_sem])
        have y142 : A.eval (.tmp 142) = _ := Eq.trans (hf 142) (by conv => lhs; simp [go_sem])
        have y143 : A.eval (.tmp 143) = _ := Eq.trans (hf 143) (by conv => lhs; simp [go_sem])
        have y144 : A.eval (.tmp 144) = _ := Eq.trans (hf 144) (by conv => lhs; simp [go_sem])
        have y145 : A.eval (.tmp 145) = _ := Eq.trans (hf 145) (by conv => lhs; simp [go_sem])
        have y146 : A.eval (.tmp 146) = _ := Eq.trans (hf 146) (by conv => lhs; simp [go_sem])
        have y147 : A.eval (.tmp 147) = _ := Eq.trans (hf 147) (by conv => lhs; simp [go_sem])
        have y148 : A.eval (.tmp 148) = _ := Eq.trans (hf 148) (by conv => lhs; simp [go_sem])
        have y149 : A.eval (.tmp 149) = _ := Eq.trans (hf 149) (by conv => lhs; simp [go_sem])
        have y150 : A.eval (.tmp 150) = _ := Eq.trans (hf 150) (by conv => lhs; simp [go_sem])
        have y151 : A.eval (.tmp 151) = _ := Eq.trans (hf 151) (by conv => lhs; simp [go_sem])
        have y152 : A.eval (.tmp 152) = _ := Eq.trans (hf 152) (by conv => lhs; simp [go_sem])
        have y153 : A.eval (.tmp 153) = _ := Eq.trans (hf 153) (by conv => lhs; simp [go_sem])
        have y154 : A.eval (.tmp 154) = _ := Eq.trans (hf 154) (by conv => lhs; simp [go_sem])
        have y155 : A.eval (.tmp 155) = _ := Eq.trans (hf 155) (by conv => lhs; simp [go_sem])
        have y156 : A.eval (.tmp 156) = _ := Eq.trans (hf 156) (by conv => lhs; simp [go_sem])
        have y157 : A.eval (.tmp 157) = _ := Eq.trans (hf 157) (by conv => lhs; simp [go_sem])
        have y158 : A.eval (.tmp 158) = _ := hf 158
        have y159 : A.eval (.tmp 159) = _ := hf 159
        have y160 : A.eval (.tmp 160) = _ := hf 160
        have y161 : A.eval (.tmp 161) = _ := hf 161
        have y162 : A.eval (.tmp 162) = _ := hf 162
        have y163 : A.eval (.tmp 163) = _ := hf 163
        have y164 : A.eval (.tmp 164) = _ := hf 164
        have y165 : A.eval (.tmp 165) = _ := hf 165
        have y166 : A.eval (.tmp 166) = _ := hf 166
        have y167 : A.eval (.tmp 167) = _ := hf 167
        have y168 : A.eval (.tmp 168) = _ := hf 168
        have y169 : A.eval (.tmp 169) = _ := hf 169
        have y170 : A.eval (.tmp 170) = _ := hf 170
        have y171 : A.eval (.tmp 171) = _ := hf 171
        have y172 : A.eval (.tmp 172) = _ := Eq.trans (hf 172) (by conv => lhs; simp [go_sem])
        have y173 : A.eval (.tmp 173) = _ := Eq.trans (hf 173) (by conv => lhs; simp [go_sem])
        have y174 : A.eval (.tmp 174) = _ := Eq.trans (hf 174) (by conv => lhs; simp [go_sem])
        have y175 : A.eval (.tmp 175) = _ := Eq.trans (hf 175) (by conv => lhs; simp [go_sem])
        have y176 : A.eval (.tmp 176) = _ := Eq.trans (hf 176) (by conv => lhs; simp [go_sem])
        have y177 : A.eval (.tmp 177) = _ := Eq.trans (hf 177) (by conv => lhs; simp [go_sem])
        have y178 : A.eval (.tmp 178) = _ := Eq.trans (hf 178) (by conv => lhs; simp [go_sem])
        have y179 : A.eval (.tmp 179) = _ := Eq.trans (hf 179) (by conv => lhs; simp [go_sem])
        have y180 : A.eval (.tmp 180) = _ := Eq.trans (hf 180) (by conv => lhs; simp [go_sem])
        have y181 : A.eval (.tmp 181) = _ := Eq.trans (hf 181) (by conv => lhs; simp [go_sem])
        have y182 : A.eval (.tmp 182) = _ := Eq.trans (hf 182) (by conv => lhs; simp [go_sem])
        have y183 : A.eval (.tmp 183) = _ := Eq.trans (hf 183) (by conv => lhs; simp [go_sem])
        have y184 : A.eval (.tmp 184) = _ := Eq.trans (hf 184) (by conv => lhs; simp [go_sem])
        have y185 : A.eval (.tmp 185) = _ := Eq.trans (hf 185) (by conv => lhs; simp [go_sem])
        have y186 : A.eval (.tmp 186) = _ := Eq.trans (hf 186) (by conv => lhs; simp [go_sem])
        have y187 : A.eval (.tmp 187) = _ := Eq.trans (hf 187) (by conv => lhs; simp [go_sem])
        have y188 : A.eval (.tmp 188) = _ := Eq.trans (hf 188) (by conv => lhs; simp [go_sem])
        have y189 : A.eval (.tmp 189) = _ := Eq.trans (hf 189) (by conv => lhs; simp [go_sem])
        have y190 : A.eval (.tmp 190) = _ := Eq.trans (hf 190) (by conv => lhs; simp [go_sem])
        have y191 : A.eval (.tmp 191) = _ := Eq.trans (hf 191) (by conv => lhs; simp [go_sem])
        have y192 : A.eval (.tmp 192) = _ := Eq.trans (hf 192) (by conv => lhs; simp [go_sem])
        have y193 : A.eval (.tmp 193) = _ := Eq.trans (hf 193) (by conv => lhs; simp [go_sem])
        have y194 : A.eval (.tmp 194) = _ := Eq.trans (hf 194) (by conv => lhs; simp [go_sem])
        have y195 : A.eval (.tmp 195) = _ := Eq.trans (hf 195) (by conv => lhs; simp [go_sem])
        have y196 : A.eval (.tmp 196) = _ := Eq.trans (hf 196) (by conv => lhs; simp [go_sem])
        have y197 : A.eval (.tmp 197) = _ := Eq.trans (hf 197) (by conv => lhs; simp [go_sem])
        have y198 : A.eval (.tmp 198) = _ := Eq.trans (hf 198) (by conv => lhs; simp [go_sem])
        have y199 : A.eval (.tmp 199) = _ := Eq.trans (hf 199) (by conv => lhs; simp [go_sem])
        have y200 : A.eval (.tmp 200) = _ := Eq.trans (hf 200) (by conv => lhs; simp [go_sem])
        have y201 : A.eval (.tmp 201) = _ := Eq.trans (hf 201) (by conv => lhs; simp [go_sem])
        have y202 : A.eval (.tmp 202) = _ := Eq.trans (hf 202) (by conv => lhs; simp [go_sem])
        have y203 : A.eval (.tmp 203) = _ := Eq.trans (hf 203) (by conv => lhs; simp [go_sem])
        have y204 : A.eval (.tmp 204) = _ := Eq.trans (hf 204) (by conv => lhs; simp [go_sem])
        have y205 : A.eval (.tmp 205) = _ := Eq.trans (hf 205) (by conv => lhs; simp [go_sem])
        have y206 : A.eval (.tmp 206) = _ := Eq.trans (hf 206) (by conv => lhs; simp [go_sem])
        have y207 : A.eval (.tmp 207) = _ := Eq.trans (hf 207) (by conv => lhs; simp [go_sem])
        have y208 : A.eval (.tmp 208) = _ := Eq.trans (hf 208) (by conv => lhs; simp [go_sem])
        have y209 : A.eval (.tmp 209) = _ := Eq.trans (hf 209) (by conv => lhs; simp [go_sem])
        have y210 : A.eval (.tmp 210) = _ := Eq.trans (hf 210) (by conv => lhs; simp [go_sem])
        have y211 : A.eval (.tmp 211) = _ := Eq.trans (hf 211) (by conv => lhs; simp [go_sem])
        have y212 : A.eval (.tmp 212) = _ := Eq.trans (hf 212) (by conv => lhs; simp [go_sem])
        have y213 : A.eval (.tmp 213) = _ := Eq.trans (hf 213) (by conv => lhs; simp [go_sem])
        have y214 : A.eval (.tmp 214) = _ := Eq.trans (hf 214) (by conv => lhs; simp [go_sem])
        have y215 : A.eval (.tmp 215) = _ := Eq.trans (hf 215) (by conv => lhs; simp [go_sem])
        have y216 : A.eval (.tmp 216) = _ := Eq.trans (hf 216) (by conv => lhs; simp [go_sem])
        have y217 : A.eval (.tmp 217) = _ := Eq.trans (hf 217) (by conv => lhs; simp [go_sem])
        have y218 : A.eval (.tmp 218) = _ := Eq.trans (hf 218) (by conv => lhs; simp [go_sem])
        have y219 : A.eval (.tmp 219) = _ := Eq.trans (hf 219) (by conv => lhs; simp [go_sem])
        clear hf
        have hA := frame_eq hn
        rw [show List.range 220 = [0, 1, 2, 3, 4, 5, 6, 7, 8, 9, 10, 11, 12, 13, 14, 15, 16, 17, 18, 19, 20, 21, 22, 23, 24, 25, 26, 27, 28, 29, 30, 31, 32, 33, 34, 35, 36, 37, 38, 39, 40, 41, 42, 43, 44, 45, 46, 47, 48, 49, 50, 51, 52, 53, 54, 55, 56, 57, 58, 59, 60, 61, 62, 63, 64, 65, 66, 67, 68, 69, 70, 71, 72, 73, 74, 75, 76, 77, 78, 79, 80, 81, 82, 83, 84, 85, 86, 87, 88, 89, 90, 91, 92, 93, 94, 95, 96, 97, 98, 99, 100, 101, 102, 103, 104, 105, 106, 107, 108, 109, 110, 111, 112, 113, 114, 115, 116, 117, 118, 119, 120, 121, 122, 123, 124, 125, 126, 127, 128, 129, 130, 131, 132, 133, 134, 135, 136, 137, 138, 139, 140, 141, 142, 143, 144, 145, 146, 147, 148, 149, 150, 151, 152, 153, 154, 155, 156, 157, 158, 159, 160, 161, 162, 163, 164, 165, 166, 167, 168, 169, 170, 171, 172, 173, 174, 175, 176, 177, 178, 179, 180, 181, 182, 183, 184, 185, 186, 187, 188, 189, 190, 191, 192, 193, 194, 195, 196, 197, 198, 199, 200, 201, 202, 203, 204, 205, 206, 207, 208, 209, 210, 211, 212, 213, 214, 215, 216, 217, 218, 219] from rfl, hd] at hA
        simp only [List.map_cons, List.map_nil, y0, y1, y2, y3, y4, y5, y6, y7, y8, y9, y10, y11, y12, y13, y14, y15, y16, y17, y18, y19, y20, y21, y22, y23, y24, y25, y26, y27, y28, y29, y30, y31, y32, y33, y34, y35, y36, y37, y38, y39, y40, y41, y42, y43, y44, y45, y46, y47, y48, y49, y50, y51, y52, y53, y54, y55, y56, y57, y58, y59, y60, y61, y62, y63, y64, y65, y66, y67, y68, y69, y70, y71, y72, y73, y74, y75, y76, y77, y78, y79, y80, y81, y82, y83, y84, y85, y86, y87, y88, y89, y90, y91, y92, y93, y94, y95, y96, y97, y98, y99, y100, y101, y102, y103, y104, y105, y106, y107, y108, y109, y110, y111, y112, y113, y114, y115, y116, y117, y118, y119, y120, y121, y122, y123, y124, y125, y126, y127, y128, y129, y130, y131, y132, y133, y134, y135, y136, y137, y138, y139, y140, y141, y142, y143, y144, y145, y146, y147, y148, y149, y150, y151, y152, y153, y154, y155, y156, y157, y158, y159, y160, y161, y162, y163, y164, y165, y166, y167, y168, y169, y170, y171, y172, y173, y174, y175, y176, y177, y178, y179, y180, y181, y182, y183, y184, y185, y186, y187, y188, y189, y190, y191, y192, y193, y194, y195, y196, y197, y198, y199, y200, y201, y202, y203, y204, y205, y206, y207, y208, y209, y210, y211, y212, y213, y214, y215, y216, y217, y218, y219] at hA
        clear y0 y1 y2 y3 y4 y5 y6 y7 y8 y9 y10 y11 y12 y13 y14 y15 y16 y17 y18 y19 y20 y21 y22 y23 y24 y25 y26 y27 y28 y29 y30 y31 y32 y33 y34 y35 y36 y37 y38 y39 y40 y41 y42 y43 y44 y45 y46 y47 y48 y49 y50 y51 y52 y53 y54 y55 y56 y57 y58 y59 y60 y61 y62 y63 y64 y65 y66 y67 y68 y69 y70 y71 y72 y73 y74 y75 y76 y77 y78 y79 y80 y81 y82 y83 y84 y85 y86 y87 y88 y89 y90 y91 y92 y93 y94 y95 y96 y97 y98 y99 y100 y101 y102 y103 y104 y105 y106 y107 y108 y109 y110 y111 y112 y113 y114 y115 y116 y117 y118 y119 y120 y121 y122 y123 y124 y125 y126 y127 y128 y129 y130 y131 y132 y133 y134 y135 y136 y137 y138 y139 y140 y141 y142 y143 y144 y145 y146 y147 y148 y149 y150 y151 y152 y153 y154 y155 y156 y157 y158 y159 y160 y161 y162 y163 y164 y165 y166 y167 y168 y169 y170 y171 y172 y173 y174 y175 y176 y177 y178 y179 y180 y181 y182 y183 y184 y185 y186 y187 y188 y189 y190 y191 y192 y193 y194 y195 y196 y197 y198 y199 y200 y201 y202 y203 y204 y205 y206 y207 y208 y209 y210 y211 y212 y213 y214 y215 y216 y217 y218 y219
        clear hn hd
        subst hA
        have HS3 := Lib.hid (HS.out.low hb)
        clear HS hb kc cX
        go_wp2_with fail
        go_roundw
        case rel => exact ⟨hh0 + 1, t, by go_num, rfl, by have := H3.out; omega, by have := H3.out; omega, htc, HS3, .inr ⟨by have := H3.out; omega, by rw [Nat.add_sub_cancel, HX.out, show md - (hh0 + 1) = md - 1 - hh0 by omega, HY.out]; exact hl⟩, H2⟩
        case measure => have := H3.out; simp [intOf]; omega
    · obtain rfl : s = t := by omega
      have hltz : ¬ (s : Int) < (s : Int) := by omega
      obtain ⟨l_1, l_2, l_3, l_4, l_5, l_6, l_7⟩ := HLH.out
      obtain ⟨n_1, n_2, n_3, n_4, n_5, n_6, n_7⟩ := HN.out
      obtain ⟨⟨d_1, d_2⟩, d_3, d_4⟩ := HMD.out
      -- what the two parts are cut into
      obtain ⟨p, hp⟩ : ∃ p, p = s - a := ⟨_, rfl⟩
      obtain ⟨q, hq⟩ : ∃ q, q = md - s := ⟨_, rfl⟩
      have hs1 : ∀ (u : 0 < p) (v : q < R.length), lt (L[p - 1]'(by omega)) R[q] := by
        intro u v
        rcases H1.out with h1 | ⟨h1, h2⟩
        · rcases l_6 with h3 | h3
          · omega
          · omega
        · rw [show s - 1 - a = p - 1 by omega, show md - s = q by omega, gd_at (by omega), gd_at v] at h2
          exact h2
      have hs2 : ∀ (u : 0 < q) (v : p < L.length), lt (R[q - 1]'(by omega)) L[p] := by
        intro u v
        rcases H2.out with h1 | ⟨h1, h2⟩
        · rcases l_7 with h3 | h3
          · omega
          · omega
        · rw [show md - 1 - s = q - 1 by omega, show s - a = p by omega, gd_at (by omega), gd_at v] at h2
          exact h2
      obtain ⟨L1, hL1⟩ : ∃ L1, L.take p = L1 := ⟨_, rfl⟩
      obtain ⟨L2, hL2⟩ : ∃ L2, L.drop p = L2 := ⟨_, rfl⟩
      obtain ⟨R1, hR1⟩ : ∃ R1, R.take q = R1 := ⟨_, rfl⟩
      obtain ⟨R2, hR2⟩ : ∃ R2, R.drop q = R2 := ⟨_, rfl⟩
      have eL : L = L1 ++ L2 := by rw [← hL1, ← hL2, List.take_append_drop]
      have eR : R = R1 ++ R2 := by rw [← hR1, ← hR2, List.take_append_drop]
      have z1 : L1.length = p := by rw [← hL1, List.length_take]; omega
      have z2 : L2.length = L.length - p := by rw [← hL2, List.length_drop]
      have z3 : R1.length = q := by rw [← hR1, List.length_take]; omega
      have z4 : R2.length = R.length - q := by rw [← hR2, List.length_drop]
      have HJ : ∀ SA SB : List Int, SA.Perm (L1 ++ R1) → SA.Pairwise lt → SB.Perm (L2 ++ R2) → SB.Pairwise lt → (SA ++ SB).Pairwise lt ∧ (SA ++ SB).Perm (L ++ R) := by
        intro SA SB h1 h2 h3 h4
        rw [← hL1, ← hR1] at h1
        rw [← hL2, ← hR2] at h3
        exact sym_join HO.out.tr SL0.out SR0.out (by omega) (by omega) hs1 hs2 h1 h2 h3 h4
      have HJH := Lib.hid HJ
      have hLR2 := HLR.out
      have okL2 := OKL.out
      have okR2 := OKR.out
      have sL2 := SL0.out
      have sR2 := SR0.out
      rw [eL] at sL2 okL2 hLR2
      rw [eR] at sR2 okR2 hLR2
      have HSL := Lib.hid (List.pairwise_append.1 sL2)
      have HSR := Lib.hid (List.pairwise_append.1 sR2)
      have HOKS := Lib.hid (And.intro okL2 (And.intro okR2 hLR2))
      have HS0 := HS.out
      rw [eL, eR, List.append_assoc, List.append_assoc] at HS0
      have HS1 := Lib.hid HS0
      obtain ⟨ed, hed⟩ : ∃ ed, ed = md + m - s := ⟨_, rfl⟩
      have re : IntKind.i64.wrap ((md : Int) + (m : Int) - (s : Int)) = (ed : Int) := by rw [IntKind.wrap_i64]; omega
      have hz0 : a = X.length ∧ s = X.length + L1.length ∧ m = X.length + L1.length + L2.length ∧ ed = m + R1.length ∧ c = ed + R2.length ∧ md = X.length + L1.length + R1.length ∧ n = X.length + L1.length + L2.length + R1.length + R2.length + Z.length ∧ L1.length + L2.length + R1.length + R2.length ≤ N + 1 := by omega
      have HZ := Lib.hid hz0
      have HMDC := Lib.hid (And.intro d_1 d_2)
      clear HS HS0 HJ hLR2 okL2 okR2 sL2 sR2 hs1 hs2 hL1 hL2 hR1 hR2 eL eR z1 z2 z3 z4 hp hq hed l_1 l_2 l_3 l_4 l_5 l_6 l_7 n_1 n_2 n_3 n_4 n_5 n_6 n_7 d_1 d_2 d_3 d_4 hz0
      clear hltz
      have hltz : ¬ (s : Int) < (s : Int) := by omega
      go_upto_region 39 with (fail)
      go_cut [185] from 178 to 184 (fun r wx => ∃ bb : Bool, r = .bool bb ∧ Hid (bb = decide (0 < L2.length ∧ 0 < R1.length)) ∧ wr = wx)
      case first =>
        by_cases h1 : 0 < L2.length
        · have g1 : (s : Int) < (m : Int) := by have := HZ.out; omega
          by_cases h2 : 0 < R1.length
          · have g2 : (m : Int) < (ed : Int) := by have := HZ.out; omega
            have hd : decide (0 < L2.length ∧ 0 < R1.length) = true := by simp [*]
            have HD := Lib.hid hd.symm
            clear hd h1 h2
            go_wp2_with fail
            go_meet
            case rel => exact ⟨_, rfl, HD, rfl⟩
          · have g2 : ¬ (m : Int) < (ed : Int) := by have := HZ.out; omega
            have hd : decide (0 < L2.length ∧ 0 < R1.length) = false := by simp [*]
            have HD := Lib.hid hd.symm
            clear hd h1 h2
            go_wp2_with fail
            go_meet
            case rel => exact ⟨_, rfl, HD, rfl⟩
        · have g1 : ¬ (s : Int) < (m : Int) := by have := HZ.out; omega
          have hd : decide (0 < L2.length ∧ 0 < R1.length) = false := by simp [*]
          have HD := Lib.hid hd.symm
          clear hd h1
          go_wp2_with fail
          go_meet
          case rel => exact ⟨_, rfl, HD, rfl⟩
      obtain ⟨bb, rfl, HBB, rfl⟩ := hcut
      go_upto_if 185 with (fail)
      go_cut [24] from 185 to 191 (fun u24 wc => u24 = .int .i64 ed ∧ Hid (SY DV B w0 b off wc (X ++ (L1 ++ (R1 ++ (L2 ++ (R2 ++ Z)))))))
      case first =>
        cases bb with
        | true =>
          have hc1 := of_decide_eq_true HBB.out.symm
          have hcall := rotN_any (fv := .func (.func 58) #[] #[]) (cap := cap) (n := n) (X ++ L1) L2 R1 (R2 ++ Z) hc1.1 hc1.2 wr (by have := HS1.out; rw [List.append_assoc]; exact this) (by have := HZ.out; simp only [List.length_append]; omega) hbig s m ed (by have := HZ.out; rw [List.length_append]; omega) (by have := HZ.out; rw [List.length_append]; omega) (by have := HZ.out; rw [List.length_append]; omega)
          have HCALL := Lib.hid hcall
          clear hcall hc1
          go_wp2_with fail
          refine HCALL.out.mono ?_
          rintro e w1 ⟨rfl, hs⟩
          rw [List.append_assoc] at hs
          have HS2 := Lib.hid hs
          clear hs
          go_wp2_with fail
          go_meet
          case rel => exact ⟨rfl, HS2⟩
        | false =>
          have hc1 := of_decide_eq_false HBB.out.symm
          have hsx : Hid (SY DV B w0 b off wr (X ++ (L1 ++ (R1 ++ (L2 ++ (R2 ++ Z)))))) := by
            have h1 := HS1.out
            rcases Nat.eq_zero_or_pos L2.length with h2 | h2
            · obtain rfl := List.length_eq_zero_iff.1 h2
              exact h1
            · obtain rfl := List.length_eq_zero_iff.1 (show R1.length = 0 by omega)
              exact h1
          clear hc1
          go_wp2_with fail
          go_meet
          case rel => exact ⟨rfl, hsx⟩
      obtain ⟨rfl, HS2⟩ := hcut
      clear HS1 HBB
      obtain ⟨wA, hwA⟩ : ∃ wA, wA = wc := ⟨_, rfl⟩
      subst hwA
      go_upto_region 41 with (fail)
      go_cut [199] from 192 to 198 (fun r wx => ∃ bb : Bool, r = .bool bb ∧ Hid (bb = decide (0 < L1.length ∧ 0 < R1.length)) ∧ wA = wx)
      case first =>
        by_cases h1 : 0 < L1.length
        · have g1 : (a : Int) < (s : Int) := by have := HZ.out; omega
          by_cases h2 : 0 < R1.length
          · have g2 : (s : Int) < (md : Int) := by have := HZ.out; omega
            have hd : decide (0 < L1.length ∧ 0 < R1.length) = true := by simp [*]
            have HD := Lib.hid hd.symm
            clear hd h1 h2
            go_wp2_with fail
            go_meet
            case rel => exact ⟨_, rfl, HD, rfl⟩
          · have g2 : ¬ (s : Int) < (md : Int) := by have := HZ.out; omega
            have hd : decide (0 < L1.length ∧ 0 < R1.length) = false := by simp [*]
            have HD := Lib.hid hd.symm
            clear hd h1 h2
            go_wp2_with fail
            go_meet
            case rel => exact ⟨_, rfl, HD, rfl⟩
        · have g1 : ¬ (a : Int) < (s : Int) := by have := HZ.out; omega
          have hd : decide (0 < L1.length ∧ 0 < R1.length) = false := by simp [*]
          have HD := Lib.hid hd.symm
          clear hd h1
          go_wp2_with fail
          go_meet
          case rel => exact ⟨_, rfl, HD, rfl⟩
      obtain ⟨bb_1, rfl, HBB, rfl⟩ := hcut
      go_upto_if 199 with (fail)
      go_cut [24] from 199 to 205 (fun u24 wc => u24 = .int .i64 ed ∧ ∃ SA, Hid (SA.Perm (L1 ++ R1) ∧ SA.Pairwise lt) ∧ Hid (SY DV B w0 b off wc (X ++ (SA ++ (L2 ++ (R2 ++ Z))))))
      case first =>
        cases bb_1 with
        | true =>
          have hc1 := of_decide_eq_true HBB.out.symm
          have hcall := HIH.out X L1 R1 (L2 ++ (R2 ++ Z)) wA a s md (by have := HZ.out; have := HMDC.out; omega) hc1.1 hc1.2 HS2.out HSL.out.1 HSR.out.1 (fun x hx y hy => HOKS.out.2.2 x (List.mem_append_left _ hx) y (List.mem_append_left _ hy)) (fun x hx => HOKS.out.1 x (List.mem_append_left _ hx)) (fun x hx => HOKS.out.2.1 x (List.mem_append_left _ hx)) (by have := HZ.out; simp only [List.length_append]; omega) (by have := HZ.out; omega) (by have := HZ.out; omega) (by have := HZ.out; omega)
          have HCALL := Lib.hid hcall
          clear hcall hc1
          go_wp2_with fail
          refine HCALL.out.mono ?_
          rintro e w1 ⟨rfl, SA, hs, hp1, hp2⟩
          have HS3 := Lib.hid hs
          have HSA := Lib.hid (And.intro hp1 hp2)
          clear hs hp1 hp2
          go_wp2_with fail
          go_meet
          case rel => exact ⟨rfl, SA, HSA, HS3⟩
        | false =>
          have hc1 := of_decide_eq_false HBB.out.symm
          have hsx : Hid ((L1 ++ R1).Perm (L1 ++ R1) ∧ (L1 ++ R1).Pairwise lt) ∧ Hid (SY DV B w0 b off wA (X ++ ((L1 ++ R1) ++ (L2 ++ (R2 ++ Z))))) := by
            refine ⟨⟨.refl _, ?_⟩, ?_⟩
            · rcases Nat.eq_zero_or_pos L1.length with h2 | h2
              · rw [List.length_eq_zero_iff.1 h2]
                exact HSR.out.1
              · rw [List.length_eq_zero_iff.1 (show R1.length = 0 by omega), List.append_nil]
                exact HSL.out.1
            · show SY _ _ _ _ _ _ _
              rw [List.append_assoc]
              exact HS2.out
          have HSXH := Lib.hid hsx
          clear hc1 hsx
          go_wp2_with fail
          go_meet
          case rel => exact ⟨rfl, _, HSXH.out⟩
      obtain ⟨rfl, SA, HSA, HS3⟩ := hcut
      clear HS2 HBB
      obtain ⟨wB, hwB⟩ : ∃ wB, wB = wc := ⟨_, rfl⟩
      subst hwB
      have hzA : SA.length = L1.length + R1.length := by rw [HSA.out.1.length_eq, List.length_append]
      have HZA := Lib.hid hzA
      clear hzA
      go_upto_region 43 with (fail)
      go_cut [213] from 206 to 212 (fun r wx => ∃ bb : Bool, r = .bool bb ∧ Hid (bb = decide (0 < L2.length ∧ 0 < R2.length)) ∧ wB = wx)
      case first =>
        by_cases h1 : 0 < L2.length
        · have g1 : (md : Int) < (ed : Int) := by have := HZ.out; omega
          by_cases h2 : 0 < R2.length
          · have g2 : (ed : Int) < (c : Int) := by have := HZ.out; omega
            have hd : decide (0 < L2.length ∧ 0 < R2.length) = true := by simp [*]
            have HD := Lib.hid hd.symm
            clear hd h1 h2
            go_wp2_with fail
            go_meet
            case rel => exact ⟨_, rfl, HD, rfl⟩
          · have g2 : ¬ (ed : Int) < (c : Int) := by have := HZ.out; omega
            have hd : decide (0 < L2.length ∧ 0 < R2.length) = false := by simp [*]
            have HD := Lib.hid hd.symm
            clear hd h1 h2
            go_wp2_with fail
            go_meet
            case rel => exact ⟨_, rfl, HD, rfl⟩
        · have g1 : ¬ (md : Int) < (ed : Int) := by have := HZ.out; omega
          have hd : decide (0 < L2.length ∧ 0 < R2.length) = false := by simp [*]
          have HD := Lib.hid hd.symm
          clear hd h1
          go_wp2_with fail
          go_meet
          case rel => exact ⟨_, rfl, HD, rfl⟩
      obtain ⟨bb_2, rfl, HBB, rfl⟩ := hcut
      cases bb_2 with
      | true =>
        have hc1 := of_decide_eq_true HBB.out.symm
        have hcall := HIH.out (X ++ SA) L2 R2 Z wB md ed c (by have := HZ.out; have := HMDC.out; omega) hc1.1 hc1.2 (by have := HS3.out; rw [List.append_assoc]; exact this) HSL.out.2.1 HSR.out.2.1 (fun x hx y hy => HOKS.out.2.2 x (List.mem_append_right _ hx) y (List.mem_append_right _ hy)) (fun x hx => HOKS.out.1 x (List.mem_append_right _ hx)) (fun x hx => HOKS.out.2.1 x (List.mem_append_right _ hx)) (by have := HZ.out; have := HZA.out; simp only [List.length_append]; omega) (by have := HZ.out; have := HZA.out; simp only [List.length_append]; omega) (by have := HZ.out; have := HZA.out; omega) (by have := HZ.out; omega)
        have HCALL := Lib.hid hcall
        clear hcall hc1
        go_wp2_with fail
        refine HCALL.out.mono ?_
        rintro e w1 ⟨rfl, SB, hs, hp1, hp2⟩
        obtain ⟨j1, j2⟩ := HJH.out SA SB HSA.out.1 HSA.out.2 hp1 hp2
        rw [List.append_assoc] at hs
        have HF : Hid (∃ S, SY DV B w0 b off w1 (X ++ (S ++ Z)) ∧ S.Perm (L ++ R) ∧ S.Pairwise lt) := ⟨SA ++ SB, by rw [List.append_assoc]; exact hs, j2, j1⟩
        clear hs hp1 hp2 j1 j2
        go_wp2_with fail
        go_end0
        exact ⟨rfl, HF.out⟩
      | false =>
        have hc1 := of_decide_eq_false HBB.out.symm
        have HF : Hid (∃ S, SY DV B w0 b off wB (X ++ (S ++ Z)) ∧ S.Perm (L ++ R) ∧ S.Pairwise lt) := by
          have hB : (L2 ++ R2).Pairwise lt := by
            rcases Nat.eq_zero_or_pos L2.length with h2 | h2
            · rw [List.length_eq_zero_iff.1 h2]
              exact HSR.out.2.1
            · rw [List.length_eq_zero_iff.1 (show R2.length = 0 by omega), List.append_nil]
              exact HSL.out.2.1
          obtain ⟨j1, j2⟩ := HJH.out SA (L2 ++ R2) HSA.out.1 HSA.out.2 (.refl _) hB
          refine ⟨SA ++ (L2 ++ R2), ?_, j2, j1⟩
          have := HS3.out
          simp only [List.append_assoc] at this ⊢
          exact this
        clear hc1
        go_wp2_with fail
        go_end0
        exact ⟨rfl, HF.out⟩
theorem smergeN_any (O : SOrd ok cf lt) (HC : CmpY DV B w0 ok cf) (hbig : n ≤ 100000) (N : Nat) : MergeN ok lt B w0 DV b off n cap N := by
  induction N with
  | zero => intro X L R Z w a m c h1 h2 h3; omega
  | succ N ih =>
    intro X L R Z w a m c h1 h2 h3 h sL sR hLR okL okR hn ha hm hc
    by_cases g1 : L.length = 1
    · obtain ⟨x, rfl⟩ := List.length_eq_one_iff.1 g1
      exact smergeN_one O HC X R Z x h3 w h sR (fun y hy => hLR x List.mem_cons_self y hy) (okL x List.mem_cons_self) okR (by simpa using hn) hbig a m c ha (by simpa using hm) hc
    · by_cases g2 : R.length = 1
      · obtain ⟨y, rfl⟩ := List.length_eq_one_iff.1 g2
        refine (smergeN_last O HC X L Z y (by omega) w h sL (fun x hx => hLR x hx y List.mem_cons_self) okL (okR y List.mem_cons_self) (by simpa using hn) hbig a m c ha hm (by simpa using hc)).mono ?_
        rintro e w' ⟨rfl, S, i1, i2, i3⟩
        exact ⟨rfl, S, i1, i2.trans (List.perm_append_comm (l₁ := [y])), i3⟩
      · exact smergeN_gen O HC N ih X L R Z (by omega) (by omega) h1 w h sL sR hLR okL okR hn hbig a m c ha hm hc
end
end Go.Proofs.Ytmimgpnogjgliaa

