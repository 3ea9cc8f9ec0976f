/- thalweglaw12.ViewsForget: for any views, level and number the law answers true; no condition. -/
import Derived.Test.YtahhhegknmiinaaVmt
import Derived.Test.YtahhhegknmiinaaVpm
import Derived.WalkLawsBesides
import Derived.WalkKit
import Derived.ProofKit
import Derived.OpenShut
import Derived.ShutString
import Derived.ChangeOld
import Derived.Below
namespace Go.Proofs.Ytahhhegknmiinaa.viewsForget
open Go.ChangeShapes Go.WideShapes Go.ChangeAt Go.RowKit
open Go.ChangeMaps (open_string shut_string)
set_option linter.unusedVariables false
set_option maxRecDepth 100000

theorem own : ownKnob Try.prog.godebug = none := by kernel_rfl
theorem laidOut : laidOutB Try.prog = true := by kernel_rfl
theorem ordL_zero (t o r t' o' r' : Int) : ordL t o r t' o' r' = 0 ↔ t = t' ∧ o = o' ∧ r = r' := by
  unfold ordL cmpL cmpL cmpL cmpL
  split
  · omega
  · split
    · omega
    · split
      · omega
      · split
        · omega
        · split
          · omega
          · split
            · omega
            · exact ⟨fun _ => ⟨by omega, by omega, by omega⟩, fun _ => rfl⟩
theorem eqHv_iff {n : Bool} {t o r d i : Int} {m : Bool} {t' o' r' d' i' : Int} : eqH n t o r d i m t' o' r' d' i' = true ↔ n = m ∧ t = t' ∧ o = o' ∧ r = r' ∧ d = d' ∧ i = i' := by simp [eqH]
theorem fgt_id (v : Lv) (keep : Int) (y : Vw) : (fgt v keep y).1 = y.1 := by
  unfold fgt
  split <;> rfl
theorem tld_nul (i : Int) : tld (nulX i) = false := by unfold tld nulX told; rfl
theorem fgt_two (v : Lv) (keep : Int) (y : Vw) : fgt v keep (fgt v keep y) = fgt v keep y := by
  by_cases h : y.1 ≠ keep ∧ tld y.2 = true ∧ (y.2.2.1, y.2.2.2.1, y.2.2.2.2.1) = v
  · have e : fgt v keep y = (y.1, nulX y.2.2.2.2.2.2) := by unfold fgt; rw [if_pos h]
    rw [e]
    have : ¬ ((y.1, nulX y.2.2.2.2.2.2) : Vw).1 ≠ keep ∨ ¬ tld ((y.1, nulX y.2.2.2.2.2.2) : Vw).2 = true := .inr (by rw [tld_nul]; simp)
    unfold fgt
    rw [if_neg (fun h2 => this.elim (fun h3 => h3 h2.1) (fun h3 => h3 h2.2.1))]
  · have e : fgt v keep y = y := by unfold fgt; rw [if_neg h]
    rw [e, e]
theorem for_two (l : List Vw) (v : Lv) (keep : Int) : forL (forL l v keep) v keep = forL l v keep := by
  unfold forL
  rw [List.map_map]
  exact List.map_congr_left fun y _ => fgt_two v keep y
theorem for_ok {l : List Vw} (h : VOk l) (v : Lv) (keep : Int) : VOk (forL l v keep) := by
  obtain ⟨h1, h2⟩ := (vok_iff l).1 h
  refine (vok_iff _).2 ⟨?_, fun z hz => ?_⟩
  · unfold Rise forL
    rw [List.pairwise_map]
    exact List.Pairwise.imp (fun hab => by rw [fgt_id, fgt_id]; exact hab) h1
  · obtain ⟨y, hy, rfl⟩ := List.mem_map.1 hz
    obtain ⟨a1, a2, a3⟩ := h2 y hy
    unfold fgt
    split
    · refine ⟨a1, ?_, a3⟩
      unfold hOk nulX HtOk
      exact ⟨by rw [a3]; exact a1, .inl ⟨rfl, rfl, rfl, rfl, rfl⟩⟩
    · exact ⟨a1, a2, a3⟩
theorem for_get {l : List Vw} {v : Lv} {keep : Int} {k : Nat} (h : k < l.length) : (forL l v keep).getD k zVw = fgt v keep (l.getD k zVw) := by
  unfold forL
  simp [List.getD, h]
set_option maxHeartbeats 4000000 in
theorem walk0 (hvc : Vc) (a0 : Option Addr) (cap0 : Nat) (z0 : List Vw) (lv1 : Lv) (a2 : Int) (w : World) (r0 : Vs w (.slice a0 z0.length cap0) z0) :
    Calls Try.prog 7 #[.slice a0 z0.length cap0, .agg #[.int .i64 lv1.1, .int .i64 lv1.2.1, .int .i64 lv1.2.2], .int .i64 a2] w fun e w' => e = .returned (.bool true) ∧ Below w.heap.size w w' := by
  by_cases hl : 100 < z0.length
  · have hl_ : (100 : Int) < (z0.length : Int) := by omega
    have hb1 : Below w.heap.size w (w.alloc (.cells #[.int .i64 lv1.1, .int .i64 lv1.2.1, .int .i64 lv1.2.2] 38)) := (Below.refl _ w).alloc (Nat.le_refl _) _
    have HB := Lib.hid hb1
    clear hb1
    clear r0
    go_enter Try.func7, Try.ntmps7
    go_wp2_with fail
    refine (awake12 hvc _).mono ?_
    rintro e W9 ⟨rfl, hb⟩
    have HB9 := Lib.hid (HB.out.trans (hb.mono HB.out.size))
    clear hb
    go_wp2_with fail
    go_ret
    exact ⟨rfl, HB9.out⟩
  have hl_ : ¬ (100 : Int) < (z0.length : Int) := by omega
  have HL : Hid (z0.length ≤ 100) := by show _ ≤ _; omega
  have H0 := Lib.hid r0
  have HB : Hid (Below w.heap.size w w) := Below.refl _ _
  clear r0 hl
  go_enter Try.func7, Try.ntmps7
  obtain ⟨W1, hW⟩ : ∃ W1, w.alloc (.cells #[.int .i64 lv1.1, .int .i64 lv1.2.1, .int .i64 lv1.2.2] 38) = W1 := ⟨_, rfl⟩
  have hb : Below w.heap.size w W1 := hW ▸ (Below.refl _ w).alloc (Nat.le_refl _) _
  have Y1 := Lib.hid (hW ▸ own3_alloc w lv1.1 lv1.2.1 lv1.2.2 38 w.heap.size rfl)
  have HW := Lib.hid hW
  clear hW
  go_upto_region 1 with (fail)
  change Code.wp _ _ _ _ (w.alloc (.cells #[.int .i64 lv1.1, .int .i64 lv1.2.1, .int .i64 lv1.2.2] 38))
  rw [HW.out]
  replace H0 := Lib.hid (H0.out.below hb)
  replace HB := Lib.hid (HB.out.trans (hb.mono HB.out.size))
  clear hb HW
  go_wp2_with fail
  refine (hvc.check _ z0 _ H0.out (Nat.le_trans HL.out (by decide))).mono ?_
  rintro e W2 ⟨rfl, hb⟩
  replace H0 := Lib.hid (H0.out.below hb)
  replace Y1 := Lib.hid (Y1.out.below hb)
  replace HB := Lib.hid (HB.out.trans (hb.mono HB.out.size))
  clear hb
  clear hl_
  by_cases hok : VOk z0
  rotate_left
  · have hck : chkV z0 = 1 := by unfold chkV; rw [if_neg hok]
    rw [hck]
    clear hck hok
    go_wp2_with fail
    refine (awake12 hvc _).mono ?_
    rintro e W3 ⟨rfl, hb⟩
    replace H0 := Lib.hid (H0.out.below hb)
    replace HB := Lib.hid (HB.out.trans (hb.mono HB.out.size))
    clear hb
    go_wp2_with fail
    go_ret
    exact ⟨rfl, HB.out⟩
  have hck : chkV z0 = 0 := by unfold chkV; rw [if_pos hok]
  rw [hck]
  have HOK := Lib.hid hok
  clear hck hok
  obtain ⟨⟨u0, u1, u2⟩, -⟩ := Y1.out
  go_wp2_with fail
  refine (hvc.forget _ z0 lv1 a2 _ H0.out (Nat.le_trans HL.out (by decide))).mono ?_
  rintro e W3 ⟨r1, rfl, hv, hb⟩
  replace H0 := Lib.hid (H0.out.below hb)
  replace Y1 := Lib.hid (Y1.out.below hb)
  replace HB := Lib.hid (HB.out.trans (hb.mono HB.out.size))
  obtain ⟨M, hM⟩ : ∃ M, forL z0 lv1 a2 = M := ⟨_, rfl⟩
  rw [hM] at hv
  have hml : M.length = z0.length := by rw [← hM]; unfold forL; rw [List.length_map]
  have hMk := for_ok HOK.out lv1 a2
  have hM2 := for_two z0 lv1 a2
  have hMg : ∀ k, k < z0.length → M.getD k zVw = fgt lv1 a2 (z0.getD k zVw) := fun k hk => by rw [← hM]; exact for_get hk
  rw [hM] at hMk hM2
  have HMG := Lib.hid hMg
  have HMK := Lib.hid (show chkV M = 0 by unfold chkV; rw [if_pos hMk])
  have HM2 := Lib.hid hM2
  have HM := Lib.hid hv
  obtain ⟨am, cm, hr⟩ := hv.form
  rw [hml] at hr
  subst hr
  have HML := Lib.hid hml
  clear hv hM hml hMk hM2 hMg
  clear hb
  clear u0 u1 u2
  obtain ⟨⟨u0, u1, u2⟩, -⟩ := Y1.out
  rw [show (Value.slice am z0.length cm) = .slice am M.length cm by rw [HML.out]] at HM
  have hne : ((z0.length : Int) != (z0.length : Int)) = false := by simp
  go_wp2_with fail
  clear hne u0 u1 u2
  obtain ⟨W9, hW9⟩ : ∃ W9, W9 = W3 := ⟨_, rfl⟩
  subst hW9
  go_loopw [8] (fun iv wr => ∃ k : Nat, k ≤ z0.length ∧ iv = .int .i64 k ∧ Hid (Below W9.heap.size W9 wr)) (fun iv _ => z0.length - (intOf iv).toNat)
  case atStart => exact ⟨0, Nat.zero_le _, rfl, Below.refl _ _⟩
  case round =>
    obtain ⟨k, hk, rfl, HBW⟩ := hrel
    by_cases hlt : k < z0.length
    · have HBX := Lib.hid HBW.out
      have hl100 := HL.out
      obtain ⟨b2, off, rfl⟩ : ∃ b2 off, a0 = some ⟨b2, off, none⟩ := by
        obtain ⟨b2, off, h, _⟩ := H0.out.at hlt
        exact ⟨b2, off, h⟩
      have hltm : k < M.length := by have := HML.out; omega
      obtain ⟨b4, off4, rfl⟩ : ∃ b4 off4, am = some ⟨b4, off4, none⟩ := by
        obtain ⟨b4, off4, h, _⟩ := HM.out.at hltm
        exact ⟨b4, off4, h⟩
      obtain ⟨y, hy⟩ : ∃ y, z0.getD k zVw = y := ⟨_, rfl⟩
      obtain ⟨z, hz⟩ : ∃ z, M.getD k zVw = z := ⟨_, rfl⟩
      have hzy : z = fgt lv1 a2 y := by rw [← hz, ← hy]; exact HMG.out k hlt
      have h1 := HOK.out k hlt
      unfold VwAt at h1
      rw [hy] at h1
      have HY1 := Lib.hid h1
      have HY := Lib.hid hy
      have HZ := Lib.hid hz
      clear hy hz h1
      have kc : ∀ w', Below wr.heap.size wr w' → C7 w' b2 (off + k * 7) y ∧ Cells3 w' w.heap.size lv1.1 lv1.2.1 lv1.2.2 := fun w' hb => by
        have hb9 := HBX.out.trans (hb.mono HBX.out.size)
        have h1 := (H0.out.below hb9).all hlt
        rw [HY.out] at h1
        exact ⟨h1.2, (Y1.out.below hb9).1⟩
      simp only [C7, Cells3] at kc
      cases hn : y.2.1 with
      | true =>
        have hz : z = y := by rw [hzy]; unfold fgt; rw [if_neg (fun h => by have h2 := h.2.1; unfold tld told at h2; rw [hn] at h2; cases h2)]
        rw [hz] at HZ
        clear hz hzy
        go_upto_region 9 with (fail)
        refine wp_region_typed (C := fun w' => Below wr.heap.size wr w') (X := fun w w' => Below w.heap.size w w') (n := 105) (by kernel_rfl) (by kernel_rfl) rfl (fun w => Below.refl _ w) (Below.refl _ _).drew ?_
        refine w_is (fun w => Below.refl _ w) _ (.inl rfl) (fun ρ w hC hc hfn hf => by have e0 : ρ (.tmp 0) = _ := hf 0 (by decide); (conv => lhs; simp [execOp, go_sem, hc, e0])) ?_
        refine w_is (fun w => Below.refl _ w) _ (.inl rfl) (fun ρ w hC hc hfn hf => by have e8 : ρ (.tmp 8) = _ := hf 8 (by decide); (conv => lhs; simp [execOp, go_sem, hc, e8])) ?_
        refine w_is (fun w => Below.refl _ w) _ (.inl rfl) (fun ρ w hC hc hfn hf => by have e34 : ρ (.tmp 34) = _ := hf 34 (by decide); have e35 : ρ (.tmp 35) = _ := hf 35 (by decide); (conv => lhs; simp [execOp, go_sem, hc, e34, e35, hlt])) ?_
        refine w_is (fun w => Below.refl _ w) _ (.inl rfl) (fun ρ w hC hc hfn hf => by have e36 : ρ (.tmp 36) = _ := hf 36 (by decide); (conv => lhs; simp [execOp, go_sem, hc, e36])) ?_
        refine w_is (fun w => Below.refl _ w) _ (.inl rfl) (fun ρ w hC hc hfn hf => by have e37 : ρ (.tmp 37) = _ := hf 37 (by decide); (conv => lhs; simp [execOp, go_sem, hc, e37])) ?_
        refine w_is (fun w => Below.refl _ w) _ (.inl rfl) (fun ρ w hC hc hfn hf => by have e38 : ρ (.tmp 38) = _ := hf 38 (by decide); (conv => lhs; simp [execOp, go_sem, hc, e38, hn, kc w hC])) ?_
        refine w_is (fun w => Below.refl _ w) _ (.inl rfl) (fun ρ w hC hc hfn hf => by have e39 : ρ (.tmp 39) = _ := hf 39 (by decide); (conv => lhs; simp [execOp, go_sem, hc, e39, hn])) ?_
        refine w_is (fun w => Below.refl _ w) _ (.inl rfl) (fun ρ w hC hc hfn hf => by have e40 : ρ (.tmp 40) = _ := hf 40 (by decide); (conv => lhs; simp [execOp, go_sem, hc, e40])) ?_
        refine w_skip rfl rfl (known_is rfl) ?_
        refine w_skip rfl rfl (known_is rfl) ?_
        refine w_skip rfl rfl (known_is rfl) ?_
        refine w_skip rfl rfl (known_is rfl) ?_
        refine w_skip rfl rfl (known_is rfl) ?_
        refine w_skip rfl rfl (known_is rfl) ?_
        refine w_skip rfl rfl (known_is rfl) ?_
        refine w_skip rfl rfl (known_is rfl) ?_
        refine w_skip rfl rfl (known_is rfl) ?_
        refine w_is (fun w => Below.refl _ w) _ (.inl rfl) (fun ρ w hC hc hfn hf => by have e41 : ρ (.tmp 41) = _ := hf 41 (by decide); have e50 : ρ (.tmp 50) = _ := hf 50 (by decide); (conv => lhs; simp [execOp, go_sem, hc, e41, e50])) ?_
        refine w_is (fun w => Below.refl _ w) _ (.inl rfl) (fun ρ w hC hc hfn hf => by have e51 : ρ (.tmp 51) = _ := hf 51 (by decide); (conv => lhs; simp [execOp, go_sem, hc, e51])) ?_
        refine w_skip rfl rfl (known_is rfl) ?_
        refine w_skip rfl rfl (known_is rfl) ?_
        refine w_skip rfl rfl (known_is rfl) ?_
        refine w_skip rfl rfl (known_is rfl) ?_
        refine w_skip rfl rfl (known_is rfl) ?_
        refine w_skip rfl rfl (known_is rfl) ?_
        refine w_skip rfl rfl (known_is rfl) ?_
        refine w_is (fun w => Below.refl _ w) _ (.inl rfl) (fun ρ w hC hc hfn hf => by have e52 : ρ (.tmp 52) = _ := hf 52 (by decide); have e59 : ρ (.tmp 59) = _ := hf 59 (by decide); (conv => lhs; simp [execOp, go_sem, hc, e52, e59])) ?_
        refine w_is (fun w => Below.refl _ w) _ (.inl rfl) (fun ρ w hC hc hfn hf => by have e60 : ρ (.tmp 60) = _ := hf 60 (by decide); (conv => lhs; simp [execOp, go_sem, hc, e60])) ?_
        intro A U5 hC hn hd hf
        have y0 : A.eval (.tmp 0) = _ := Eq.trans (hf 0) (by conv => lhs; simp [go_sem])
        have y1 : A.eval (.tmp 1) = _ := Eq.trans (hf 1) (by conv => lhs; simp [go_sem])
        have y2 : A.eval (.tmp 2) = _ := Eq.trans (hf 2) (by conv => lhs; simp [go_sem])
        have y3 : A.eval (.tmp 3) = _ := Eq.trans (hf 3) (by conv => lhs; simp [go_sem])
        have y4 : A.eval (.tmp 4) = _ := Eq.trans (hf 4) (by conv => lhs; simp [go_sem])
        have y5 : A.eval (.tmp 5) = _ := Eq.trans (hf 5) (by conv => lhs; simp [go_sem])
        have y6 : A.eval (.tmp 6) = _ := Eq.trans (hf 6) (by conv => lhs; simp [go_sem])
        have y7 : A.eval (.tmp 7) = _ := Eq.trans (hf 7) (by conv => lhs; simp [go_sem])
        have y8 : A.eval (.tmp 8) = _ := Eq.trans (hf 8) (by conv => lhs; simp [go_sem])
        have y9 : A.eval (.tmp 9) = _ := hf 9
        have y10 : A.eval (.tmp 10) = _ := Eq.trans (hf 10) (by conv => lhs; simp [go_sem])
        have y11 : A.eval (.tmp 11) = _ := Eq.trans (hf 11) (by conv => lhs; simp [go_sem])
        have y12 : A.eval (.tmp 12) = _ := Eq.trans (hf 12) (by conv => lhs; simp [go_sem])
        have y13 : A.eval (.tmp 13) = _ := Eq.trans (hf 13) (by conv => lhs; simp [go_sem])
        have y14 : A.eval (.tmp 14) = _ := Eq.trans (hf 14) (by conv => lhs; simp [go_sem])
        have y15 : A.eval (.tmp 15) = _ := Eq.trans (hf 15) (by conv => lhs; simp [go_sem])
        have y16 : A.eval (.tmp 16) = _ := Eq.trans (hf 16) (by conv => lhs; simp [go_sem])
        have y17 : A.eval (.tmp 17) = _ := Eq.trans (hf 17) (by conv => lhs; simp [go_sem])
        have y18 : A.eval (.tmp 18) = _ := Eq.trans (hf 18) (by conv => lhs; simp [go_sem])
        have y19 : A.eval (.tmp 19) = _ := Eq.trans (hf 19) (by conv => lhs; simp [go_sem])
        have y20 : A.eval (.tmp 20) = _ := Eq.trans (hf 20) (by conv => lhs; simp [go_sem])
        have y21 : A.eval (.tmp 21) = _ := Eq.trans (hf 21) (by conv => lhs; simp [go_sem])
        have y22 : A.eval (.tmp 22) = _ := Eq.trans (hf 22) (by conv => lhs; simp [go_sem])
        have y23 : A.eval (.tmp 23) = _ := Eq.trans (hf 23) (by conv => lhs; simp [go_sem])
        have y24 : A.eval (.tmp 24) = _ := Eq.trans (hf 24) (by conv => lhs; simp [go_sem])
        have y25 : A.eval (.tmp 25) = _ := Eq.trans (hf 25) (by conv => lhs; simp [go_sem])
        have y26 : A.eval (.tmp 26) = _ := Eq.trans (hf 26) (by conv => lhs; simp [go_sem])
        have y27 : A.eval (.tmp 27) = _ := Eq.trans (hf 27) (by conv => lhs; simp [go_sem])
        have y28 : A.eval (.tmp 28) = _ := Eq.trans (hf 28) (by conv => lhs; simp [go_sem])
        have y29 : A.eval (.tmp 29) = _ := Eq.trans (hf 29) (by conv => lhs; simp [go_sem])
        have y30 : A.eval (.tmp 30) = _ := Eq.trans (hf 30) (by conv => lhs; simp [go_sem])
        have y31 : A.eval (.tmp 31) = _ := Eq.trans (hf 31) (by conv => lhs; simp [go_sem])
        have y32 : A.eval (.tmp 32) = _ := Eq.trans (hf 32) (by conv => lhs; simp [go_sem])
        have y33 : A.eval (.tmp 33) = _ := Eq.trans (hf 33) (by conv => lhs; simp [go_sem])
        have y34 : A.eval (.tmp 34) = _ := hf 34
        have y35 : A.eval (.tmp 35) = _ := hf 35
        have y36 : A.eval (.tmp 36) = _ := hf 36
        have y37 : A.eval (.tmp 37) = _ := hf 37
        have y38 : A.eval (.tmp 38) = _ := hf 38
        have y39 : A.eval (.tmp 39) = _ := hf 39
        have y40 : A.eval (.tmp 40) = _ := hf 40
        have y41 : A.eval (.tmp 41) = _ := hf 41
        have y42 : A.eval (.tmp 42) = _ := hf 42
        have y43 : A.eval (.tmp 43) = _ := hf 43
        have y44 : A.eval (.tmp 44) = _ := hf 44
        have y45 : A.eval (.tmp 45) = _ := hf 45
        have y46 : A.eval (.tmp 46) = _ := hf 46
        have y47 : A.eval (.tmp 47) = _ := hf 47
        have y48 : A.eval (.tmp 48) = _ := hf 48
        have y49 : A.eval (.tmp 49) = _ := hf 49
        have y50 : A.eval (.tmp 50) = _ := hf 50
        have y51 : A.eval (.tmp 51) = _ := hf 51
        have y52 : A.eval (.tmp 52) = _ := hf 52
        have y53 : A.eval (.tmp 53) = _ := hf 53
        have y54 : A.eval (.tmp 54) = _ := hf 54
        have y55 : A.eval (.tmp 55) = _ := hf 55
        have y56 : A.eval (.tmp 56) = _ := hf 56
        have y57 : A.eval (.tmp 57) = _ := hf 57
        have y58 : A.eval (.tmp 58) = _ := hf 58
        have y59 : A.eval (.tmp 59) = _ := hf 59
        have y60 : A.eval (.tmp 60) = _ := hf 60
        have y61 : A.eval (.tmp 61) = _ := Eq.trans (hf 61) (by conv => lhs; simp [go_sem])
        have y62 : A.eval (.tmp 62) = _ := Eq.trans (hf 62) (by conv => lhs; simp [go_sem])
        have y63 : A.eval (.tmp 63) = _ := Eq.trans (hf 63) (by conv => lhs; simp [go_sem])
        have y64 : A.eval (.tmp 64) = _ := Eq.trans (hf 64) (by conv => lhs; simp [go_sem])
        have y65 : A.eval (.tmp 65) = _ := Eq.trans (hf 65) (by conv => lhs; simp [go_sem])
        have y66 : A.eval (.tmp 66) = _ := Eq.trans (hf 66) (by conv => lhs; simp [go_sem])
        have y67 : A.eval (.tmp 67) = _ := Eq.trans (hf 67) (by conv => lhs; simp [go_sem])
        have y68 : A.eval (.tmp 68) = _ := Eq.trans (hf 68) (by conv => lhs; simp [go_sem])
        have y69 : A.eval (.tmp 69) = _ := Eq.trans (hf 69) (by conv => lhs; simp [go_sem])
        have y70 : A.eval (.tmp 70) = _ := Eq.trans (hf 70) (by conv => lhs; simp [go_sem])
        have y71 : A.eval (.tmp 71) = _ := Eq.trans (hf 71) (by conv => lhs; simp [go_sem])
        have y72 : A.eval (.tmp 72) = _ := Eq.trans (hf 72) (by conv => lhs; simp [go_sem])
        have y73 : A.eval (.tmp 73) = _ := Eq.trans (hf 73) (by conv => lhs; simp [go_sem])
        have y74 : A.eval (.tmp 74) = _ := Eq.trans (hf 74) (by conv => lhs; simp [go_sem])
        have y75 : A.eval (.tmp 75) = _ := Eq.trans (hf 75) (by conv => lhs; simp [go_sem])
        have y76 : A.eval (.tmp 76) = _ := Eq.trans (hf 76) (by conv => lhs; simp [go_sem])
        have y77 : A.eval (.tmp 77) = _ := Eq.trans (hf 77) (by conv => lhs; simp [go_sem])
        have y78 : A.eval (.tmp 78) = _ := Eq.trans (hf 78) (by conv => lhs; simp [go_sem])
        have y79 : A.eval (.tmp 79) = _ := Eq.trans (hf 79) (by conv => lhs; simp [go_sem])
        have y80 : A.eval (.tmp 80) = _ := Eq.trans (hf 80) (by conv => lhs; simp [go_sem])
        have y81 : A.eval (.tmp 81) = _ := Eq.trans (hf 81) (by conv => lhs; simp [go_sem])
        have y82 : A.eval (.tmp 82) = _ := Eq.trans (hf 82) (by conv => lhs; simp [go_sem])
        have y83 : A.eval (.tmp 83) = _ := Eq.trans (hf 83) (by conv => lhs; simp [go_sem])
        have y84 : A.eval (.tmp 84) = _ := Eq.trans (hf 84) (by conv => lhs; simp [go_sem])
        have y85 : A.eval (.tmp 85) = _ := Eq.trans (hf 85) (by conv => lhs; simp [go_sem])
        have y86 : A.eval (.tmp 86) = _ := Eq.trans (hf 86) (by conv => lhs; simp [go_sem])
        have y87 : A.eval (.tmp 87) = _ := Eq.trans (hf 87) (by conv => lhs; simp [go_sem])
        have y88 : A.eval (.tmp 88) = _ := Eq.trans (hf 88) (by conv => lhs; simp [go_sem])
        have y89 : A.eval (.tmp 89) = _ := Eq.trans (hf 89) (by conv => lhs; simp [go_sem])
        have y90 : A.eval (.tmp 90) = _ := Eq.trans (hf 90) (by conv => lhs; simp [go_sem])
        have y91 : A.eval (.tmp 91) = _ := Eq.trans (hf 91) (by conv => lhs; simp [go_sem])
        have y92 : A.eval (.tmp 92) = _ := Eq.trans (hf 92) (by conv => lhs; simp [go_sem])
        have y93 : A.eval (.tmp 93) = _ := Eq.trans (hf 93) (by conv => lhs; simp [go_sem])
        have y94 : A.eval (.tmp 94) = _ := Eq.trans (hf 94) (by conv => lhs; simp [go_sem])
        have y95 : A.eval (.tmp 95) = _ := Eq.trans (hf 95) (by conv => lhs; simp [go_sem])
        have y96 : A.eval (.tmp 96) = _ := Eq.trans (hf 96) (by conv => lhs; simp [go_sem])
        have y97 : A.eval (.tmp 97) = _ := Eq.trans (hf 97) (by conv => lhs; simp [go_sem])
        have y98 : A.eval (.tmp 98) = _ := Eq.trans (hf 98) (by conv => lhs; simp [go_sem])
        have y99 : A.eval (.tmp 99) = _ := Eq.trans (hf 99) (by conv => lhs; simp [go_sem])
        have y100 : A.eval (.tmp 100) = _ := Eq.trans (hf 100) (by conv => lhs; simp [go_sem])
        have y101 : A.eval (.tmp 101) = _ := Eq.trans (hf 101) (by conv => lhs; simp [go_sem])
        have y102 : A.eval (.tmp 102) = _ := Eq.trans (hf 102) (by conv => lhs; simp [go_sem])
        have y103 : A.eval (.tmp 103) = _ := Eq.trans (hf 103) (by conv => lhs; simp [go_sem])
        have y104 : A.eval (.tmp 104) = _ := Eq.trans (hf 104) (by conv => lhs; simp [go_sem])
        clear hf
        have hA := frame_eq hn
        rw [show List.range 105 = [0, 1, 2, 3, 4, 5, 6, 7, 8, 9, 10, 11, 12, 13, 14, 15, 16, 17, 18, 19, 20, 21, 22, 23, 24, 25, 26, 27, 28, 29, 30, 31, 32, 33, 34, 35, 36, 37, 38, 39, 40, 41, 42, 43, 44, 45, 46, 47, 48, 49, 50, 51, 52, 53, 54, 55, 56, 57, 58, 59, 60, 61, 62, 63, 64, 65, 66, 67, 68, 69, 70, 71, 72, 73, 74, 75, 76, 77, 78, 79, 80, 81, 82, 83, 84, 85, 86, 87, 88, 89, 90, 91, 92, 93, 94, 95, 96, 97, 98, 99, 100, 101, 102, 103, 104] from rfl, hd] at hA
        simp only [List.map_cons, List.map_nil, y0, y1, y2, y3, y4, y5, y6, y7, y8, y9, y10, y11, y12, y13, y14, y15, y16, y17, y18, y19, y20, y21, y22, y23, y24, y25, y26, y27, y28, y29, y30, y31, y32, y33, y34, y35, y36, y37, y38, y39, y40, y41, y42, y43, y44, y45, y46, y47, y48, y49, y50, y51, y52, y53, y54, y55, y56, y57, y58, y59, y60, y61, y62, y63, y64, y65, y66, y67, y68, y69, y70, y71, y72, y73, y74, y75, y76, y77, y78, y79, y80, y81, y82, y83, y84, y85, y86, y87, y88, y89, y90, y91, y92, y93, y94, y95, y96, y97, y98, y99, y100, y101, y102, y103, y104] at hA
        clear y0 y1 y2 y3 y4 y5 y6 y7 y8 y9 y10 y11 y12 y13 y14 y15 y16 y17 y18 y19 y20 y21 y22 y23 y24 y25 y26 y27 y28 y29 y30 y31 y32 y33 y34 y35 y36 y37 y38 y39 y40 y41 y42 y43 y44 y45 y46 y47 y48 y49 y50 y51 y52 y53 y54 y55 y56 y57 y58 y59 y60 y61 y62 y63 y64 y65 y66 y67 y68 y69 y70 y71 y72 y73 y74 y75 y76 y77 y78 y79 y80 y81 y82 y83 y84 y85 y86 y87 y88 y89 y90 y91 y92 y93 y94 y95 y96 y97 y98 y99 y100 y101 y102 y103 y104
        clear hn hd
        subst hA
        replace HBX := Lib.hid (HBX.out.trans (hC.mono HBX.out.size))
        clear hC kc
        have hEq := fun W => neqVW y y W
        rw [show eqVw y y = true from eqVw_iff.2 rfl] at hEq
        have kc : ∀ w', Below U5.heap.size U5 w' → C7 w' b2 (off + k * 7) y ∧ C7 w' b4 (off4 + k * 7) y := fun w' hb => by
          have hb9 := HBX.out.trans (hb.mono HBX.out.size)
          have h1 := (H0.out.below hb9).all hlt
          have h2 := (HM.out.below hb9).all (show k < M.length by rw [HML.out]; exact hlt)
          rw [HY.out] at h1
          rw [HZ.out] at h2
          exact ⟨h1.2, h2.2⟩
        simp only [C7] at kc
        go_upto_region 10 with (fail)
        refine wp_region_typed (C := fun w' => Below U5.heap.size U5 w') (X := fun w w' => Below w.heap.size w w') (n := 105) (by kernel_rfl) (by kernel_rfl) rfl (fun w => Below.refl _ w) (Below.refl _ _).drew ?_
        refine w_is (fun w => Below.refl _ w) _ (.inl rfl) (fun ρ w hC hc hfn hf => by have e9 : ρ (.tmp 9) = _ := hf 9 (by decide); (conv => lhs; simp [execOp, go_sem, hc, e9])) ?_
        refine w_is (fun w => Below.refl _ w) _ (.inl rfl) (fun ρ w hC hc hfn hf => by have e61 : ρ (.tmp 61) = _ := hf 61 (by decide); (conv => lhs; simp [execOp, go_sem, hc, e61])) ?_
        refine w_skip rfl rfl (known_is rfl) ?_
        refine w_skip rfl rfl (known_is rfl) ?_
        refine w_skip rfl rfl (known_is rfl) ?_
        refine w_skip rfl rfl (known_is rfl) ?_
        refine w_skip rfl rfl (known_is rfl) ?_
        refine w_skip rfl rfl (known_is rfl) ?_
        refine w_skip rfl rfl (known_is rfl) ?_
        refine w_skip rfl rfl (known_is rfl) ?_
        refine w_skip rfl rfl (known_is rfl) ?_
        refine w_skip rfl rfl (known_is rfl) ?_
        refine w_skip rfl rfl (known_is rfl) ?_
        refine w_skip rfl rfl (known_is rfl) ?_
        refine w_is (fun w => Below.refl _ w) _ (.inl rfl) (fun ρ w hC hc hfn hf => by have e62 : ρ (.tmp 62) = _ := hf 62 (by decide); have e74 : ρ (.tmp 74) = _ := hf 74 (by decide); (conv => lhs; simp [execOp, go_sem, hc, e62, e74])) ?_
        refine w_is (fun w => Below.refl _ w) _ (.inl rfl) (fun ρ w hC hc hfn hf => by have e75 : ρ (.tmp 75) = _ := hf 75 (by decide); (conv => lhs; simp [execOp, go_sem, hc, e75])) ?_
        refine w_is (fun w => Below.refl _ w) _ (.inr ⟨15, 76, false, rfl, rfl, known_is rfl⟩) (fun ρ w hC hc hfn hf => by have e9 : ρ (.tmp 9) = _ := hf 9 (by decide); (conv => lhs; simp [execOp, go_sem, hc, e9])) ?_
        refine w_is (fun w => Below.refl _ w) _ (.inr ⟨15, 76, false, rfl, rfl, known_is rfl⟩) (fun ρ w hC hc hfn hf => by have e77 : ρ (.tmp 77) = _ := hf 77 (by decide); (conv => lhs; simp [execOp, go_sem, hc, e77])) ?_
        refine w_is (fun w => Below.refl _ w) _ (.inr ⟨15, 76, false, rfl, rfl, known_is rfl⟩) (fun ρ w hC hc hfn hf => by have e78 : ρ (.tmp 78) = _ := hf 78 (by decide); (conv => lhs; simp [execOp, go_sem, hc, e78])) ?_
        refine w_is (fun w => Below.refl _ w) _ (.inr ⟨18, 79, true, rfl, rfl, known_is rfl⟩) (fun ρ w hC hc hfn hf => by have e7 : ρ (.tmp 7) = _ := hf 7 (by decide); (conv => lhs; simp [execOp, go_sem, hc, e7])) ?_
        refine w_is (fun w => Below.refl _ w) _ (.inr ⟨18, 79, true, rfl, rfl, known_is rfl⟩) (fun ρ w hC hc hfn hf => by have e8 : ρ (.tmp 8) = _ := hf 8 (by decide); (conv => lhs; simp [execOp, go_sem, hc, e8])) ?_
        refine w_is (fun w => Below.refl _ w) _ (.inr ⟨18, 79, true, rfl, rfl, known_is rfl⟩) (fun ρ w hC hc hfn hf => by have e80 : ρ (.tmp 80) = _ := hf 80 (by decide); have e81 : ρ (.tmp 81) = _ := hf 81 (by decide); (conv => lhs; simp [execOp, go_sem, hc, e80, e81, hlt])) ?_
        refine w_is (fun w => Below.refl _ w) _ (.inr ⟨18, 79, true, rfl, rfl, known_is rfl⟩) (fun ρ w hC hc hfn hf => by have e82 : ρ (.tmp 82) = _ := hf 82 (by decide); (conv => lhs; simp [execOp, go_sem, hc, e82, kc w hC])) ?_
        refine w_is (fun w => Below.refl _ w) _ (.inr ⟨18, 79, true, rfl, rfl, known_is rfl⟩) (fun ρ w hC hc hfn hf => by have e0 : ρ (.tmp 0) = _ := hf 0 (by decide); (conv => lhs; simp [execOp, go_sem, hc, e0])) ?_
        refine w_is (fun w => Below.refl _ w) _ (.inr ⟨18, 79, true, rfl, rfl, known_is rfl⟩) (fun ρ w hC hc hfn hf => by have e8 : ρ (.tmp 8) = _ := hf 8 (by decide); (conv => lhs; simp [execOp, go_sem, hc, e8])) ?_
        refine w_is (fun w => Below.refl _ w) _ (.inr ⟨18, 79, true, rfl, rfl, known_is rfl⟩) (fun ρ w hC hc hfn hf => by have e84 : ρ (.tmp 84) = _ := hf 84 (by decide); have e85 : ρ (.tmp 85) = _ := hf 85 (by decide); (conv => lhs; simp [execOp, go_sem, hc, e84, e85, hlt])) ?_
        refine w_is (fun w => Below.refl _ w) _ (.inr ⟨18, 79, true, rfl, rfl, known_is rfl⟩) (fun ρ w hC hc hfn hf => by have e86 : ρ (.tmp 86) = _ := hf 86 (by decide); (conv => lhs; simp [execOp, go_sem, hc, e86, kc w hC])) ?_
        refine w_is (fun w => Below.refl _ w) _ (.inr ⟨18, 79, true, rfl, rfl, known_is rfl⟩) (fun ρ w hC hc hfn hf => by have e83 : ρ (.tmp 83) = _ := hf 83 (by decide); have e87 : ρ (.tmp 87) = _ := hf 87 (by decide); (conv => lhs; simp [execOp, go_sem, hc, e83, e87, hEq w, guardVW])) ?_
        refine w_is (fun w => Below.refl _ w) _ (.inr ⟨15, 76, false, rfl, rfl, known_is rfl⟩) (fun ρ w hC hc hfn hf => by have e79 : ρ (.tmp 79) = _ := hf 79 (by decide); have e88 : ρ (.tmp 88) = _ := hf 88 (by decide); (conv => lhs; simp [execOp, go_sem, hc, e79, e88])) ?_
        refine w_is (fun w => Below.refl _ w) _ (.inl rfl) (fun ρ w hC hc hfn hf => by have e76 : ρ (.tmp 76) = _ := hf 76 (by decide); have e89 : ρ (.tmp 89) = _ := hf 89 (by decide); (conv => lhs; simp [execOp, go_sem, hc, e76, e89])) ?_
        intro A U6 hC hn hd hf
        have y0 : A.eval (.tmp 0) = _ := Eq.trans (hf 0) (by conv => lhs; simp [go_sem])
        have y1 : A.eval (.tmp 1) = _ := Eq.trans (hf 1) (by conv => lhs; simp [go_sem])
        have y2 : A.eval (.tmp 2) = _ := Eq.trans (hf 2) (by conv => lhs; simp [go_sem])
        have y3 : A.eval (.tmp 3) = _ := Eq.trans (hf 3) (by conv => lhs; simp [go_sem])
        have y4 : A.eval (.tmp 4) = _ := Eq.trans (hf 4) (by conv => lhs; simp [go_sem])
        have y5 : A.eval (.tmp 5) = _ := Eq.trans (hf 5) (by conv => lhs; simp [go_sem])
        have y6 : A.eval (.tmp 6) = _ := Eq.trans (hf 6) (by conv => lhs; simp [go_sem])
        have y7 : A.eval (.tmp 7) = _ := Eq.trans (hf 7) (by conv => lhs; simp [go_sem])
        have y8 : A.eval (.tmp 8) = _ := Eq.trans (hf 8) (by conv => lhs; simp [go_sem])
        have y9 : A.eval (.tmp 9) = _ := Eq.trans (hf 9) (by conv => lhs; simp [go_sem])
        have y10 : A.eval (.tmp 10) = _ := Eq.trans (hf 10) (by conv => lhs; simp [go_sem])
        have y11 : A.eval (.tmp 11) = _ := Eq.trans (hf 11) (by conv => lhs; simp [go_sem])
        have y12 : A.eval (.tmp 12) = _ := Eq.trans (hf 12) (by conv => lhs; simp [go_sem])
        have y13 : A.eval (.tmp 13) = _ := Eq.trans (hf 13) (by conv => lhs; simp [go_sem])
        have y14 : A.eval (.tmp 14) = _ := Eq.trans (hf 14) (by conv => lhs; simp [go_sem])
        have y15 : A.eval (.tmp 15) = _ := Eq.trans (hf 15) (by conv => lhs; simp [go_sem])
        have y16 : A.eval (.tmp 16) = _ := Eq.trans (hf 16) (by conv => lhs; simp [go_sem])
        have y17 : A.eval (.tmp 17) = _ := Eq.trans (hf 17) (by conv => lhs; simp [go_sem])
        have y18 : A.eval (.tmp 18) = _ := Eq.trans (hf 18) (by conv => lhs; simp [go_sem])
        have y19 : A.eval (.tmp 19) = _ := Eq.trans (hf 19) (by conv => lhs; simp [go_sem])
        have y20 : A.eval (.tmp 20) = _ := Eq.trans (hf 20) (by conv => lhs; simp [go_sem])
        have y21 : A.eval (.tmp 21) = _ := Eq.trans (hf 21) (by conv => lhs; simp [go_sem])
        have y22 : A.eval (.tmp 22) = _ := Eq.trans (hf 22) (by conv => lhs; simp [go_sem])
        have y23 : A.eval (.tmp 23) = _ := Eq.trans (hf 23) (by conv => lhs; simp [go_sem])
        have y24 : A.eval (.tmp 24) = _ := Eq.trans (hf 24) (by conv => lhs; simp [go_sem])
        have y25 : A.eval (.tmp 25) = _ := Eq.trans (hf 25) (by conv => lhs; simp [go_sem])
        have y26 : A.eval (.tmp 26) = _ := Eq.trans (hf 26) (by conv => lhs; simp [go_sem])
        have y27 : A.eval (.tmp 27) = _ := Eq.trans (hf 27) (by conv => lhs; simp [go_sem])
        have y28 : A.eval (.tmp 28) = _ := Eq.trans (hf 28) (by conv => lhs; simp [go_sem])
        have y29 : A.eval (.tmp 29) = _ := Eq.trans (hf 29) (by conv => lhs; simp [go_sem])
        have y30 : A.eval (.tmp 30) = _ := Eq.trans (hf 30) (by conv => lhs; simp [go_sem])
        have y31 : A.eval (.tmp 31) = _ := Eq.trans (hf 31) (by conv => lhs; simp [go_sem])
        have y32 : A.eval (.tmp 32) = _ := Eq.trans (hf 32) (by conv => lhs; simp [go_sem])
        have y33 : A.eval (.tmp 33) = _ := Eq.trans (hf 33) (by conv => lhs; simp [go_sem])
        have y34 : A.eval (.tmp 34) = _ := Eq.trans (hf 34) (by conv => lhs; simp [go_sem])
        have y35 : A.eval (.tmp 35) = _ := Eq.trans (hf 35) (by conv => lhs; simp [go_sem])
        have y36 : A.eval (.tmp 36) = _ := Eq.trans (hf 36) (by conv => lhs; simp [go_sem])
        have y37 : A.eval (.tmp 37) = _ := Eq.trans (hf 37) (by conv => lhs; simp [go_sem])
        have y38 : A.eval (.tmp 38) = _ := Eq.trans (hf 38) (by conv => lhs; simp [go_sem])
        have y39 : A.eval (.tmp 39) = _ := Eq.trans (hf 39) (by conv => lhs; simp [go_sem])
        have y40 : A.eval (.tmp 40) = _ := Eq.trans (hf 40) (by conv => lhs; simp [go_sem])
        have y41 : A.eval (.tmp 41) = _ := Eq.trans (hf 41) (by conv => lhs; simp [go_sem])
        have y42 : A.eval (.tmp 42) = _ := Eq.trans (hf 42) (by conv => lhs; simp [go_sem])
        have y43 : A.eval (.tmp 43) = _ := Eq.trans (hf 43) (by conv => lhs; simp [go_sem])
        have y44 : A.eval (.tmp 44) = _ := Eq.trans (hf 44) (by conv => lhs; simp [go_sem])
        have y45 : A.eval (.tmp 45) = _ := Eq.trans (hf 45) (by conv => lhs; simp [go_sem])
        have y46 : A.eval (.tmp 46) = _ := Eq.trans (hf 46) (by conv => lhs; simp [go_sem])
        have y47 : A.eval (.tmp 47) = _ := Eq.trans (hf 47) (by conv => lhs; simp [go_sem])
        have y48 : A.eval (.tmp 48) = _ := Eq.trans (hf 48) (by conv => lhs; simp [go_sem])
        have y49 : A.eval (.tmp 49) = _ := Eq.trans (hf 49) (by conv => lhs; simp [go_sem])
        have y50 : A.eval (.tmp 50) = _ := Eq.trans (hf 50) (by conv => lhs; simp [go_sem])
        have y51 : A.eval (.tmp 51) = _ := Eq.trans (hf 51) (by conv => lhs; simp [go_sem])
        have y52 : A.eval (.tmp 52) = _ := Eq.trans (hf 52) (by conv => lhs; simp [go_sem])
        have y53 : A.eval (.tmp 53) = _ := Eq.trans (hf 53) (by conv => lhs; simp [go_sem])
        have y54 : A.eval (.tmp 54) = _ := Eq.trans (hf 54) (by conv => lhs; simp [go_sem])
        have y55 : A.eval (.tmp 55) = _ := Eq.trans (hf 55) (by conv => lhs; simp [go_sem])
        have y56 : A.eval (.tmp 56) = _ := Eq.trans (hf 56) (by conv => lhs; simp [go_sem])
        have y57 : A.eval (.tmp 57) = _ := Eq.trans (hf 57) (by conv => lhs; simp [go_sem])
        have y58 : A.eval (.tmp 58) = _ := Eq.trans (hf 58) (by conv => lhs; simp [go_sem])
        have y59 : A.eval (.tmp 59) = _ := Eq.trans (hf 59) (by conv => lhs; simp [go_sem])
        have y60 : A.eval (.tmp 60) = _ := Eq.trans (hf 60) (by conv => lhs; simp [go_sem])
        have y61 : A.eval (.tmp 61) = _ := hf 61
        have y62 : A.eval (.tmp 62) = _ := hf 62
        have y63 : A.eval (.tmp 63) = _ := hf 63
        have y64 : A.eval (.tmp 64) = _ := hf 64
        have y65 : A.eval (.tmp 65) = _ := hf 65
        have y66 : A.eval (.tmp 66) = _ := hf 66
        have y67 : A.eval (.tmp 67) = _ := hf 67
        have y68 : A.eval (.tmp 68) = _ := hf 68
        have y69 : A.eval (.tmp 69) = _ := hf 69
        have y70 : A.eval (.tmp 70) = _ := hf 70
        have y71 : A.eval (.tmp 71) = _ := hf 71
        have y72 : A.eval (.tmp 72) = _ := hf 72
        have y73 : A.eval (.tmp 73) = _ := hf 73
        have y74 : A.eval (.tmp 74) = _ := hf 74
        have y75 : A.eval (.tmp 75) = _ := hf 75
        have y76 : A.eval (.tmp 76) = _ := hf 76
        have y77 : A.eval (.tmp 77) = _ := hf 77
        have y78 : A.eval (.tmp 78) = _ := hf 78
        have y79 : A.eval (.tmp 79) = _ := hf 79
        have y80 : A.eval (.tmp 80) = _ := hf 80
        have y81 : A.eval (.tmp 81) = _ := hf 81
        have y82 : A.eval (.tmp 82) = _ := hf 82
        have y83 : A.eval (.tmp 83) = _ := hf 83
        have y84 : A.eval (.tmp 84) = _ := hf 84
        have y85 : A.eval (.tmp 85) = _ := hf 85
        have y86 : A.eval (.tmp 86) = _ := hf 86
        have y87 : A.eval (.tmp 87) = _ := hf 87
        have y88 : A.eval (.tmp 88) = _ := hf 88
        have y89 : A.eval (.tmp 89) = _ := hf 89
        have y90 : A.eval (.tmp 90) = _ := hf 90
        have y91 : A.eval (.tmp 91) = _ := Eq.trans (hf 91) (by conv => lhs; simp [go_sem])
        have y92 : A.eval (.tmp 92) = _ := Eq.trans (hf 92) (by conv => lhs; simp [go_sem])
        have y93 : A.eval (.tmp 93) = _ := Eq.trans (hf 93) (by conv => lhs; simp [go_sem])
        have y94 : A.eval (.tmp 94) = _ := Eq.trans (hf 94) (by conv => lhs; simp [go_sem])
        have y95 : A.eval (.tmp 95) = _ := Eq.trans (hf 95) (by conv => lhs; simp [go_sem])
        have y96 : A.eval (.tmp 96) = _ := Eq.trans (hf 96) (by conv => lhs; simp [go_sem])
        have y97 : A.eval (.tmp 97) = _ := Eq.trans (hf 97) (by conv => lhs; simp [go_sem])
        have y98 : A.eval (.tmp 98) = _ := Eq.trans (hf 98) (by conv => lhs; simp [go_sem])
        have y99 : A.eval (.tmp 99) = _ := Eq.trans (hf 99) (by conv => lhs; simp [go_sem])
        have y100 : A.eval (.tmp 100) = _ := Eq.trans (hf 100) (by conv => lhs; simp [go_sem])
        have y101 : A.eval (.tmp 101) = _ := Eq.trans (hf 101) (by conv => lhs; simp [go_sem])
        have y102 : A.eval (.tmp 102) = _ := Eq.trans (hf 102) (by conv => lhs; simp [go_sem])
        have y103 : A.eval (.tmp 103) = _ := Eq.trans (hf 103) (by conv => lhs; simp [go_sem])
        have y104 : A.eval (.tmp 104) = _ := Eq.trans (hf 104) (by conv => lhs; simp [go_sem])
        clear hf
        have hA := frame_eq hn
        rw [show List.range 105 = [0, 1, 2, 3, 4, 5, 6, 7, 8, 9, 10, 11, 12, 13, 14, 15, 16, 17, 18, 19, 20, 21, 22, 23, 24, 25, 26, 27, 28, 29, 30, 31, 32, 33, 34, 35, 36, 37, 38, 39, 40, 41, 42, 43, 44, 45, 46, 47, 48, 49, 50, 51, 52, 53, 54, 55, 56, 57, 58, 59, 60, 61, 62, 63, 64, 65, 66, 67, 68, 69, 70, 71, 72, 73, 74, 75, 76, 77, 78, 79, 80, 81, 82, 83, 84, 85, 86, 87, 88, 89, 90, 91, 92, 93, 94, 95, 96, 97, 98, 99, 100, 101, 102, 103, 104] from rfl, hd] at hA
        simp only [List.map_cons, List.map_nil, y0, y1, y2, y3, y4, y5, y6, y7, y8, y9, y10, y11, y12, y13, y14, y15, y16, y17, y18, y19, y20, y21, y22, y23, y24, y25, y26, y27, y28, y29, y30, y31, y32, y33, y34, y35, y36, y37, y38, y39, y40, y41, y42, y43, y44, y45, y46, y47, y48, y49, y50, y51, y52, y53, y54, y55, y56, y57, y58, y59, y60, y61, y62, y63, y64, y65, y66, y67, y68, y69, y70, y71, y72, y73, y74, y75, y76, y77, y78, y79, y80, y81, y82, y83, y84, y85, y86, y87, y88, y89, y90, y91, y92, y93, y94, y95, y96, y97, y98, y99, y100, y101, y102, y103, y104] at hA
        clear y0 y1 y2 y3 y4 y5 y6 y7 y8 y9 y10 y11 y12 y13 y14 y15 y16 y17 y18 y19 y20 y21 y22 y23 y24 y25 y26 y27 y28 y29 y30 y31 y32 y33 y34 y35 y36 y37 y38 y39 y40 y41 y42 y43 y44 y45 y46 y47 y48 y49 y50 y51 y52 y53 y54 y55 y56 y57 y58 y59 y60 y61 y62 y63 y64 y65 y66 y67 y68 y69 y70 y71 y72 y73 y74 y75 y76 y77 y78 y79 y80 y81 y82 y83 y84 y85 y86 y87 y88 y89 y90 y91 y92 y93 y94 y95 y96 y97 y98 y99 y100 y101 y102 y103 y104
        clear hn hd
        subst hA
        replace HBX := Lib.hid (HBX.out.trans (hC.mono HBX.out.size))
        clear hC kc
        go_wp2_with fail
        go_roundw
        case rel => exact ⟨k + 1, by omega, by go_num, HBX.out⟩
        case measure => simp [intOf]; omega
      | false =>
        have htl : tld y.2 = true := by
          have := HY1.out.2.2.1
          unfold hOk at this
          unfold tld told
          rw [decide_eq_true this, hn]
          rfl
        have cL := fun W => level_any y.2.1 y.2.2.1 y.2.2.2.1 y.2.2.2.2.1 y.2.2.2.2.2.1 y.2.2.2.2.2.2 W
        unfold levV at cL
        rw [if_pos (show told y.2.1 y.2.2.1 y.2.2.2.1 y.2.2.2.2.1 y.2.2.2.2.2.1 y.2.2.2.2.2.2 = true from htl)] at cL
        have cO := fun W => order_any y.2.2.1 y.2.2.2.1 y.2.2.2.2.1 lv1.1 lv1.2.1 lv1.2.2 W
        obtain ⟨o, ho⟩ : ∃ o, ordL y.2.2.1 y.2.2.2.1 y.2.2.2.2.1 lv1.1 lv1.2.1 lv1.2.2 = o := ⟨_, rfl⟩
        rw [ho] at cO
        have hoz := ordL_zero y.2.2.1 y.2.2.2.1 y.2.2.2.2.1 lv1.1 lv1.2.1 lv1.2.2
        rw [ho] at hoz
        have HOZ := Lib.hid hoz
        clear ho hoz
        by_cases h0 : o = 0
        · have q0 : (o == 0) = true := by simpa using h0
          have HO0 := Lib.hid h0
          clear h0
          by_cases hk_ : y.1 = a2
          · have q1 : (y.1 != a2) = false := by simpa using hk_
            have HKK := Lib.hid hk_
            clear hk_
            have hz : z = y := by rw [hzy]; unfold fgt; rw [if_neg (fun h => h.1 HKK.out)]
            rw [hz] at HZ
            clear hz hzy
            go_upto_region 9 with (fail)
            refine wp_region_typed (C := fun w' => Below wr.heap.size wr w') (X := fun w w' => Below w.heap.size w w') (n := 105) (by kernel_rfl) (by kernel_rfl) rfl (fun w => Below.refl _ w) (Below.refl _ _).drew ?_
            refine w_is (fun w => Below.refl _ w) _ (.inl rfl) (fun ρ w hC hc hfn hf => by have e0 : ρ (.tmp 0) = _ := hf 0 (by decide); (conv => lhs; simp [execOp, go_sem, hc, e0])) ?_
            refine w_is (fun w => Below.refl _ w) _ (.inl rfl) (fun ρ w hC hc hfn hf => by have e8 : ρ (.tmp 8) = _ := hf 8 (by decide); (conv => lhs; simp [execOp, go_sem, hc, e8])) ?_
            refine w_is (fun w => Below.refl _ w) _ (.inl rfl) (fun ρ w hC hc hfn hf => by have e34 : ρ (.tmp 34) = _ := hf 34 (by decide); have e35 : ρ (.tmp 35) = _ := hf 35 (by decide); (conv => lhs; simp [execOp, go_sem, hc, e34, e35, hlt])) ?_
            refine w_is (fun w => Below.refl _ w) _ (.inl rfl) (fun ρ w hC hc hfn hf => by have e36 : ρ (.tmp 36) = _ := hf 36 (by decide); (conv => lhs; simp [execOp, go_sem, hc, e36])) ?_
            refine w_is (fun w => Below.refl _ w) _ (.inl rfl) (fun ρ w hC hc hfn hf => by have e37 : ρ (.tmp 37) = _ := hf 37 (by decide); (conv => lhs; simp [execOp, go_sem, hc, e37])) ?_
            refine w_is (fun w => Below.refl _ w) _ (.inl rfl) (fun ρ w hC hc hfn hf => by have e38 : ρ (.tmp 38) = _ := hf 38 (by decide); (conv => lhs; simp [execOp, go_sem, hc, e38, hn, kc w hC])) ?_
            refine w_is (fun w => Below.refl _ w) _ (.inl rfl) (fun ρ w hC hc hfn hf => by have e39 : ρ (.tmp 39) = _ := hf 39 (by decide); (conv => lhs; simp [execOp, go_sem, hc, e39, hn])) ?_
            refine w_is (fun w => Below.refl _ w) _ (.inl rfl) (fun ρ w hC hc hfn hf => by have e40 : ρ (.tmp 40) = _ := hf 40 (by decide); (conv => lhs; simp [execOp, go_sem, hc, e40])) ?_
            refine w_is (fun w => Below.refl _ w) _ (.inr ⟨7, 41, true, rfl, rfl, known_is rfl⟩) (fun ρ w hC hc hfn hf => by have e0 : ρ (.tmp 0) = _ := hf 0 (by decide); (conv => lhs; simp [execOp, go_sem, hc, e0])) ?_
            refine w_is (fun w => Below.refl _ w) _ (.inr ⟨7, 41, true, rfl, rfl, known_is rfl⟩) (fun ρ w hC hc hfn hf => by have e8 : ρ (.tmp 8) = _ := hf 8 (by decide); (conv => lhs; simp [execOp, go_sem, hc, e8])) ?_
            refine w_is (fun w => Below.refl _ w) _ (.inr ⟨7, 41, true, rfl, rfl, known_is rfl⟩) (fun ρ w hC hc hfn hf => by have e42 : ρ (.tmp 42) = _ := hf 42 (by decide); have e43 : ρ (.tmp 43) = _ := hf 43 (by decide); (conv => lhs; simp [execOp, go_sem, hc, e42, e43, hlt])) ?_
            refine w_is (fun w => Below.refl _ w) _ (.inr ⟨7, 41, true, rfl, rfl, known_is rfl⟩) (fun ρ w hC hc hfn hf => by have e44 : ρ (.tmp 44) = _ := hf 44 (by decide); (conv => lhs; simp [execOp, go_sem, hc, e44])) ?_
            refine w_is (fun w => Below.refl _ w) _ (.inr ⟨7, 41, true, rfl, rfl, known_is rfl⟩) (fun ρ w hC hc hfn hf => by have e45 : ρ (.tmp 45) = _ := hf 45 (by decide); (conv => lhs; simp [execOp, go_sem, hc, e45, kc w hC])) ?_
            refine w_call (Is _) (fun _ _ _ h _ => h) 32 (.inr ⟨7, 41, true, rfl, rfl, known_is rfl⟩) (fun ρ w hC hc hfn hf => by have e46 : ρ (.tmp 46) = _ := hf 46 (by decide); exact ⟨_, by (conv => lhs; simp [execOp, resolve, invoke, go_sem, hc, hfn, e46]), tc_below hC (cL w)⟩) ?_
            refine w_is (fun w => Below.refl _ w) _ (.inr ⟨7, 41, true, rfl, rfl, known_is rfl⟩) (fun ρ w hC hc hfn hf => by have e4 : ρ (.tmp 4) = _ := hf 4 (by decide); (conv => lhs; simp [execOp, go_sem, hc, e4, kc w hC])) ?_
            refine w_call (Is _) (fun _ _ _ h _ => h) 31 (.inr ⟨7, 41, true, rfl, rfl, known_is rfl⟩) (fun ρ w hC hc hfn hf => by have e47 : ρ (.tmp 47) = _ := hf 47 (by decide); have e48 : ρ (.tmp 48) = _ := hf 48 (by decide); exact ⟨_, by (conv => lhs; simp [execOp, resolve, invoke, go_sem, hc, hfn, e47, e48]), tc_below hC (cO w)⟩) ?_
            refine w_is (fun w => Below.refl _ w) _ (.inr ⟨7, 41, true, rfl, rfl, known_is rfl⟩) (fun ρ w hC hc hfn hf => by have e49 : ρ (.tmp 49) = _ := hf 49 (by decide); (conv => lhs; simp [execOp, go_sem, hc, e49, q0])) ?_
            refine w_is (fun w => Below.refl _ w) _ (.inl rfl) (fun ρ w hC hc hfn hf => by have e41 : ρ (.tmp 41) = _ := hf 41 (by decide); have e50 : ρ (.tmp 50) = _ := hf 50 (by decide); (conv => lhs; simp [execOp, go_sem, hc, e41, e50])) ?_
            refine w_is (fun w => Below.refl _ w) _ (.inl rfl) (fun ρ w hC hc hfn hf => by have e51 : ρ (.tmp 51) = _ := hf 51 (by decide); (conv => lhs; simp [execOp, go_sem, hc, e51])) ?_
            refine w_is (fun w => Below.refl _ w) _ (.inr ⟨18, 52, true, rfl, rfl, known_is rfl⟩) (fun ρ w hC hc hfn hf => by have e0 : ρ (.tmp 0) = _ := hf 0 (by decide); (conv => lhs; simp [execOp, go_sem, hc, e0])) ?_
            refine w_is (fun w => Below.refl _ w) _ (.inr ⟨18, 52, true, rfl, rfl, known_is rfl⟩) (fun ρ w hC hc hfn hf => by have e8 : ρ (.tmp 8) = _ := hf 8 (by decide); (conv => lhs; simp [execOp, go_sem, hc, e8])) ?_
            refine w_is (fun w => Below.refl _ w) _ (.inr ⟨18, 52, true, rfl, rfl, known_is rfl⟩) (fun ρ w hC hc hfn hf => by have e53 : ρ (.tmp 53) = _ := hf 53 (by decide); have e54 : ρ (.tmp 54) = _ := hf 54 (by decide); (conv => lhs; simp [execOp, go_sem, hc, e53, e54, hlt])) ?_
            refine w_is (fun w => Below.refl _ w) _ (.inr ⟨18, 52, true, rfl, rfl, known_is rfl⟩) (fun ρ w hC hc hfn hf => by have e55 : ρ (.tmp 55) = _ := hf 55 (by decide); (conv => lhs; simp [execOp, go_sem, hc, e55])) ?_
            refine w_is (fun w => Below.refl _ w) _ (.inr ⟨18, 52, true, rfl, rfl, known_is rfl⟩) (fun ρ w hC hc hfn hf => by have e56 : ρ (.tmp 56) = _ := hf 56 (by decide); (conv => lhs; simp [execOp, go_sem, hc, e56, kc w hC])) ?_
            refine w_is (fun w => Below.refl _ w) _ (.inr ⟨18, 52, true, rfl, rfl, known_is rfl⟩) (fun ρ w hC hc hfn hf => by have e2 : ρ (.tmp 2) = _ := hf 2 (by decide); (conv => lhs; simp [execOp, go_sem, hc, e2])) ?_
            refine w_is (fun w => Below.refl _ w) _ (.inr ⟨18, 52, true, rfl, rfl, known_is rfl⟩) (fun ρ w hC hc hfn hf => by have e57 : ρ (.tmp 57) = _ := hf 57 (by decide); have e58 : ρ (.tmp 58) = _ := hf 58 (by decide); (conv => lhs; simp [execOp, go_sem, hc, e57, e58, q1])) ?_
            refine w_is (fun w => Below.refl _ w) _ (.inl rfl) (fun ρ w hC hc hfn hf => by have e52 : ρ (.tmp 52) = _ := hf 52 (by decide); have e59 : ρ (.tmp 59) = _ := hf 59 (by decide); (conv => lhs; simp [execOp, go_sem, hc, e52, e59])) ?_
            refine w_is (fun w => Below.refl _ w) _ (.inl rfl) (fun ρ w hC hc hfn hf => by have e60 : ρ (.tmp 60) = _ := hf 60 (by decide); (conv => lhs; simp [execOp, go_sem, hc, e60])) ?_
            intro A U5 hC hn hd hf
            have y0 : A.eval (.tmp 0) = _ := Eq.trans (hf 0) (by conv => lhs; simp [go_sem])
            have y1 : A.eval (.tmp 1) = _ := Eq.trans (hf 1) (by conv => lhs; simp [go_sem])
            have y2 : A.eval (.tmp 2) = _ := Eq.trans (hf 2) (by conv => lhs; simp [go_sem])
            have y3 : A.eval (.tmp 3) = _ := Eq.trans (hf 3) (by conv => lhs; simp [go_sem])
            have y4 : A.eval (.tmp 4) = _ := Eq.trans (hf 4) (by conv => lhs; simp [go_sem])
            have y5 : A.eval (.tmp 5) = _ := Eq.trans (hf 5) (by conv => lhs; simp [go_sem])
            have y6 : A.eval (.tmp 6) = _ := Eq.trans (hf 6) (by conv => lhs; simp [go_sem])
            have y7 : A.eval (.tmp 7) = _ := Eq.trans (hf 7) (by conv => lhs; simp [go_sem])
            have y8 : A.eval (.tmp 8) = _ := Eq.trans (hf 8) (by conv => lhs; simp [go_sem])
            have y9 : A.eval (.tmp 9) = _ := hf 9
            have y10 : A.eval (.tmp 10) = _ := Eq.trans (hf 10) (by conv => lhs; simp [go_sem])
            have y11 : A.eval (.tmp 11) = _ := Eq.trans (hf 11) (by conv => lhs; simp [go_sem])
            have y12 : A.eval (.tmp 12) = _ := Eq.trans (hf 12) (by conv => lhs; simp [go_sem])
            have y13 : A.eval (.tmp 13) = _ := Eq.trans (hf 13) (by conv => lhs; simp [go_sem])
            have y14 : A.eval (.tmp 14) = _ := Eq.trans (hf 14) (by conv => lhs; simp [go_sem])
            have y15 : A.eval (.tmp 15) = _ := Eq.trans (hf 15) (by conv => lhs; simp [go_sem])
            have y16 : A.eval (.tmp 16) = _ := Eq.trans (hf 16) (by conv => lhs; simp [go_sem])
            have y17 : A.eval (.tmp 17) = _ := Eq.trans (hf 17) (by conv => lhs; simp [go_sem])
            have y18 : A.eval (.tmp 18) = _ := Eq.trans (hf 18) (by conv => lhs; simp [go_sem])
            have y19 : A.eval (.tmp 19) = _ := Eq.trans (hf 19) (by conv => lhs; simp [go_sem])
            have y20 : A.eval (.tmp 20) = _ := Eq.trans (hf 20) (by conv => lhs; simp [go_sem])
            have y21 : A.eval (.tmp 21) = _ := Eq.trans (hf 21) (by conv => lhs; simp [go_sem])
            have y22 : A.eval (.tmp 22) = _ := Eq.trans (hf 22) (by conv => lhs; simp [go_sem])
            have y23 : A.eval (.tmp 23) = _ := Eq.trans (hf 23) (by conv => lhs; simp [go_sem])
            have y24 : A.eval (.tmp 24) = _ := Eq.trans (hf 24) (by conv => lhs; simp [go_sem])
            have y25 : A.eval (.tmp 25) = _ := Eq.trans (hf 25) (by conv => lhs; simp [go_sem])
            have y26 : A.eval (.tmp 26) = _ := Eq.trans (hf 26) (by conv => lhs; simp [go_sem])
            have y27 : A.eval (.tmp 27) = _ := Eq.trans (hf 27) (by conv => lhs; simp [go_sem])
            have y28 : A.eval (.tmp 28) = _ := Eq.trans (hf 28) (by conv => lhs; simp [go_sem])
            have y29 : A.eval (.tmp 29) = _ := Eq.trans (hf 29) (by conv => lhs; simp [go_sem])
            have y30 : A.eval (.tmp 30) = _ := Eq.trans (hf 30) (by conv => lhs; simp [go_sem])
            have y31 : A.eval (.tmp 31) = _ := Eq.trans (hf 31) (by conv => lhs; simp [go_sem])
            have y32 : A.eval (.tmp 32) = _ := Eq.trans (hf 32) (by conv => lhs; simp [go_sem])
            have y33 : A.eval (.tmp 33) = _ := Eq.trans (hf 33) (by conv => lhs; simp [go_sem])
            have y34 : A.eval (.tmp 34) = _ := hf 34
            have y35 : A.eval (.tmp 35) = _ := hf 35
            have y36 : A.eval (.tmp 36) = _ := hf 36
            have y37 : A.eval (.tmp 37) = _ := hf 37
            have y38 : A.eval (.tmp 38) = _ := hf 38
            have y39 : A.eval (.tmp 39) = _ := hf 39
            have y40 : A.eval (.tmp 40) = _ := hf 40
            have y41 : A.eval (.tmp 41) = _ := hf 41
            have y42 : A.eval (.tmp 42) = _ := hf 42
            have y43 : A.eval (.tmp 43) = _ := hf 43
            have y44 : A.eval (.tmp 44) = _ := hf 44
            have y45 : A.eval (.tmp 45) = _ := hf 45
            have y46 : A.eval (.tmp 46) = _ := hf 46
            have y47 : A.eval (.tmp 47) = _ := hf 47
            have y48 : A.eval (.tmp 48) = _ := hf 48
            have y49 : A.eval (.tmp 49) = _ := hf 49
            have y50 : A.eval (.tmp 50) = _ := hf 50
            have y51 : A.eval (.tmp 51) = _ := hf 51
            have y52 : A.eval (.tmp 52) = _ := hf 52
            have y53 : A.eval (.tmp 53) = _ := hf 53
            have y54 : A.eval (.tmp 54) = _ := hf 54
            have y55 : A.eval (.tmp 55) = _ := hf 55
            have y56 : A.eval (.tmp 56) = _ := hf 56
            have y57 : A.eval (.tmp 57) = _ := hf 57
            have y58 : A.eval (.tmp 58) = _ := hf 58
            have y59 : A.eval (.tmp 59) = _ := hf 59
            have y60 : A.eval (.tmp 60) = _ := hf 60
            have y61 : A.eval (.tmp 61) = _ := Eq.trans (hf 61) (by conv => lhs; simp [go_sem])
            have y62 : A.eval (.tmp 62) = _ := Eq.trans (hf 62) (by conv => lhs; simp [go_sem])
            have y63 : A.eval (.tmp 63) = _ := Eq.trans (hf 63) (by conv => lhs; simp [go_sem])
            have y64 : A.eval (.tmp 64) = _ := Eq.trans (hf 64) (by conv => lhs; simp [go_sem])
            have y65 : A.eval (.tmp 65) = _ := Eq.trans (hf 65) (by conv => lhs; simp [go_sem])
            have y66 : A.eval (.tmp 66) = _ := Eq.trans (hf 66) (by conv => lhs; simp [go_sem])
            have y67 : A.eval (.tmp 67) = _ := Eq.trans (hf 67) (by conv => lhs; simp [go_sem])
            have y68 : A.eval (.tmp 68) = _ := Eq.trans (hf 68) (by conv => lhs; simp [go_sem])
            have y69 : A.eval (.tmp 69) = _ := Eq.trans (hf 69) (by conv => lhs; simp [go_sem])
            have y70 : A.eval (.tmp 70) = _ := Eq.trans (hf 70) (by conv => lhs; simp [go_sem])
            have y71 : A.eval (.tmp 71) = _ := Eq.trans (hf 71) (by conv => lhs; simp [go_sem])
            have y72 : A.eval (.tmp 72) = _ := Eq.trans (hf 72) (by conv => lhs; simp [go_sem])
            have y73 : A.eval (.tmp 73) = _ := Eq.trans (hf 73) (by conv => lhs; simp [go_sem])
            have y74 : A.eval (.tmp 74) = _ := Eq.trans (hf 74) (by conv => lhs; simp [go_sem])
            have y75 : A.eval (.tmp 75) = _ := Eq.trans (hf 75) (by conv => lhs; simp [go_sem])
            have y76 : A.eval (.tmp 76) = _ := Eq.trans (hf 76) (by conv => lhs; simp [go_sem])
            have y77 : A.eval (.tmp 77) = _ := Eq.trans (hf 77) (by conv => lhs; simp [go_sem])
            have y78 : A.eval (.tmp 78) = _ := Eq.trans (hf 78) (by conv => lhs; simp [go_sem])
            have y79 : A.eval (.tmp 79) = _ := Eq.trans (hf 79) (by conv => lhs; simp [go_sem])
            have y80 : A.eval (.tmp 80) = _ := Eq.trans (hf 80) (by conv => lhs; simp [go_sem])
            have y81 : A.eval (.tmp 81) = _ := Eq.trans (hf 81) (by conv => lhs; simp [go_sem])
            have y82 : A.eval (.tmp 82) = _ := Eq.trans (hf 82) (by conv => lhs; simp [go_sem])
            have y83 : A.eval (.tmp 83) = _ := Eq.trans (hf 83) (by conv => lhs; simp [go_sem])
            have y84 : A.eval (.tmp 84) = _ := Eq.trans (hf 84) (by conv => lhs; simp [go_sem])
            have y85 : A.eval (.tmp 85) = _ := Eq.trans (hf 85) (by conv => lhs; simp [go_sem])
            have y86 : A.eval (.tmp 86) = _ := Eq.trans (hf 86) (by conv => lhs; simp [go_sem])
            have y87 : A.eval (.tmp 87) = _ := Eq.trans (hf 87) (by conv => lhs; simp [go_sem])
            have y88 : A.eval (.tmp 88) = _ := Eq.trans (hf 88) (by conv => lhs; simp [go_sem])
            have y89 : A.eval (.tmp 89) = _ := Eq.trans (hf 89) (by conv => lhs; simp [go_sem])
            have y90 : A.eval (.tmp 90) = _ := Eq.trans (hf 90) (by conv => lhs; simp [go_sem])
            have y91 : A.eval (.tmp 91) = _ := Eq.trans (hf 91) (by conv => lhs; simp [go_sem])
            have y92 : A.eval (.tmp 92) = _ := Eq.trans (hf 92) (by conv => lhs; simp [go_sem])
            have y93 : A.eval (.tmp 93) = _ := Eq.trans (hf 93) (by conv => lhs; simp [go_sem])
            have y94 : A.eval (.tmp 94) = _ := Eq.trans (hf 94) (by conv => lhs; simp [go_sem])
            have y95 : A.eval (.tmp 95) = _ := Eq.trans (hf 95) (by conv => lhs; simp [go_sem])
            have y96 : A.eval (.tmp 96) = _ := Eq.trans (hf 96) (by conv => lhs; simp [go_sem])
            have y97 : A.eval (.tmp 97) = _ := Eq.trans (hf 97) (by conv => lhs; simp [go_sem])
            have y98 : A.eval (.tmp 98) = _ := Eq.trans (hf 98) (by conv => lhs; simp [go_sem])
            have y99 : A.eval (.tmp 99) = _ := Eq.trans (hf 99) (by conv => lhs; simp [go_sem])
            have y100 : A.eval (.tmp 100) = _ := Eq.trans (hf 100) (by conv => lhs; simp [go_sem])
            have y101 : A.eval (.tmp 101) = _ := Eq.trans (hf 101) (by conv => lhs; simp [go_sem])
            have y102 : A.eval (.tmp 102) = _ := Eq.trans (hf 102) (by conv => lhs; simp [go_sem])
            have y103 : A.eval (.tmp 103) = _ := Eq.trans (hf 103) (by conv => lhs; simp [go_sem])
            have y104 : A.eval (.tmp 104) = _ := Eq.trans (hf 104) (by conv => lhs; simp [go_sem])
            clear hf
            have hA := frame_eq hn
            rw [show List.range 105 = [0, 1, 2, 3, 4, 5, 6, 7, 8, 9, 10, 11, 12, 13, 14, 15, 16, 17, 18, 19, 20, 21, 22, 23, 24, 25, 26, 27, 28, 29, 30, 31, 32, 33, 34, 35, 36, 37, 38, 39, 40, 41, 42, 43, 44, 45, 46, 47, 48, 49, 50, 51, 52, 53, 54, 55, 56, 57, 58, 59, 60, 61, 62, 63, 64, 65, 66, 67, 68, 69, 70, 71, 72, 73, 74, 75, 76, 77, 78, 79, 80, 81, 82, 83, 84, 85, 86, 87, 88, 89, 90, 91, 92, 93, 94, 95, 96, 97, 98, 99, 100, 101, 102, 103, 104] from rfl, hd] at hA
            simp only [List.map_cons, List.map_nil, y0, y1, y2, y3, y4, y5, y6, y7, y8, y9, y10, y11, y12, y13, y14, y15, y16, y17, y18, y19, y20, y21, y22, y23, y24, y25, y26, y27, y28, y29, y30, y31, y32, y33, y34, y35, y36, y37, y38, y39, y40, y41, y42, y43, y44, y45, y46, y47, y48, y49, y50, y51, y52, y53, y54, y55, y56, y57, y58, y59, y60, y61, y62, y63, y64, y65, y66, y67, y68, y69, y70, y71, y72, y73, y74, y75, y76, y77, y78, y79, y80, y81, y82, y83, y84, y85, y86, y87, y88, y89, y90, y91, y92, y93, y94, y95, y96, y97, y98, y99, y100, y101, y102, y103, y104] at hA
            clear y0 y1 y2 y3 y4 y5 y6 y7 y8 y9 y10 y11 y12 y13 y14 y15 y16 y17 y18 y19 y20 y21 y22 y23 y24 y25 y26 y27 y28 y29 y30 y31 y32 y33 y34 y35 y36 y37 y38 y39 y40 y41 y42 y43 y44 y45 y46 y47 y48 y49 y50 y51 y52 y53 y54 y55 y56 y57 y58 y59 y60 y61 y62 y63 y64 y65 y66 y67 y68 y69 y70 y71 y72 y73 y74 y75 y76 y77 y78 y79 y80 y81 y82 y83 y84 y85 y86 y87 y88 y89 y90 y91 y92 y93 y94 y95 y96 y97 y98 y99 y100 y101 y102 y103 y104
            clear hn hd
            subst hA
            replace HBX := Lib.hid (HBX.out.trans (hC.mono HBX.out.size))
            clear hC kc
            have hEq := fun W => neqVW y y W
            rw [show eqVw y y = true from eqVw_iff.2 rfl] at hEq
            have kc : ∀ w', Below U5.heap.size U5 w' → C7 w' b2 (off + k * 7) y ∧ C7 w' b4 (off4 + k * 7) y := fun w' hb => by
              have hb9 := HBX.out.trans (hb.mono HBX.out.size)
              have h1 := (H0.out.below hb9).all hlt
              have h2 := (HM.out.below hb9).all (show k < M.length by rw [HML.out]; exact hlt)
              rw [HY.out] at h1
              rw [HZ.out] at h2
              exact ⟨h1.2, h2.2⟩
            simp only [C7] at kc
            go_upto_region 10 with (fail)
            refine wp_region_typed (C := fun w' => Below U5.heap.size U5 w') (X := fun w w' => Below w.heap.size w w') (n := 105) (by kernel_rfl) (by kernel_rfl) rfl (fun w => Below.refl _ w) (Below.refl _ _).drew ?_
            refine w_is (fun w => Below.refl _ w) _ (.inl rfl) (fun ρ w hC hc hfn hf => by have e9 : ρ (.tmp 9) = _ := hf 9 (by decide); (conv => lhs; simp [execOp, go_sem, hc, e9])) ?_
            refine w_is (fun w => Below.refl _ w) _ (.inl rfl) (fun ρ w hC hc hfn hf => by have e61 : ρ (.tmp 61) = _ := hf 61 (by decide); (conv => lhs; simp [execOp, go_sem, hc, e61])) ?_
            refine w_skip rfl rfl (known_is rfl) ?_
            refine w_skip rfl rfl (known_is rfl) ?_
            refine w_skip rfl rfl (known_is rfl) ?_
            refine w_skip rfl rfl (known_is rfl) ?_
            refine w_skip rfl rfl (known_is rfl) ?_
            refine w_skip rfl rfl (known_is rfl) ?_
            refine w_skip rfl rfl (known_is rfl) ?_
            refine w_skip rfl rfl (known_is rfl) ?_
            refine w_skip rfl rfl (known_is rfl) ?_
            refine w_skip rfl rfl (known_is rfl) ?_
            refine w_skip rfl rfl (known_is rfl) ?_
            refine w_skip rfl rfl (known_is rfl) ?_
            refine w_is (fun w => Below.refl _ w) _ (.inl rfl) (fun ρ w hC hc hfn hf => by have e62 : ρ (.tmp 62) = _ := hf 62 (by decide); have e74 : ρ (.tmp 74) = _ := hf 74 (by decide); (conv => lhs; simp [execOp, go_sem, hc, e62, e74])) ?_
            refine w_is (fun w => Below.refl _ w) _ (.inl rfl) (fun ρ w hC hc hfn hf => by have e75 : ρ (.tmp 75) = _ := hf 75 (by decide); (conv => lhs; simp [execOp, go_sem, hc, e75])) ?_
            refine w_is (fun w => Below.refl _ w) _ (.inr ⟨15, 76, false, rfl, rfl, known_is rfl⟩) (fun ρ w hC hc hfn hf => by have e9 : ρ (.tmp 9) = _ := hf 9 (by decide); (conv => lhs; simp [execOp, go_sem, hc, e9])) ?_
            refine w_is (fun w => Below.refl _ w) _ (.inr ⟨15, 76, false, rfl, rfl, known_is rfl⟩) (fun ρ w hC hc hfn hf => by have e77 : ρ (.tmp 77) = _ := hf 77 (by decide); (conv => lhs; simp [execOp, go_sem, hc, e77])) ?_
            refine w_is (fun w => Below.refl _ w) _ (.inr ⟨15, 76, false, rfl, rfl, known_is rfl⟩) (fun ρ w hC hc hfn hf => by have e78 : ρ (.tmp 78) = _ := hf 78 (by decide); (conv => lhs; simp [execOp, go_sem, hc, e78])) ?_
            refine w_is (fun w => Below.refl _ w) _ (.inr ⟨18, 79, true, rfl, rfl, known_is rfl⟩) (fun ρ w hC hc hfn hf => by have e7 : ρ (.tmp 7) = _ := hf 7 (by decide); (conv => lhs; simp [execOp, go_sem, hc, e7])) ?_
            refine w_is (fun w => Below.refl _ w) _ (.inr ⟨18, 79, true, rfl, rfl, known_is rfl⟩) (fun ρ w hC hc hfn hf => by have e8 : ρ (.tmp 8) = _ := hf 8 (by decide); (conv => lhs; simp [execOp, go_sem, hc, e8])) ?_
            refine w_is (fun w => Below.refl _ w) _ (.inr ⟨18, 79, true, rfl, rfl, known_is rfl⟩) (fun ρ w hC hc hfn hf => by have e80 : ρ (.tmp 80) = _ := hf 80 (by decide); have e81 : ρ (.tmp 81) = _ := hf 81 (by decide); (conv => lhs; simp [execOp, go_sem, hc, e80, e81, hlt])) ?_
            refine w_is (fun w => Below.refl _ w) _ (.inr ⟨18, 79, true, rfl, rfl, known_is rfl⟩) (fun ρ w hC hc hfn hf => by have e82 : ρ (.tmp 82) = _ := hf 82 (by decide); (conv => lhs; simp [execOp, go_sem, hc, e82, kc w hC])) ?_
            refine w_is (fun w => Below.refl _ w) _ (.inr ⟨18, 79, true, rfl, rfl, known_is rfl⟩) (fun ρ w hC hc hfn hf => by have e0 : ρ (.tmp 0) = _ := hf 0 (by decide); (conv => lhs; simp [execOp, go_sem, hc, e0])) ?_
            refine w_is (fun w => Below.refl _ w) _ (.inr ⟨18, 79, true, rfl, rfl, known_is rfl⟩) (fun ρ w hC hc hfn hf => by have e8 : ρ (.tmp 8) = _ := hf 8 (by decide); (conv => lhs; simp [execOp, go_sem, hc, e8])) ?_
            refine w_is (fun w => Below.refl _ w) _ (.inr ⟨18, 79, true, rfl, rfl, known_is rfl⟩) (fun ρ w hC hc hfn hf => by have e84 : ρ (.tmp 84) = _ := hf 84 (by decide); have e85 : ρ (.tmp 85) = _ := hf 85 (by decide); (conv => lhs; simp [execOp, go_sem, hc, e84, e85, hlt])) ?_
            refine w_is (fun w => Below.refl _ w) _ (.inr ⟨18, 79, true, rfl, rfl, known_is rfl⟩) (fun ρ w hC hc hfn hf => by have e86 : ρ (.tmp 86) = _ := hf 86 (by decide); (conv => lhs; simp [execOp, go_sem, hc, e86, kc w hC])) ?_
            refine w_is (fun w => Below.refl _ w) _ (.inr ⟨18, 79, true, rfl, rfl, known_is rfl⟩) (fun ρ w hC hc hfn hf => by have e83 : ρ (.tmp 83) = _ := hf 83 (by decide); have e87 : ρ (.tmp 87) = _ := hf 87 (by decide); (conv => lhs; simp [execOp, go_sem, hc, e83, e87, hEq w, guardVW])) ?_
            refine w_is (fun w => Below.refl _ w) _ (.inr ⟨15, 76, false, rfl, rfl, known_is rfl⟩) (fun ρ w hC hc hfn hf => by have e79 : ρ (.tmp 79) = _ := hf 79 (by decide); have e88 : ρ (.tmp 88) = _ := hf 88 (by decide); (conv => lhs; simp [execOp, go_sem, hc, e79, e88])) ?_
            refine w_is (fun w => Below.refl _ w) _ (.inl rfl) (fun ρ w hC hc hfn hf => by have e76 : ρ (.tmp 76) = _ := hf 76 (by decide); have e89 : ρ (.tmp 89) = _ := hf 89 (by decide); (conv => lhs; simp [execOp, go_sem, hc, e76, e89])) ?_
            intro A U6 hC hn hd hf
            have y0 : A.eval (.tmp 0) = _ := Eq.trans (hf 0) (by conv => lhs; simp [go_sem])
            have y1 : A.eval (.tmp 1) = _ := Eq.trans (hf 1) (by conv => lhs; simp [go_sem])
            have y2 : A.eval (.tmp 2) = _ := Eq.trans (hf 2) (by conv => lhs; simp [go_sem])
            have y3 : A.eval (.tmp 3) = _ := Eq.trans (hf 3) (by conv => lhs; simp [go_sem])
            have y4 : A.eval (.tmp 4) = _ := Eq.trans (hf 4) (by conv => lhs; simp [go_sem])
            have y5 : A.eval (.tmp 5) = _ := Eq.trans (hf 5) (by conv => lhs; simp [go_sem])
            have y6 : A.eval (.tmp 6) = _ := Eq.trans (hf 6) (by conv => lhs; simp [go_sem])
            have y7 : A.eval (.tmp 7) = _ := Eq.trans (hf 7) (by conv => lhs; simp [go_sem])
            have y8 : A.eval (.tmp 8) = _ := Eq.trans (hf 8) (by conv => lhs; simp [go_sem])
            have y9 : A.eval (.tmp 9) = _ := Eq.trans (hf 9) (by conv => lhs; simp [go_sem])
            have y10 : A.eval (.tmp 10) = _ := Eq.trans (hf 10) (by conv => lhs; simp [go_sem])
            have y11 : A.eval (.tmp 11) = _ := Eq.trans (hf 11) (by conv => lhs; simp [go_sem])
            have y12 : A.eval (.tmp 12) = _ := Eq.trans (hf 12) (by conv => lhs; simp [go_sem])
            have y13 : A.eval (.tmp 13) = _ := Eq.trans (hf 13) (by conv => lhs; simp [go_sem])
            have y14 : A.eval (.tmp 14) = _ := Eq.trans (hf 14) (by conv => lhs; simp [go_sem])
            have y15 : A.eval (.tmp 15) = _ := Eq.trans (hf 15) (by conv => lhs; simp [go_sem])
            have y16 : A.eval (.tmp 16) = _ := Eq.trans (hf 16) (by conv => lhs; simp [go_sem])
            have y17 : A.eval (.tmp 17) = _ := Eq.trans (hf 17) (by conv => lhs; simp [go_sem])
            have y18 : A.eval (.tmp 18) = _ := Eq.trans (hf 18) (by conv => lhs; simp [go_sem])
            have y19 : A.eval (.tmp 19) = _ := Eq.trans (hf 19) (by conv => lhs; simp [go_sem])
            have y20 : A.eval (.tmp 20) = _ := Eq.trans (hf 20) (by conv => lhs; simp [go_sem])
            have y21 : A.eval (.tmp 21) = _ := Eq.trans (hf 21) (by conv => lhs; simp [go_sem])
            have y22 : A.eval (.tmp 22) = _ := Eq.trans (hf 22) (by conv => lhs; simp [go_sem])
            have y23 : A.eval (.tmp 23) = _ := Eq.trans (hf 23) (by conv => lhs; simp [go_sem])
            have y24 : A.eval (.tmp 24) = _ := Eq.trans (hf 24) (by conv => lhs; simp [go_sem])
            have y25 : A.eval (.tmp 25) = _ := Eq.trans (hf 25) (by conv => lhs; simp [go_sem])
            have y26 : A.eval (.tmp 26) = _ := Eq.trans (hf 26) (by conv => lhs; simp [go_sem])
            have y27 : A.eval (.tmp 27) = _ := Eq.trans (hf 27) (by conv => lhs; simp [go_sem])
            have y28 : A.eval (.tmp 28) = _ := Eq.trans (hf 28) (by conv => lhs; simp [go_sem])
            have y29 : A.eval (.tmp 29) = _ := Eq.trans (hf 29) (by conv => lhs; simp [go_sem])
            have y30 : A.eval (.tmp 30) = _ := Eq.trans (hf 30) (by conv => lhs; simp [go_sem])
            have y31 : A.eval (.tmp 31) = _ := Eq.trans (hf 31) (by conv => lhs; simp [go_sem])
            have y32 : A.eval (.tmp 32) = _ := Eq.trans (hf 32) (by conv => lhs; simp [go_sem])
            have y33 : A.eval (.tmp 33) = _ := Eq.trans (hf 33) (by conv => lhs; simp [go_sem])
            have y34 : A.eval (.tmp 34) = _ := Eq.trans (hf 34) (by conv => lhs; simp [go_sem])
            have y35 : A.eval (.tmp 35) = _ := Eq.trans (hf 35) (by conv => lhs; simp [go_sem])
            have y36 : A.eval (.tmp 36) = _ := Eq.trans (hf 36) (by conv => lhs; simp [go_sem])
            have y37 : A.eval (.tmp 37) = _ := Eq.trans (hf 37) (by conv => lhs; simp [go_sem])
            have y38 : A.eval (.tmp 38) = _ := Eq.trans (hf 38) (by conv => lhs; simp [go_sem])
            have y39 : A.eval (.tmp 39) = _ := Eq.trans (hf 39) (by conv => lhs; simp [go_sem])
            have y40 : A.eval (.tmp 40) = _ := Eq.trans (hf 40) (by conv => lhs; simp [go_sem])
            have y41 : A.eval (.tmp 41) = _ := Eq.trans (hf 41) (by conv => lhs; simp [go_sem])
            have y42 : A.eval (.tmp 42) = _ := Eq.trans (hf 42) (by conv => lhs; simp [go_sem])
            have y43 : A.eval (.tmp 43) = _ := Eq.trans (hf 43) (by conv => lhs; simp [go_sem])
            have y44 : A.eval (.tmp 44) = _ := Eq.trans (hf 44) (by conv => lhs; simp [go_sem])
            have y45 : A.eval (.tmp 45) = _ := Eq.trans (hf 45) (by conv => lhs; simp [go_sem])
            have y46 : A.eval (.tmp 46) = _ := Eq.trans (hf 46) (by conv => lhs; simp [go_sem])
            have y47 : A.eval (.tmp 47) = _ := Eq.trans (hf 47) (by conv => lhs; simp [go_sem])
            have y48 : A.eval (.tmp 48) = _ := Eq.trans (hf 48) (by conv => lhs; simp [go_sem])
            have y49 : A.eval (.tmp 49) = _ := Eq.trans (hf 49) (by conv => lhs; simp [go_sem])
            have y50 : A.eval (.tmp 50) = _ := Eq.trans (hf 50) (by conv => lhs; simp [go_sem])
            have y51 : A.eval (.tmp 51) = _ := Eq.trans (hf 51) (by conv => lhs; simp [go_sem])
            have y52 : A.eval (.tmp 52) = _ := Eq.trans (hf 52) (by conv => lhs; simp [go_sem])
            have y53 : A.eval (.tmp 53) = _ := Eq.trans (hf 53) (by conv => lhs; simp [go_sem])
            have y54 : A.eval (.tmp 54) = _ := Eq.trans (hf 54) (by conv => lhs; simp [go_sem])
            have y55 : A.eval (.tmp 55) = _ := Eq.trans (hf 55) (by conv => lhs; simp [go_sem])
            have y56 : A.eval (.tmp 56) = _ := Eq.trans (hf 56) (by conv => lhs; simp [go_sem])
            have y57 : A.eval (.tmp 57) = _ := Eq.trans (hf 57) (by conv => lhs; simp [go_sem])
            have y58 : A.eval (.tmp 58) = _ := Eq.trans (hf 58) (by conv => lhs; simp [go_sem])
            have y59 : A.eval (.tmp 59) = _ := Eq.trans (hf 59) (by conv => lhs; simp [go_sem])
            have y60 : A.eval (.tmp 60) = _ := Eq.trans (hf 60) (by conv => lhs; simp [go_sem])
            have y61 : A.eval (.tmp 61) = _ := hf 61
            have y62 : A.eval (.tmp 62) = _ := hf 62
            have y63 : A.eval (.tmp 63) = _ := hf 63
            have y64 : A.eval (.tmp 64) = _ := hf 64
            have y65 : A.eval (.tmp 65) = _ := hf 65
            have y66 : A.eval (.tmp 66) = _ := hf 66
            have y67 : A.eval (.tmp 67) = _ := hf 67
            have y68 : A.eval (.tmp 68) = _ := hf 68
            have y69 : A.eval (.tmp 69) = _ := hf 69
            have y70 : A.eval (.tmp 70) = _ := hf 70
            have y71 : A.eval (.tmp 71) = _ := hf 71
            have y72 : A.eval (.tmp 72) = _ := hf 72
            have y73 : A.eval (.tmp 73) = _ := hf 73
            have y74 : A.eval (.tmp 74) = _ := hf 74
            have y75 : A.eval (.tmp 75) = _ := hf 75
            have y76 : A.eval (.tmp 76) = _ := hf 76
            have y77 : A.eval (.tmp 77) = _ := hf 77
            have y78 : A.eval (.tmp 78) = _ := hf 78
            have y79 : A.eval (.tmp 79) = _ := hf 79
            have y80 : A.eval (.tmp 80) = _ := hf 80
            have y81 : A.eval (.tmp 81) = _ := hf 81
            have y82 : A.eval (.tmp 82) = _ := hf 82
            have y83 : A.eval (.tmp 83) = _ := hf 83
            have y84 : A.eval (.tmp 84) = _ := hf 84
            have y85 : A.eval (.tmp 85) = _ := hf 85
            have y86 : A.eval (.tmp 86) = _ := hf 86
            have y87 : A.eval (.tmp 87) = _ := hf 87
            have y88 : A.eval (.tmp 88) = _ := hf 88
            have y89 : A.eval (.tmp 89) = _ := hf 89
            have y90 : A.eval (.tmp 90) = _ := hf 90
            have y91 : A.eval (.tmp 91) = _ := Eq.trans (hf 91) (by conv => lhs; simp [go_sem])
            have y92 : A.eval (.tmp 92) = _ := Eq.trans (hf 92) (by conv => lhs; simp [go_sem])
            have y93 : A.eval (.tmp 93) = _ := Eq.trans (hf 93) (by conv => lhs; simp [go_sem])
            have y94 : A.eval (.tmp 94) = _ := Eq.trans (hf 94) (by conv => lhs; simp [go_sem])
            have y95 : A.eval (.tmp 95) = _ := Eq.trans (hf 95) (by conv => lhs; simp [go_sem])
            have y96 : A.eval (.tmp 96) = _ := Eq.trans (hf 96) (by conv => lhs; simp [go_sem])
            have y97 : A.eval (.tmp 97) = _ := Eq.trans (hf 97) (by conv => lhs; simp [go_sem])
            have y98 : A.eval (.tmp 98) = _ := Eq.trans (hf 98) (by conv => lhs; simp [go_sem])
            have y99 : A.eval (.tmp 99) = _ := Eq.trans (hf 99) (by conv => lhs; simp [go_sem])
            have y100 : A.eval (.tmp 100) = _ := Eq.trans (hf 100) (by conv => lhs; simp [go_sem])
            have y101 : A.eval (.tmp 101) = _ := Eq.trans (hf 101) (by conv => lhs; simp [go_sem])
            have y102 : A.eval (.tmp 102) = _ := Eq.trans (hf 102) (by conv => lhs; simp [go_sem])
            have y103 : A.eval (.tmp 103) = _ := Eq.trans (hf 103) (by conv => lhs; simp [go_sem])
            have y104 : A.eval (.tmp 104) = _ := Eq.trans (hf 104) (by conv => lhs; simp [go_sem])
            clear hf
            have hA := frame_eq hn
            rw [show List.range 105 = [0, 1, 2, 3, 4, 5, 6, 7, 8, 9, 10, 11, 12, 13, 14, 15, 16, 17, 18, 19, 20, 21, 22, 23, 24, 25, 26, 27, 28, 29, 30, 31, 32, 33, 34, 35, 36, 37, 38, 39, 40, 41, 42, 43, 44, 45, 46, 47, 48, 49, 50, 51, 52, 53, 54, 55, 56, 57, 58, 59, 60, 61, 62, 63, 64, 65, 66, 67, 68, 69, 70, 71, 72, 73, 74, 75, 76, 77, 78, 79, 80, 81, 82, 83, 84, 85, 86, 87, 88, 89, 90, 91, 92, 93, 94, 95, 96, 97, 98, 99, 100, 101, 102, 103, 104] from rfl, hd] at hA
            simp only [List.map_cons, List.map_nil, y0, y1, y2, y3, y4, y5, y6, y7, y8, y9, y10, y11, y12, y13, y14, y15, y16, y17, y18, y19, y20, y21, y22, y23, y24, y25, y26, y27, y28, y29, y30, y31, y32, y33, y34, y35, y36, y37, y38, y39, y40, y41, y42, y43, y44, y45, y46, y47, y48, y49, y50, y51, y52, y53, y54, y55, y56, y57, y58, y59, y60, y61, y62, y63, y64, y65, y66, y67, y68, y69, y70, y71, y72, y73, y74, y75, y76, y77, y78, y79, y80, y81, y82, y83, y84, y85, y86, y87, y88, y89, y90, y91, y92, y93, y94, y95, y96, y97, y98, y99, y100, y101, y102, y103, y104] at hA
            clear y0 y1 y2 y3 y4 y5 y6 y7 y8 y9 y10 y11 y12 y13 y14 y15 y16 y17 y18 y19 y20 y21 y22 y23 y24 y25 y26 y27 y28 y29 y30 y31 y32 y33 y34 y35 y36 y37 y38 y39 y40 y41 y42 y43 y44 y45 y46 y47 y48 y49 y50 y51 y52 y53 y54 y55 y56 y57 y58 y59 y60 y61 y62 y63 y64 y65 y66 y67 y68 y69 y70 y71 y72 y73 y74 y75 y76 y77 y78 y79 y80 y81 y82 y83 y84 y85 y86 y87 y88 y89 y90 y91 y92 y93 y94 y95 y96 y97 y98 y99 y100 y101 y102 y103 y104
            clear hn hd
            subst hA
            replace HBX := Lib.hid (HBX.out.trans (hC.mono HBX.out.size))
            clear hC kc
            go_wp2_with fail
            go_roundw
            case rel => exact ⟨k + 1, by omega, by go_num, HBX.out⟩
            case measure => simp [intOf]; omega
          · have q1 : (y.1 != a2) = true := by simpa using hk_
            have hz : z = (y.1, nulX y.1) := by
              rw [hzy]
              unfold fgt
              obtain ⟨e1, e2, e3⟩ := HOZ.out.1 HO0.out
              rw [if_pos ⟨hk_, htl, Prod.ext e1 (Prod.ext e2 e3)⟩, HY1.out.2.2.2]
            rw [hz] at HZ
            clear hz hzy hk_
            go_upto_region 9 with (fail)
            refine wp_region_typed (C := fun w' => Below wr.heap.size wr w') (X := fun w w' => Below w.heap.size w w') (n := 105) (by kernel_rfl) (by kernel_rfl) rfl (fun w => Below.refl _ w) (Below.refl _ _).drew ?_
            refine w_is (fun w => Below.refl _ w) _ (.inl rfl) (fun ρ w hC hc hfn hf => by have e0 : ρ (.tmp 0) = _ := hf 0 (by decide); (conv => lhs; simp [execOp, go_sem, hc, e0])) ?_
            refine w_is (fun w => Below.refl _ w) _ (.inl rfl) (fun ρ w hC hc hfn hf => by have e8 : ρ (.tmp 8) = _ := hf 8 (by decide); (conv => lhs; simp [execOp, go_sem, hc, e8])) ?_
            refine w_is (fun w => Below.refl _ w) _ (.inl rfl) (fun ρ w hC hc hfn hf => by have e34 : ρ (.tmp 34) = _ := hf 34 (by decide); have e35 : ρ (.tmp 35) = _ := hf 35 (by decide); (conv => lhs; simp [execOp, go_sem, hc, e34, e35, hlt])) ?_
            refine w_is (fun w => Below.refl _ w) _ (.inl rfl) (fun ρ w hC hc hfn hf => by have e36 : ρ (.tmp 36) = _ := hf 36 (by decide); (conv => lhs; simp [execOp, go_sem, hc, e36])) ?_
            refine w_is (fun w => Below.refl _ w) _ (.inl rfl) (fun ρ w hC hc hfn hf => by have e37 : ρ (.tmp 37) = _ := hf 37 (by decide); (conv => lhs; simp [execOp, go_sem, hc, e37])) ?_
            refine w_is (fun w => Below.refl _ w) _ (.inl rfl) (fun ρ w hC hc hfn hf => by have e38 : ρ (.tmp 38) = _ := hf 38 (by decide); (conv => lhs; simp [execOp, go_sem, hc, e38, hn, kc w hC])) ?_
            refine w_is (fun w => Below.refl _ w) _ (.inl rfl) (fun ρ w hC hc hfn hf => by have e39 : ρ (.tmp 39) = _ := hf 39 (by decide); (conv => lhs; simp [execOp, go_sem, hc, e39, hn])) ?_
            refine w_is (fun w => Below.refl _ w) _ (.inl rfl) (fun ρ w hC hc hfn hf => by have e40 : ρ (.tmp 40) = _ := hf 40 (by decide); (conv => lhs; simp [execOp, go_sem, hc, e40])) ?_
            refine w_is (fun w => Below.refl _ w) _ (.inr ⟨7, 41, true, rfl, rfl, known_is rfl⟩) (fun ρ w hC hc hfn hf => by have e0 : ρ (.tmp 0) = _ := hf 0 (by decide); (conv => lhs; simp [execOp, go_sem, hc, e0])) ?_
            refine w_is (fun w => Below.refl _ w) _ (.inr ⟨7, 41, true, rfl, rfl, known_is rfl⟩) (fun ρ w hC hc hfn hf => by have e8 : ρ (.tmp 8) = _ := hf 8 (by decide); (conv => lhs; simp [execOp, go_sem, hc, e8])) ?_
            refine w_is (fun w => Below.refl _ w) _ (.inr ⟨7, 41, true, rfl, rfl, known_is rfl⟩) (fun ρ w hC hc hfn hf => by have e42 : ρ (.tmp 42) = _ := hf 42 (by decide); have e43 : ρ (.tmp 43) = _ := hf 43 (by decide); (conv => lhs; simp [execOp, go_sem, hc, e42, e43, hlt])) ?_
            refine w_is (fun w => Below.refl _ w) _ (.inr ⟨7, 41, true, rfl, rfl, known_is rfl⟩) (fun ρ w hC hc hfn hf => by have e44 : ρ (.tmp 44) = _ := hf 44 (by decide); (conv => lhs; simp [execOp, go_sem, hc, e44])) ?_
            refine w_is (fun w => Below.refl _ w) _ (.inr ⟨7, 41, true, rfl, rfl, known_is rfl⟩) (fun ρ w hC hc hfn hf => by have e45 : ρ (.tmp 45) = _ := hf 45 (by decide); (conv => lhs; simp [execOp, go_sem, hc, e45, kc w hC])) ?_
            refine w_call (Is _) (fun _ _ _ h _ => h) 32 (.inr ⟨7, 41, true, rfl, rfl, known_is rfl⟩) (fun ρ w hC hc hfn hf => by have e46 : ρ (.tmp 46) = _ := hf 46 (by decide); exact ⟨_, by (conv => lhs; simp [execOp, resolve, invoke, go_sem, hc, hfn, e46]), tc_below hC (cL w)⟩) ?_
            refine w_is (fun w => Below.refl _ w) _ (.inr ⟨7, 41, true, rfl, rfl, known_is rfl⟩) (fun ρ w hC hc hfn hf => by have e4 : ρ (.tmp 4) = _ := hf 4 (by decide); (conv => lhs; simp [execOp, go_sem, hc, e4, kc w hC])) ?_
            refine w_call (Is _) (fun _ _ _ h _ => h) 31 (.inr ⟨7, 41, true, rfl, rfl, known_is rfl⟩) (fun ρ w hC hc hfn hf => by have e47 : ρ (.tmp 47) = _ := hf 47 (by decide); have e48 : ρ (.tmp 48) = _ := hf 48 (by decide); exact ⟨_, by (conv => lhs; simp [execOp, resolve, invoke, go_sem, hc, hfn, e47, e48]), tc_below hC (cO w)⟩) ?_
            refine w_is (fun w => Below.refl _ w) _ (.inr ⟨7, 41, true, rfl, rfl, known_is rfl⟩) (fun ρ w hC hc hfn hf => by have e49 : ρ (.tmp 49) = _ := hf 49 (by decide); (conv => lhs; simp [execOp, go_sem, hc, e49, q0])) ?_
            refine w_is (fun w => Below.refl _ w) _ (.inl rfl) (fun ρ w hC hc hfn hf => by have e41 : ρ (.tmp 41) = _ := hf 41 (by decide); have e50 : ρ (.tmp 50) = _ := hf 50 (by decide); (conv => lhs; simp [execOp, go_sem, hc, e41, e50])) ?_
            refine w_is (fun w => Below.refl _ w) _ (.inl rfl) (fun ρ w hC hc hfn hf => by have e51 : ρ (.tmp 51) = _ := hf 51 (by decide); (conv => lhs; simp [execOp, go_sem, hc, e51])) ?_
            refine w_is (fun w => Below.refl _ w) _ (.inr ⟨18, 52, true, rfl, rfl, known_is rfl⟩) (fun ρ w hC hc hfn hf => by have e0 : ρ (.tmp 0) = _ := hf 0 (by decide); (conv => lhs; simp [execOp, go_sem, hc, e0])) ?_
            refine w_is (fun w => Below.refl _ w) _ (.inr ⟨18, 52, true, rfl, rfl, known_is rfl⟩) (fun ρ w hC hc hfn hf => by have e8 : ρ (.tmp 8) = _ := hf 8 (by decide); (conv => lhs; simp [execOp, go_sem, hc, e8])) ?_
            refine w_is (fun w => Below.refl _ w) _ (.inr ⟨18, 52, true, rfl, rfl, known_is rfl⟩) (fun ρ w hC hc hfn hf => by have e53 : ρ (.tmp 53) = _ := hf 53 (by decide); have e54 : ρ (.tmp 54) = _ := hf 54 (by decide); (conv => lhs; simp [execOp, go_sem, hc, e53, e54, hlt])) ?_
            refine w_is (fun w => Below.refl _ w) _ (.inr ⟨18, 52, true, rfl, rfl, known_is rfl⟩) (fun ρ w hC hc hfn hf => by have e55 : ρ (.tmp 55) = _ := hf 55 (by decide); (conv => lhs; simp [execOp, go_sem, hc, e55])) ?_
            refine w_is (fun w => Below.refl _ w) _ (.inr ⟨18, 52, true, rfl, rfl, known_is rfl⟩) (fun ρ w hC hc hfn hf => by have e56 : ρ (.tmp 56) = _ := hf 56 (by decide); (conv => lhs; simp [execOp, go_sem, hc, e56, kc w hC])) ?_
            refine w_is (fun w => Below.refl _ w) _ (.inr ⟨18, 52, true, rfl, rfl, known_is rfl⟩) (fun ρ w hC hc hfn hf => by have e2 : ρ (.tmp 2) = _ := hf 2 (by decide); (conv => lhs; simp [execOp, go_sem, hc, e2])) ?_
            refine w_is (fun w => Below.refl _ w) _ (.inr ⟨18, 52, true, rfl, rfl, known_is rfl⟩) (fun ρ w hC hc hfn hf => by have e57 : ρ (.tmp 57) = _ := hf 57 (by decide); have e58 : ρ (.tmp 58) = _ := hf 58 (by decide); (conv => lhs; simp [execOp, go_sem, hc, e57, e58, q1])) ?_
            refine w_is (fun w => Below.refl _ w) _ (.inl rfl) (fun ρ w hC hc hfn hf => by have e52 : ρ (.tmp 52) = _ := hf 52 (by decide); have e59 : ρ (.tmp 59) = _ := hf 59 (by decide); (conv => lhs; simp [execOp, go_sem, hc, e52, e59])) ?_
            refine w_is (fun w => Below.refl _ w) _ (.inl rfl) (fun ρ w hC hc hfn hf => by have e60 : ρ (.tmp 60) = _ := hf 60 (by decide); (conv => lhs; simp [execOp, go_sem, hc, e60])) ?_
            intro A U5 hC hn hd hf
            have y0 : A.eval (.tmp 0) = _ := Eq.trans (hf 0) (by conv => lhs; simp [go_sem])
            have y1 : A.eval (.tmp 1) = _ := Eq.trans (hf 1) (by conv => lhs; simp [go_sem])
            have y2 : A.eval (.tmp 2) = _ := Eq.trans (hf 2) (by conv => lhs; simp [go_sem])
            have y3 : A.eval (.tmp 3) = _ := Eq.trans (hf 3) (by conv => lhs; simp [go_sem])
            have y4 : A.eval (.tmp 4) = _ := Eq.trans (hf 4) (by conv => lhs; simp [go_sem])
            have y5 : A.eval (.tmp 5) = _ := Eq.trans (hf 5) (by conv => lhs; simp [go_sem])
            have y6 : A.eval (.tmp 6) = _ := Eq.trans (hf 6) (by conv => lhs; simp [go_sem])
            have y7 : A.eval (.tmp 7) = _ := Eq.trans (hf 7) (by conv => lhs; simp [go_sem])
            have y8 : A.eval (.tmp 8) = _ := Eq.trans (hf 8) (by conv => lhs; simp [go_sem])
            have y9 : A.eval (.tmp 9) = _ := hf 9
            have y10 : A.eval (.tmp 10) = _ := Eq.trans (hf 10) (by conv => lhs; simp [go_sem])
            have y11 : A.eval (.tmp 11) = _ := Eq.trans (hf 11) (by conv => lhs; simp [go_sem])
            have y12 : A.eval (.tmp 12) = _ := Eq.trans (hf 12) (by conv => lhs; simp [go_sem])
            have y13 : A.eval (.tmp 13) = _ := Eq.trans (hf 13) (by conv => lhs; simp [go_sem])
            have y14 : A.eval (.tmp 14) = _ := Eq.trans (hf 14) (by conv => lhs; simp [go_sem])
            have y15 : A.eval (.tmp 15) = _ := Eq.trans (hf 15) (by conv => lhs; simp [go_sem])
            have y16 : A.eval (.tmp 16) = _ := Eq.trans (hf 16) (by conv => lhs; simp [go_sem])
            have y17 : A.eval (.tmp 17) = _ := Eq.trans (hf 17) (by conv => lhs; simp [go_sem])
            have y18 : A.eval (.tmp 18) = _ := Eq.trans (hf 18) (by conv => lhs; simp [go_sem])
            have y19 : A.eval (.tmp 19) = _ := Eq.trans (hf 19) (by conv => lhs; simp [go_sem])
            have y20 : A.eval (.tmp 20) = _ := Eq.trans (hf 20) (by conv => lhs; simp [go_sem])
            have y21 : A.eval (.tmp 21) = _ := Eq.trans (hf 21) (by conv => lhs; simp [go_sem])
            have y22 : A.eval (.tmp 22) = _ := Eq.trans (hf 22) (by conv => lhs; simp [go_sem])
            have y23 : A.eval (.tmp 23) = _ := Eq.trans (hf 23) (by conv => lhs; simp [go_sem])
            have y24 : A.eval (.tmp 24) = _ := Eq.trans (hf 24) (by conv => lhs; simp [go_sem])
            have y25 : A.eval (.tmp 25) = _ := Eq.trans (hf 25) (by conv => lhs; simp [go_sem])
            have y26 : A.eval (.tmp 26) = _ := Eq.trans (hf 26) (by conv => lhs; simp [go_sem])
            have y27 : A.eval (.tmp 27) = _ := Eq.trans (hf 27) (by conv => lhs; simp [go_sem])
            have y28 : A.eval (.tmp 28) = _ := Eq.trans (hf 28) (by conv => lhs; simp [go_sem])
            have y29 : A.eval (.tmp 29) = _ := Eq.trans (hf 29) (by conv => lhs; simp [go_sem])
            have y30 : A.eval (.tmp 30) = _ := Eq.trans (hf 30) (by conv => lhs; simp [go_sem])
            have y31 : A.eval (.tmp 31) = _ := Eq.trans (hf 31) (by conv => lhs; simp [go_sem])
            have y32 : A.eval (.tmp 32) = _ := Eq.trans (hf 32) (by conv => lhs; simp [go_sem])
            have y33 : A.eval (.tmp 33) = _ := Eq.trans (hf 33) (by conv => lhs; simp [go_sem])
            have y34 : A.eval (.tmp 34) = _ := hf 34
            have y35 : A.eval (.tmp 35) = _ := hf 35
            have y36 : A.eval (.tmp 36) = _ := hf 36
            have y37 : A.eval (.tmp 37) = _ := hf 37
            have y38 : A.eval (.tmp 38) = _ := hf 38
            have y39 : A.eval (.tmp 39) = _ := hf 39
            have y40 : A.eval (.tmp 40) = _ := hf 40
            have y41 : A.eval (.tmp 41) = _ := hf 41
            have y42 : A.eval (.tmp 42) = _ := hf 42
            have y43 : A.eval (.tmp 43) = _ := hf 43
            have y44 : A.eval (.tmp 44) = _ := hf 44
            have y45 : A.eval (.tmp 45) = _ := hf 45
            have y46 : A.eval (.tmp 46) = _ := hf 46
            have y47 : A.eval (.tmp 47) = _ := hf 47
            have y48 : A.eval (.tmp 48) = _ := hf 48
            have y49 : A.eval (.tmp 49) = _ := hf 49
            have y50 : A.eval (.tmp 50) = _ := hf 50
            have y51 : A.eval (.tmp 51) = _ := hf 51
            have y52 : A.eval (.tmp 52) = _ := hf 52
            have y53 : A.eval (.tmp 53) = _ := hf 53
            have y54 : A.eval (.tmp 54) = _ := hf 54
            have y55 : A.eval (.tmp 55) = _ := hf 55
            have y56 : A.eval (.tmp 56) = _ := hf 56
            have y57 : A.eval (.tmp 57) = _ := hf 57
            have y58 : A.eval (.tmp 58) = _ := hf 58
            have y59 : A.eval (.tmp 59) = _ := hf 59
            have y60 : A.eval (.tmp 60) = _ := hf 60
            have y61 : A.eval (.tmp 61) = _ := Eq.trans (hf 61) (by conv => lhs; simp [go_sem])
            have y62 : A.eval (.tmp 62) = _ := Eq.trans (hf 62) (by conv => lhs; simp [go_sem])
            have y63 : A.eval (.tmp 63) = _ := Eq.trans (hf 63) (by conv => lhs; simp [go_sem])
            have y64 : A.eval (.tmp 64) = _ := Eq.trans (hf 64) (by conv => lhs; simp [go_sem])
            have y65 : A.eval (.tmp 65) = _ := Eq.trans (hf 65) (by conv => lhs; simp [go_sem])
            have y66 : A.eval (.tmp 66) = _ := Eq.trans (hf 66) (by conv => lhs; simp [go_sem])
            have y67 : A.eval (.tmp 67) = _ := Eq.trans (hf 67) (by conv => lhs; simp [go_sem])
            have y68 : A.eval (.tmp 68) = _ := Eq.trans (hf 68) (by conv => lhs; simp [go_sem])
            have y69 : A.eval (.tmp 69) = _ := Eq.trans (hf 69) (by conv => lhs; simp [go_sem])
            have y70 : A.eval (.tmp 70) = _ := Eq.trans (hf 70) (by conv => lhs; simp [go_sem])
            have y71 : A.eval (.tmp 71) = _ := Eq.trans (hf 71) (by conv => lhs; simp [go_sem])
            have y72 : A.eval (.tmp 72) = _ := Eq.trans (hf 72) (by conv => lhs; simp [go_sem])
            have y73 : A.eval (.tmp 73) = _ := Eq.trans (hf 73) (by conv => lhs; simp [go_sem])
            have y74 : A.eval (.tmp 74) = _ := Eq.trans (hf 74) (by conv => lhs; simp [go_sem])
            have y75 : A.eval (.tmp 75) = _ := Eq.trans (hf 75) (by conv => lhs; simp [go_sem])
            have y76 : A.eval (.tmp 76) = _ := Eq.trans (hf 76) (by conv => lhs; simp [go_sem])
            have y77 : A.eval (.tmp 77) = _ := Eq.trans (hf 77) (by conv => lhs; simp [go_sem])
            have y78 : A.eval (.tmp 78) = _ := Eq.trans (hf 78) (by conv => lhs; simp [go_sem])
            have y79 : A.eval (.tmp 79) = _ := Eq.trans (hf 79) (by conv => lhs; simp [go_sem])
            have y80 : A.eval (.tmp 80) = _ := Eq.trans (hf 80) (by conv => lhs; simp [go_sem])
            have y81 : A.eval (.tmp 81) = _ := Eq.trans (hf 81) (by conv => lhs; simp [go_sem])
            have y82 : A.eval (.tmp 82) = _ := Eq.trans (hf 82) (by conv => lhs; simp [go_sem])
            have y83 : A.eval (.tmp 83) = _ := Eq.trans (hf 83) (by conv => lhs; simp [go_sem])
            have y84 : A.eval (.tmp 84) = _ := Eq.trans (hf 84) (by conv => lhs; simp [go_sem])
            have y85 : A.eval (.tmp 85) = _ := Eq.trans (hf 85) (by conv => lhs; simp [go_sem])
            have y86 : A.eval (.tmp 86) = _ := Eq.trans (hf 86) (by conv => lhs; simp [go_sem])
            have y87 : A.eval (.tmp 87) = _ := Eq.trans (hf 87) (by conv => lhs; simp [go_sem])
            have y88 : A.eval (.tmp 88) = _ := Eq.trans (hf 88) (by conv => lhs; simp [go_sem])
            have y89 : A.eval (.tmp 89) = _ := Eq.trans (hf 89) (by conv => lhs; simp [go_sem])
            have y90 : A.eval (.tmp 90) = _ := Eq.trans (hf 90) (by conv => lhs; simp [go_sem])
            have y91 : A.eval (.tmp 91) = _ := Eq.trans (hf 91) (by conv => lhs; simp [go_sem])
            have y92 : A.eval (.tmp 92) = _ := Eq.trans (hf 92) (by conv => lhs; simp [go_sem])
            have y93 : A.eval (.tmp 93) = _ := Eq.trans (hf 93) (by conv => lhs; simp [go_sem])
            have y94 : A.eval (.tmp 94) = _ := Eq.trans (hf 94) (by conv => lhs; simp [go_sem])
            have y95 : A.eval (.tmp 95) = _ := Eq.trans (hf 95) (by conv => lhs; simp [go_sem])
            have y96 : A.eval (.tmp 96) = _ := Eq.trans (hf 96) (by conv => lhs; simp [go_sem])
            have y97 : A.eval (.tmp 97) = _ := Eq.trans (hf 97) (by conv => lhs; simp [go_sem])
            have y98 : A.eval (.tmp 98) = _ := Eq.trans (hf 98) (by conv => lhs; simp [go_sem])
            have y99 : A.eval (.tmp 99) = _ := Eq.trans (hf 99) (by conv => lhs; simp [go_sem])
            have y100 : A.eval (.tmp 100) = _ := Eq.trans (hf 100) (by conv => lhs; simp [go_sem])
            have y101 : A.eval (.tmp 101) = _ := Eq.trans (hf 101) (by conv => lhs; simp [go_sem])
            have y102 : A.eval (.tmp 102) = _ := Eq.trans (hf 102) (by conv => lhs; simp [go_sem])
            have y103 : A.eval (.tmp 103) = _ := Eq.trans (hf 103) (by conv => lhs; simp [go_sem])
            have y104 : A.eval (.tmp 104) = _ := Eq.trans (hf 104) (by conv => lhs; simp [go_sem])
            clear hf
            have hA := frame_eq hn
            rw [show List.range 105 = [0, 1, 2, 3, 4, 5, 6, 7, 8, 9, 10, 11, 12, 13, 14, 15, 16, 17, 18, 19, 20, 21, 22, 23, 24, 25, 26, 27, 28, 29, 30, 31, 32, 33, 34, 35, 36, 37, 38, 39, 40, 41, 42, 43, 44, 45, 46, 47, 48, 49, 50, 51, 52, 53, 54, 55, 56, 57, 58, 59, 60, 61, 62, 63, 64, 65, 66, 67, 68, 69, 70, 71, 72, 73, 74, 75, 76, 77, 78, 79, 80, 81, 82, 83, 84, 85, 86, 87, 88, 89, 90, 91, 92, 93, 94, 95, 96, 97, 98, 99, 100, 101, 102, 103, 104] from rfl, hd] at hA
            simp only [List.map_cons, List.map_nil, y0, y1, y2, y3, y4, y5, y6, y7, y8, y9, y10, y11, y12, y13, y14, y15, y16, y17, y18, y19, y20, y21, y22, y23, y24, y25, y26, y27, y28, y29, y30, y31, y32, y33, y34, y35, y36, y37, y38, y39, y40, y41, y42, y43, y44, y45, y46, y47, y48, y49, y50, y51, y52, y53, y54, y55, y56, y57, y58, y59, y60, y61, y62, y63, y64, y65, y66, y67, y68, y69, y70, y71, y72, y73, y74, y75, y76, y77, y78, y79, y80, y81, y82, y83, y84, y85, y86, y87, y88, y89, y90, y91, y92, y93, y94, y95, y96, y97, y98, y99, y100, y101, y102, y103, y104] at hA
            clear y0 y1 y2 y3 y4 y5 y6 y7 y8 y9 y10 y11 y12 y13 y14 y15 y16 y17 y18 y19 y20 y21 y22 y23 y24 y25 y26 y27 y28 y29 y30 y31 y32 y33 y34 y35 y36 y37 y38 y39 y40 y41 y42 y43 y44 y45 y46 y47 y48 y49 y50 y51 y52 y53 y54 y55 y56 y57 y58 y59 y60 y61 y62 y63 y64 y65 y66 y67 y68 y69 y70 y71 y72 y73 y74 y75 y76 y77 y78 y79 y80 y81 y82 y83 y84 y85 y86 y87 y88 y89 y90 y91 y92 y93 y94 y95 y96 y97 y98 y99 y100 y101 y102 y103 y104
            clear hn hd
            subst hA
            replace HBX := Lib.hid (HBX.out.trans (hC.mono HBX.out.size))
            clear hC kc
            have cN := fun W => null_any y.1 W
            have hEq := fun W => (neq23 true true 0 0 0 0 y.1 0 0 0 0 y.1 W)
            rw [show eqH true 0 0 0 0 y.1 true 0 0 0 0 y.1 = true from eqHv_iff.2 ⟨rfl, rfl, rfl, rfl, rfl, rfl⟩] at hEq
            have kc : ∀ w', Below U5.heap.size U5 w' → C7 w' b2 (off + k * 7) y ∧ C7 w' b4 (off4 + k * 7) (y.1, nulX y.1) := fun w' hb => by
              have hb9 := HBX.out.trans (hb.mono HBX.out.size)
              have h1 := (H0.out.below hb9).all hlt
              have h2 := (HM.out.below hb9).all (show k < M.length by rw [HML.out]; exact hlt)
              rw [HY.out] at h1
              rw [HZ.out] at h2
              exact ⟨h1.2, h2.2⟩
            simp only [C7, nulX] at kc
            go_upto_region 10 with (fail)
            refine wp_region_typed (C := fun w' => Below U5.heap.size U5 w') (X := fun w w' => Below w.heap.size w w') (n := 105) (by kernel_rfl) (by kernel_rfl) rfl (fun w => Below.refl _ w) (Below.refl _ _).drew ?_
            refine w_is (fun w => Below.refl _ w) _ (.inl rfl) (fun ρ w hC hc hfn hf => by have e9 : ρ (.tmp 9) = _ := hf 9 (by decide); (conv => lhs; simp [execOp, go_sem, hc, e9])) ?_
            refine w_is (fun w => Below.refl _ w) _ (.inl rfl) (fun ρ w hC hc hfn hf => by have e61 : ρ (.tmp 61) = _ := hf 61 (by decide); (conv => lhs; simp [execOp, go_sem, hc, e61])) ?_
            refine w_is (fun w => Below.refl _ w) _ (.inr ⟨1, 62, true, rfl, rfl, known_is rfl⟩) (fun ρ w hC hc hfn hf => by have e7 : ρ (.tmp 7) = _ := hf 7 (by decide); (conv => lhs; simp [execOp, go_sem, hc, e7])) ?_
            refine w_is (fun w => Below.refl _ w) _ (.inr ⟨1, 62, true, rfl, rfl, known_is rfl⟩) (fun ρ w hC hc hfn hf => by have e8 : ρ (.tmp 8) = _ := hf 8 (by decide); (conv => lhs; simp [execOp, go_sem, hc, e8])) ?_
            refine w_is (fun w => Below.refl _ w) _ (.inr ⟨1, 62, true, rfl, rfl, known_is rfl⟩) (fun ρ w hC hc hfn hf => by have e63 : ρ (.tmp 63) = _ := hf 63 (by decide); have e64 : ρ (.tmp 64) = _ := hf 64 (by decide); (conv => lhs; simp [execOp, go_sem, hc, e63, e64, hlt])) ?_
            refine w_is (fun w => Below.refl _ w) _ (.inr ⟨1, 62, true, rfl, rfl, known_is rfl⟩) (fun ρ w hC hc hfn hf => by have e65 : ρ (.tmp 65) = _ := hf 65 (by decide); (conv => lhs; simp [execOp, go_sem, hc, e65])) ?_
            refine w_is (fun w => Below.refl _ w) _ (.inr ⟨1, 62, true, rfl, rfl, known_is rfl⟩) (fun ρ w hC hc hfn hf => by have e66 : ρ (.tmp 66) = _ := hf 66 (by decide); (conv => lhs; simp [execOp, go_sem, hc, e66, kc w hC])) ?_
            refine w_is (fun w => Below.refl _ w) _ (.inr ⟨1, 62, true, rfl, rfl, known_is rfl⟩) (fun ρ w hC hc hfn hf => by have e0 : ρ (.tmp 0) = _ := hf 0 (by decide); (conv => lhs; simp [execOp, go_sem, hc, e0])) ?_
            refine w_is (fun w => Below.refl _ w) _ (.inr ⟨1, 62, true, rfl, rfl, known_is rfl⟩) (fun ρ w hC hc hfn hf => by have e8 : ρ (.tmp 8) = _ := hf 8 (by decide); (conv => lhs; simp [execOp, go_sem, hc, e8])) ?_
            refine w_is (fun w => Below.refl _ w) _ (.inr ⟨1, 62, true, rfl, rfl, known_is rfl⟩) (fun ρ w hC hc hfn hf => by have e68 : ρ (.tmp 68) = _ := hf 68 (by decide); have e69 : ρ (.tmp 69) = _ := hf 69 (by decide); (conv => lhs; simp [execOp, go_sem, hc, e68, e69, hlt])) ?_
            refine w_is (fun w => Below.refl _ w) _ (.inr ⟨1, 62, true, rfl, rfl, known_is rfl⟩) (fun ρ w hC hc hfn hf => by have e70 : ρ (.tmp 70) = _ := hf 70 (by decide); (conv => lhs; simp [execOp, go_sem, hc, e70])) ?_
            refine w_is (fun w => Below.refl _ w) _ (.inr ⟨1, 62, true, rfl, rfl, known_is rfl⟩) (fun ρ w hC hc hfn hf => by have e71 : ρ (.tmp 71) = _ := hf 71 (by decide); (conv => lhs; simp [execOp, go_sem, hc, e71, kc w hC])) ?_
            refine w_call (Is _) (fun _ _ _ h _ => h) 33 (.inr ⟨1, 62, true, rfl, rfl, known_is rfl⟩) (fun ρ w hC hc hfn hf => by have e72 : ρ (.tmp 72) = _ := hf 72 (by decide); exact ⟨_, by (conv => lhs; simp [execOp, resolve, invoke, go_sem, hc, hfn, e72]), tc_below hC (cN w)⟩) ?_
            refine w_is (fun w => Below.refl _ w) _ (.inr ⟨1, 62, true, rfl, rfl, known_is rfl⟩) (fun ρ w hC hc hfn hf => by have e67 : ρ (.tmp 67) = _ := hf 67 (by decide); have e73 : ρ (.tmp 73) = _ := hf 73 (by decide); (conv => lhs; simp [execOp, go_sem, hc, e67, e73, hEq w, guard23])) ?_
            refine w_is (fun w => Below.refl _ w) _ (.inl rfl) (fun ρ w hC hc hfn hf => by have e62 : ρ (.tmp 62) = _ := hf 62 (by decide); have e74 : ρ (.tmp 74) = _ := hf 74 (by decide); (conv => lhs; simp [execOp, go_sem, hc, e62, e74])) ?_
            refine w_is (fun w => Below.refl _ w) _ (.inl rfl) (fun ρ w hC hc hfn hf => by have e75 : ρ (.tmp 75) = _ := hf 75 (by decide); (conv => lhs; simp [execOp, go_sem, hc, e75])) ?_
            refine w_is (fun w => Below.refl _ w) _ (.inr ⟨15, 76, false, rfl, rfl, known_is rfl⟩) (fun ρ w hC hc hfn hf => by have e9 : ρ (.tmp 9) = _ := hf 9 (by decide); (conv => lhs; simp [execOp, go_sem, hc, e9])) ?_
            refine w_is (fun w => Below.refl _ w) _ (.inr ⟨15, 76, false, rfl, rfl, known_is rfl⟩) (fun ρ w hC hc hfn hf => by have e77 : ρ (.tmp 77) = _ := hf 77 (by decide); (conv => lhs; simp [execOp, go_sem, hc, e77])) ?_
            refine w_is (fun w => Below.refl _ w) _ (.inr ⟨15, 76, false, rfl, rfl, known_is rfl⟩) (fun ρ w hC hc hfn hf => by have e78 : ρ (.tmp 78) = _ := hf 78 (by decide); (conv => lhs; simp [execOp, go_sem, hc, e78])) ?_
            refine w_skip rfl rfl (known_is rfl) ?_
            refine w_skip rfl rfl (known_is rfl) ?_
            refine w_skip rfl rfl (known_is rfl) ?_
            refine w_skip rfl rfl (known_is rfl) ?_
            refine w_skip rfl rfl (known_is rfl) ?_
            refine w_skip rfl rfl (known_is rfl) ?_
            refine w_skip rfl rfl (known_is rfl) ?_
            refine w_skip rfl rfl (known_is rfl) ?_
            refine w_skip rfl rfl (known_is rfl) ?_
            refine w_is (fun w => Below.refl _ w) _ (.inr ⟨15, 76, false, rfl, rfl, known_is rfl⟩) (fun ρ w hC hc hfn hf => by have e79 : ρ (.tmp 79) = _ := hf 79 (by decide); have e88 : ρ (.tmp 88) = _ := hf 88 (by decide); (conv => lhs; simp [execOp, go_sem, hc, e79, e88])) ?_
            refine w_is (fun w => Below.refl _ w) _ (.inl rfl) (fun ρ w hC hc hfn hf => by have e76 : ρ (.tmp 76) = _ := hf 76 (by decide); have e89 : ρ (.tmp 89) = _ := hf 89 (by decide); (conv => lhs; simp [execOp, go_sem, hc, e76, e89])) ?_
            intro A U6 hC hn hd hf
            have y0 : A.eval (.tmp 0) = _ := Eq.trans (hf 0) (by conv => lhs; simp [go_sem])
            have y1 : A.eval (.tmp 1) = _ := Eq.trans (hf 1) (by conv => lhs; simp [go_sem])
            have y2 : A.eval (.tmp 2) = _ := Eq.trans (hf 2) (by conv => lhs; simp [go_sem])
            have y3 : A.eval (.tmp 3) = _ := Eq.trans (hf 3) (by conv => lhs; simp [go_sem])
            have y4 : A.eval (.tmp 4) = _ := Eq.trans (hf 4) (by conv => lhs; simp [go_sem])
            have y5 : A.eval (.tmp 5) = _ := Eq.trans (hf 5) (by conv => lhs; simp [go_sem])
            have y6 : A.eval (.tmp 6) = _ := Eq.trans (hf 6) (by conv => lhs; simp [go_sem])
            have y7 : A.eval (.tmp 7) = _ := Eq.trans (hf 7) (by conv => lhs; simp [go_sem])
            have y8 : A.eval (.tmp 8) = _ := Eq.trans (hf 8) (by conv => lhs; simp [go_sem])
            have y9 : A.eval (.tmp 9) = _ := Eq.trans (hf 9) (by conv => lhs; simp [go_sem])
            have y10 : A.eval (.tmp 10) = _ := Eq.trans (hf 10) (by conv => lhs; simp [go_sem])
            have y11 : A.eval (.tmp 11) = _ := Eq.trans (hf 11) (by conv => lhs; simp [go_sem])
            have y12 : A.eval (.tmp 12) = _ := Eq.trans (hf 12) (by conv => lhs; simp [go_sem])
            have y13 : A.eval (.tmp 13) = _ := Eq.trans (hf 13) (by conv => lhs; simp [go_sem])
            have y14 : A.eval (.tmp 14) = _ := Eq.trans (hf 14) (by conv => lhs; simp [go_sem])
            have y15 : A.eval (.tmp 15) = _ := Eq.trans (hf 15) (by conv => lhs; simp [go_sem])
            have y16 : A.eval (.tmp 16) = _ := Eq.trans (hf 16) (by conv => lhs; simp [go_sem])
            have y17 : A.eval (.tmp 17) = _ := Eq.trans (hf 17) (by conv => lhs; simp [go_sem])
            have y18 : A.eval (.tmp 18) = _ := Eq.trans (hf 18) (by conv => lhs; simp [go_sem])
            have y19 : A.eval (.tmp 19) = _ := Eq.trans (hf 19) (by conv => lhs; simp [go_sem])
            have y20 : A.eval (.tmp 20) = _ := Eq.trans (hf 20) (by conv => lhs; simp [go_sem])
            have y21 : A.eval (.tmp 21) = _ := Eq.trans (hf 21) (by conv => lhs; simp [go_sem])
            have y22 : A.eval (.tmp 22) = _ := Eq.trans (hf 22) (by conv => lhs; simp [go_sem])
            have y23 : A.eval (.tmp 23) = _ := Eq.trans (hf 23) (by conv => lhs; simp [go_sem])
            have y24 : A.eval (.tmp 24) = _ := Eq.trans (hf 24) (by conv => lhs; simp [go_sem])
            have y25 : A.eval (.tmp 25) = _ := Eq.trans (hf 25) (by conv => lhs; simp [go_sem])
            have y26 : A.eval (.tmp 26) = _ := Eq.trans (hf 26) (by conv => lhs; simp [go_sem])
            have y27 : A.eval (.tmp 27) = _ := Eq.trans (hf 27) (by conv => lhs; simp [go_sem])
            have y28 : A.eval (.tmp 28) = _ := Eq.trans (hf 28) (by conv => lhs; simp [go_sem])
            have y29 : A.eval (.tmp 29) = _ := Eq.trans (hf 29) (by conv => lhs; simp [go_sem])
            have y30 : A.eval (.tmp 30) = _ := Eq.trans (hf 30) (by conv => lhs; simp [go_sem])
            have y31 : A.eval (.tmp 31) = _ := Eq.trans (hf 31) (by conv => lhs; simp [go_sem])
            have y32 : A.eval (.tmp 32) = _ := Eq.trans (hf 32) (by conv => lhs; simp [go_sem])
            have y33 : A.eval (.tmp 33) = _ := Eq.trans (hf 33) (by conv => lhs; simp [go_sem])
            have y34 : A.eval (.tmp 34) = _ := Eq.trans (hf 34) (by conv => lhs; simp [go_sem])
            have y35 : A.eval (.tmp 35) = _ := Eq.trans (hf 35) (by conv => lhs; simp [go_sem])
            have y36 : A.eval (.tmp 36) = _ := Eq.trans (hf 36) (by conv => lhs; simp [go_sem])
            have y37 : A.eval (.tmp 37) = _ := Eq.trans (hf 37) (by conv => lhs; simp [go_sem])
            have y38 : A.eval (.tmp 38) = _ := Eq.trans (hf 38) (by conv => lhs; simp [go_sem])
            have y39 : A.eval (.tmp 39) = _ := Eq.trans (hf 39) (by conv => lhs; simp [go_sem])
            have y40 : A.eval (.tmp 40) = _ := Eq.trans (hf 40) (by conv => lhs; simp [go_sem])
            have y41 : A.eval (.tmp 41) = _ := Eq.trans (hf 41) (by conv => lhs; simp [go_sem])
            have y42 : A.eval (.tmp 42) = _ := Eq.trans (hf 42) (by conv => lhs; simp [go_sem])
            have y43 : A.eval (.tmp 43) = _ := Eq.trans (hf 43) (by conv => lhs; simp [go_sem])
            have y44 : A.eval (.tmp 44) = _ := Eq.trans (hf 44) (by conv => lhs; simp [go_sem])
            have y45 : A.eval (.tmp 45) = _ := Eq.trans (hf 45) (by conv => lhs; simp [go_sem])
            have y46 : A.eval (.tmp 46) = _ := Eq.trans (hf 46) (by conv => lhs; simp [go_sem])
            have y47 : A.eval (.tmp 47) = _ := Eq.trans (hf 47) (by conv => lhs; simp [go_sem])
            have y48 : A.eval (.tmp 48) = _ := Eq.trans (hf 48) (by conv => lhs; simp [go_sem])
            have y49 : A.eval (.tmp 49) = _ := Eq.trans (hf 49) (by conv => lhs; simp [go_sem])
            have y50 : A.eval (.tmp 50) = _ := Eq.trans (hf 50) (by conv => lhs; simp [go_sem])
            have y51 : A.eval (.tmp 51) = _ := Eq.trans (hf 51) (by conv => lhs; simp [go_sem])
            have y52 : A.eval (.tmp 52) = _ := Eq.trans (hf 52) (by conv => lhs; simp [go_sem])
            have y53 : A.eval (.tmp 53) = _ := Eq.trans (hf 53) (by conv => lhs; simp [go_sem])
            have y54 : A.eval (.tmp 54) = _ := Eq.trans (hf 54) (by conv => lhs; simp [go_sem])
            have y55 : A.eval (.tmp 55) = _ := Eq.trans (hf 55) (by conv => lhs; simp [go_sem])
            have y56 : A.eval (.tmp 56) = _ := Eq.trans (hf 56) (by conv => lhs; simp [go_sem])
            have y57 : A.eval (.tmp 57) = _ := Eq.trans (hf 57) (by conv => lhs; simp [go_sem])
            have y58 : A.eval (.tmp 58) = _ := Eq.trans (hf 58) (by conv => lhs; simp [go_sem])
            have y59 : A.eval (.tmp 59) = _ := Eq.trans (hf 59) (by conv => lhs; simp [go_sem])
            have y60 : A.eval (.tmp 60) = _ := Eq.trans (hf 60) (by conv => lhs; simp [go_sem])
            have y61 : A.eval (.tmp 61) = _ := hf 61
            have y62 : A.eval (.tmp 62) = _ := hf 62
            have y63 : A.eval (.tmp 63) = _ := hf 63
            have y64 : A.eval (.tmp 64) = _ := hf 64
            have y65 : A.eval (.tmp 65) = _ := hf 65
            have y66 : A.eval (.tmp 66) = _ := hf 66
            have y67 : A.eval (.tmp 67) = _ := hf 67
            have y68 : A.eval (.tmp 68) = _ := hf 68
            have y69 : A.eval (.tmp 69) = _ := hf 69
            have y70 : A.eval (.tmp 70) = _ := hf 70
            have y71 : A.eval (.tmp 71) = _ := hf 71
            have y72 : A.eval (.tmp 72) = _ := hf 72
            have y73 : A.eval (.tmp 73) = _ := hf 73
            have y74 : A.eval (.tmp 74) = _ := hf 74
            have y75 : A.eval (.tmp 75) = _ := hf 75
            have y76 : A.eval (.tmp 76) = _ := hf 76
            have y77 : A.eval (.tmp 77) = _ := hf 77
            have y78 : A.eval (.tmp 78) = _ := hf 78
            have y79 : A.eval (.tmp 79) = _ := hf 79
            have y80 : A.eval (.tmp 80) = _ := hf 80
            have y81 : A.eval (.tmp 81) = _ := hf 81
            have y82 : A.eval (.tmp 82) = _ := hf 82
            have y83 : A.eval (.tmp 83) = _ := hf 83
            have y84 : A.eval (.tmp 84) = _ := hf 84
            have y85 : A.eval (.tmp 85) = _ := hf 85
            have y86 : A.eval (.tmp 86) = _ := hf 86
            have y87 : A.eval (.tmp 87) = _ := hf 87
            have y88 : A.eval (.tmp 88) = _ := hf 88
            have y89 : A.eval (.tmp 89) = _ := hf 89
            have y90 : A.eval (.tmp 90) = _ := hf 90
            have y91 : A.eval (.tmp 91) = _ := Eq.trans (hf 91) (by conv => lhs; simp [go_sem])
            have y92 : A.eval (.tmp 92) = _ := Eq.trans (hf 92) (by conv => lhs; simp [go_sem])
            have y93 : A.eval (.tmp 93) = _ := Eq.trans (hf 93) (by conv => lhs; simp [go_sem])
            have y94 : A.eval (.tmp 94) = _ := Eq.trans (hf 94) (by conv => lhs; simp [go_sem])
            have y95 : A.eval (.tmp 95) = _ := Eq.trans (hf 95) (by conv => lhs; simp [go_sem])
            have y96 : A.eval (.tmp 96) = _ := Eq.trans (hf 96) (by conv => lhs; simp [go_sem])
            have y97 : A.eval (.tmp 97) = _ := Eq.trans (hf 97) (by conv => lhs; simp [go_sem])
            have y98 : A.eval (.tmp 98) = _ := Eq.trans (hf 98) (by conv => lhs; simp [go_sem])
            have y99 : A.eval (.tmp 99) = _ := Eq.trans (hf 99) (by conv => lhs; simp [go_sem])
            have y100 : A.eval (.tmp 100) = _ := Eq.trans (hf 100) (by conv => lhs; simp [go_sem])
            have y101 : A.eval (.tmp 101) = _ := Eq.trans (hf 101) (by conv => lhs; simp [go_sem])
            have y102 : A.eval (.tmp 102) = _ := Eq.trans (hf 102) (by conv => lhs; simp [go_sem])
            have y103 : A.eval (.tmp 103) = _ := Eq.trans (hf 103) (by conv => lhs; simp [go_sem])
            have y104 : A.eval (.tmp 104) = _ := Eq.trans (hf 104) (by conv => lhs; simp [go_sem])
            clear hf
            have hA := frame_eq hn
            rw [show List.range 105 = [0, 1, 2, 3, 4, 5, 6, 7, 8, 9, 10, 11, 12, 13, 14, 15, 16, 17, 18, 19, 20, 21, 22, 23, 24, 25, 26, 27, 28, 29, 30, 31, 32, 33, 34, 35, 36, 37, 38, 39, 40, 41, 42, 43, 44, 45, 46, 47, 48, 49, 50, 51, 52, 53, 54, 55, 56, 57, 58, 59, 60, 61, 62, 63, 64, 65, 66, 67, 68, 69, 70, 71, 72, 73, 74, 75, 76, 77, 78, 79, 80, 81, 82, 83, 84, 85, 86, 87, 88, 89, 90, 91, 92, 93, 94, 95, 96, 97, 98, 99, 100, 101, 102, 103, 104] from rfl, hd] at hA
            simp only [List.map_cons, List.map_nil, y0, y1, y2, y3, y4, y5, y6, y7, y8, y9, y10, y11, y12, y13, y14, y15, y16, y17, y18, y19, y20, y21, y22, y23, y24, y25, y26, y27, y28, y29, y30, y31, y32, y33, y34, y35, y36, y37, y38, y39, y40, y41, y42, y43, y44, y45, y46, y47, y48, y49, y50, y51, y52, y53, y54, y55, y56, y57, y58, y59, y60, y61, y62, y63, y64, y65, y66, y67, y68, y69, y70, y71, y72, y73, y74, y75, y76, y77, y78, y79, y80, y81, y82, y83, y84, y85, y86, y87, y88, y89, y90, y91, y92, y93, y94, y95, y96, y97, y98, y99, y100, y101, y102, y103, y104] at hA
            clear y0 y1 y2 y3 y4 y5 y6 y7 y8 y9 y10 y11 y12 y13 y14 y15 y16 y17 y18 y19 y20 y21 y22 y23 y24 y25 y26 y27 y28 y29 y30 y31 y32 y33 y34 y35 y36 y37 y38 y39 y40 y41 y42 y43 y44 y45 y46 y47 y48 y49 y50 y51 y52 y53 y54 y55 y56 y57 y58 y59 y60 y61 y62 y63 y64 y65 y66 y67 y68 y69 y70 y71 y72 y73 y74 y75 y76 y77 y78 y79 y80 y81 y82 y83 y84 y85 y86 y87 y88 y89 y90 y91 y92 y93 y94 y95 y96 y97 y98 y99 y100 y101 y102 y103 y104
            clear hn hd
            subst hA
            replace HBX := Lib.hid (HBX.out.trans (hC.mono HBX.out.size))
            clear hC kc
            go_wp2_with fail
            go_roundw
            case rel => exact ⟨k + 1, by omega, by go_num, HBX.out⟩
            case measure => simp [intOf]; omega
        · have q0 : (o == 0) = false := by simpa using h0
          have HO0 := Lib.hid h0
          clear h0
          have hz : z = y := by rw [hzy]; unfold fgt; rw [if_neg (fun h => HO0.out (HOZ.out.2 (by have := h.2.2; exact ⟨congrArg Prod.fst this, congrArg (fun p => p.2.1) this, congrArg (fun p => p.2.2) this⟩)))]
          rw [hz] at HZ
          clear hz hzy
          go_upto_region 9 with (fail)
          refine wp_region_typed (C := fun w' => Below wr.heap.size wr w') (X := fun w w' => Below w.heap.size w w') (n := 105) (by kernel_rfl) (by kernel_rfl) rfl (fun w => Below.refl _ w) (Below.refl _ _).drew ?_
          refine w_is (fun w => Below.refl _ w) _ (.inl rfl) (fun ρ w hC hc hfn hf => by have e0 : ρ (.tmp 0) = _ := hf 0 (by decide); (conv => lhs; simp [execOp, go_sem, hc, e0])) ?_
          refine w_is (fun w => Below.refl _ w) _ (.inl rfl) (fun ρ w hC hc hfn hf => by have e8 : ρ (.tmp 8) = _ := hf 8 (by decide); (conv => lhs; simp [execOp, go_sem, hc, e8])) ?_
          refine w_is (fun w => Below.refl _ w) _ (.inl rfl) (fun ρ w hC hc hfn hf => by have e34 : ρ (.tmp 34) = _ := hf 34 (by decide); have e35 : ρ (.tmp 35) = _ := hf 35 (by decide); (conv => lhs; simp [execOp, go_sem, hc, e34, e35, hlt])) ?_
          refine w_is (fun w => Below.refl _ w) _ (.inl rfl) (fun ρ w hC hc hfn hf => by have e36 : ρ (.tmp 36) = _ := hf 36 (by decide); (conv => lhs; simp [execOp, go_sem, hc, e36])) ?_
          refine w_is (fun w => Below.refl _ w) _ (.inl rfl) (fun ρ w hC hc hfn hf => by have e37 : ρ (.tmp 37) = _ := hf 37 (by decide); (conv => lhs; simp [execOp, go_sem, hc, e37])) ?_
          refine w_is (fun w => Below.refl _ w) _ (.inl rfl) (fun ρ w hC hc hfn hf => by have e38 : ρ (.tmp 38) = _ := hf 38 (by decide); (conv => lhs; simp [execOp, go_sem, hc, e38, hn, kc w hC])) ?_
          refine w_is (fun w => Below.refl _ w) _ (.inl rfl) (fun ρ w hC hc hfn hf => by have e39 : ρ (.tmp 39) = _ := hf 39 (by decide); (conv => lhs; simp [execOp, go_sem, hc, e39, hn])) ?_
          refine w_is (fun w => Below.refl _ w) _ (.inl rfl) (fun ρ w hC hc hfn hf => by have e40 : ρ (.tmp 40) = _ := hf 40 (by decide); (conv => lhs; simp [execOp, go_sem, hc, e40])) ?_
          refine w_is (fun w => Below.refl _ w) _ (.inr ⟨7, 41, true, rfl, rfl, known_is rfl⟩) (fun ρ w hC hc hfn hf => by have e0 : ρ (.tmp 0) = _ := hf 0 (by decide); (conv => lhs; simp [execOp, go_sem, hc, e0])) ?_
          refine w_is (fun w => Below.refl _ w) _ (.inr ⟨7, 41, true, rfl, rfl, known_is rfl⟩) (fun ρ w hC hc hfn hf => by have e8 : ρ (.tmp 8) = _ := hf 8 (by decide); (conv => lhs; simp [execOp, go_sem, hc, e8])) ?_
          refine w_is (fun w => Below.refl _ w) _ (.inr ⟨7, 41, true, rfl, rfl, known_is rfl⟩) (fun ρ w hC hc hfn hf => by have e42 : ρ (.tmp 42) = _ := hf 42 (by decide); have e43 : ρ (.tmp 43) = _ := hf 43 (by decide); (conv => lhs; simp [execOp, go_sem, hc, e42, e43, hlt])) ?_
          refine w_is (fun w => Below.refl _ w) _ (.inr ⟨7, 41, true, rfl, rfl, known_is rfl⟩) (fun ρ w hC hc hfn hf => by have e44 : ρ (.tmp 44) = _ := hf 44 (by decide); (conv => lhs; simp [execOp, go_sem, hc, e44])) ?_
          refine w_is (fun w => Below.refl _ w) _ (.inr ⟨7, 41, true, rfl, rfl, known_is rfl⟩) (fun ρ w hC hc hfn hf => by have e45 : ρ (.tmp 45) = _ := hf 45 (by decide); (conv => lhs; simp [execOp, go_sem, hc, e45, kc w hC])) ?_
          refine w_call (Is _) (fun _ _ _ h _ => h) 32 (.inr ⟨7, 41, true, rfl, rfl, known_is rfl⟩) (fun ρ w hC hc hfn hf => by have e46 : ρ (.tmp 46) = _ := hf 46 (by decide); exact ⟨_, by (conv => lhs; simp [execOp, resolve, invoke, go_sem, hc, hfn, e46]), tc_below hC (cL w)⟩) ?_
          refine w_is (fun w => Below.refl _ w) _ (.inr ⟨7, 41, true, rfl, rfl, known_is rfl⟩) (fun ρ w hC hc hfn hf => by have e4 : ρ (.tmp 4) = _ := hf 4 (by decide); (conv => lhs; simp [execOp, go_sem, hc, e4, kc w hC])) ?_
          refine w_call (Is _) (fun _ _ _ h _ => h) 31 (.inr ⟨7, 41, true, rfl, rfl, known_is rfl⟩) (fun ρ w hC hc hfn hf => by have e47 : ρ (.tmp 47) = _ := hf 47 (by decide); have e48 : ρ (.tmp 48) = _ := hf 48 (by decide); exact ⟨_, by (conv => lhs; simp [execOp, resolve, invoke, go_sem, hc, hfn, e47, e48]), tc_below hC (cO w)⟩) ?_
          refine w_is (fun w => Below.refl _ w) _ (.inr ⟨7, 41, true, rfl, rfl, known_is rfl⟩) (fun ρ w hC hc hfn hf => by have e49 : ρ (.tmp 49) = _ := hf 49 (by decide); (conv => lhs; simp [execOp, go_sem, hc, e49, q0])) ?_
          refine w_is (fun w => Below.refl _ w) _ (.inl rfl) (fun ρ w hC hc hfn hf => by have e41 : ρ (.tmp 41) = _ := hf 41 (by decide); have e50 : ρ (.tmp 50) = _ := hf 50 (by decide); (conv => lhs; simp [execOp, go_sem, hc, e41, e50])) ?_
          refine w_is (fun w => Below.refl _ w) _ (.inl rfl) (fun ρ w hC hc hfn hf => by have e51 : ρ (.tmp 51) = _ := hf 51 (by decide); (conv => lhs; simp [execOp, go_sem, hc, e51])) ?_
          refine w_skip rfl rfl (known_is rfl) ?_
          refine w_skip rfl rfl (known_is rfl) ?_
          refine w_skip rfl rfl (known_is rfl) ?_
          refine w_skip rfl rfl (known_is rfl) ?_
          refine w_skip rfl rfl (known_is rfl) ?_
          refine w_skip rfl rfl (known_is rfl) ?_
          refine w_skip rfl rfl (known_is rfl) ?_
          refine w_is (fun w => Below.refl _ w) _ (.inl rfl) (fun ρ w hC hc hfn hf => by have e52 : ρ (.tmp 52) = _ := hf 52 (by decide); have e59 : ρ (.tmp 59) = _ := hf 59 (by decide); (conv => lhs; simp [execOp, go_sem, hc, e52, e59])) ?_
          refine w_is (fun w => Below.refl _ w) _ (.inl rfl) (fun ρ w hC hc hfn hf => by have e60 : ρ (.tmp 60) = _ := hf 60 (by decide); (conv => lhs; simp [execOp, go_sem, hc, e60])) ?_
          intro A U5 hC hn hd hf
          have y0 : A.eval (.tmp 0) = _ := Eq.trans (hf 0) (by conv => lhs; simp [go_sem])
          have y1 : A.eval (.tmp 1) = _ := Eq.trans (hf 1) (by conv => lhs; simp [go_sem])
          have y2 : A.eval (.tmp 2) = _ := Eq.trans (hf 2) (by conv => lhs; simp [go_sem])
          have y3 : A.eval (.tmp 3) = _ := Eq.trans (hf 3) (by conv => lhs; simp [go_sem])
          have y4 : A.eval (.tmp 4) = _ := Eq.trans (hf 4) (by conv => lhs; simp [go_sem])
          have y5 : A.eval (.tmp 5) = _ := Eq.trans (hf 5) (by conv => lhs; simp [go_sem])
          have y6 : A.eval (.tmp 6) = _ := Eq.trans (hf 6) (by conv => lhs; simp [go_sem])
          have y7 : A.eval (.tmp 7) = _ := Eq.trans (hf 7) (by conv => lhs; simp [go_sem])
          have y8 : A.eval (.tmp 8) = _ := Eq.trans (hf 8) (by conv => lhs; simp [go_sem])
          have y9 : A.eval (.tmp 9) = _ := hf 9
          have y10 : A.eval (.tmp 10) = _ := Eq.trans (hf 10) (by conv => lhs; simp [go_sem])
          have y11 : A.eval (.tmp 11) = _ := Eq.trans (hf 11) (by conv => lhs; simp [go_sem])
          have y12 : A.eval (.tmp 12) = _ := Eq.trans (hf 12) (by conv => lhs; simp [go_sem])
          have y13 : A.eval (.tmp 13) = _ := Eq.trans (hf 13) (by conv => lhs; simp [go_sem])
          have y14 : A.eval (.tmp 14) = _ := Eq.trans (hf 14) (by conv => lhs; simp [go_sem])
          have y15 : A.eval (.tmp 15) = _ := Eq.trans (hf 15) (by conv => lhs; simp [go_sem])
          have y16 : A.eval (.tmp 16) = _ := Eq.trans (hf 16) (by conv => lhs; simp [go_sem])
          have y17 : A.eval (.tmp 17) = _ := Eq.trans (hf 17) (by conv => lhs; simp [go_sem])
          have y18 : A.eval (.tmp 18) = _ := Eq.trans (hf 18) (by conv => lhs; simp [go_sem])
          have y19 : A.eval (.tmp 19) = _ := Eq.trans (hf 19) (by conv => lhs; simp [go_sem])
          have y20 : A.eval (.tmp 20) = _ := Eq.trans (hf 20) (by conv => lhs; simp [go_sem])
          have y21 : A.eval (.tmp 21) = _ := Eq.trans (hf 21) (by conv => lhs; simp [go_sem])
          have y22 : A.eval (.tmp 22) = _ := Eq.trans (hf 22) (by conv => lhs; simp [go_sem])
          have y23 : A.eval (.tmp 23) = _ := Eq.trans (hf 23) (by conv => lhs; simp [go_sem])
          have y24 : A.eval (.tmp 24) = _ := Eq.trans (hf 24) (by conv => lhs; simp [go_sem])
          have y25 : A.eval (.tmp 25) = _ := Eq.trans (hf 25) (by conv => lhs; simp [go_sem])
          have y26 : A.eval (.tmp 26) = _ := Eq.trans (hf 26) (by conv => lhs; simp [go_sem])
          have y27 : A.eval (.tmp 27) = _ := Eq.trans (hf 27) (by conv => lhs; simp [go_sem])
          have y28 : A.eval (.tmp 28) = _ := Eq.trans (hf 28) (by conv => lhs; simp [go_sem])
          have y29 : A.eval (.tmp 29) = _ := Eq.trans (hf 29) (by conv => lhs; simp [go_sem])
          have y30 : A.eval (.tmp 30) = _ := Eq.trans (hf 30) (by conv => lhs; simp [go_sem])
          have y31 : A.eval (.tmp 31) = _ := Eq.trans (hf 31) (by conv => lhs; simp [go_sem])
          have y32 : A.eval (.tmp 32) = _ := Eq.trans (hf 32) (by conv => lhs; simp [go_sem])
          have y33 : A.eval (.tmp 33) = _ := Eq.trans (hf 33) (by conv => lhs; simp [go_sem])
          have y34 : A.eval (.tmp 34) = _ := hf 34
          have y35 : A.eval (.tmp 35) = _ := hf 35
          have y36 : A.eval (.tmp 36) = _ := hf 36
          have y37 : A.eval (.tmp 37) = _ := hf 37
          have y38 : A.eval (.tmp 38) = _ := hf 38
          have y39 : A.eval (.tmp 39) = _ := hf 39
          have y40 : A.eval (.tmp 40) = _ := hf 40
          have y41 : A.eval (.tmp 41) = _ := hf 41
          have y42 : A.eval (.tmp 42) = _ := hf 42
          have y43 : A.eval (.tmp 43) = _ := hf 43
          have y44 : A.eval (.tmp 44) = _ := hf 44
          have y45 : A.eval (.tmp 45) = _ := hf 45
          have y46 : A.eval (.tmp 46) = _ := hf 46
          have y47 : A.eval (.tmp 47) = _ := hf 47
          have y48 : A.eval (.tmp 48) = _ := hf 48
          have y49 : A.eval (.tmp 49) = _ := hf 49
          have y50 : A.eval (.tmp 50) = _ := hf 50
          have y51 : A.eval (.tmp 51) = _ := hf 51
          have y52 : A.eval (.tmp 52) = _ := hf 52
          have y53 : A.eval (.tmp 53) = _ := hf 53
          have y54 : A.eval (.tmp 54) = _ := hf 54
          have y55 : A.eval (.tmp 55) = _ := hf 55
          have y56 : A.eval (.tmp 56) = _ := hf 56
          have y57 : A.eval (.tmp 57) = _ := hf 57
          have y58 : A.eval (.tmp 58) = _ := hf 58
          have y59 : A.eval (.tmp 59) = _ := hf 59
          have y60 : A.eval (.tmp 60) = _ := hf 60
          have y61 : A.eval (.tmp 61) = _ := Eq.trans (hf 61) (by conv => lhs; simp [go_sem])
          have y62 : A.eval (.tmp 62) = _ := Eq.trans (hf 62) (by conv => lhs; simp [go_sem])
          have y63 : A.eval (.tmp 63) = _ := Eq.trans (hf 63) (by conv => lhs; simp [go_sem])
          have y64 : A.eval (.tmp 64) = _ := Eq.trans (hf 64) (by conv => lhs; simp [go_sem])
          have y65 : A.eval (.tmp 65) = _ := Eq.trans (hf 65) (by conv => lhs; simp [go_sem])
          have y66 : A.eval (.tmp 66) = _ := Eq.trans (hf 66) (by conv => lhs; simp [go_sem])
          have y67 : A.eval (.tmp 67) = _ := Eq.trans (hf 67) (by conv => lhs; simp [go_sem])
          have y68 : A.eval (.tmp 68) = _ := Eq.trans (hf 68) (by conv => lhs; simp [go_sem])
          have y69 : A.eval (.tmp 69) = _ := Eq.trans (hf 69) (by conv => lhs; simp [go_sem])
          have y70 : A.eval (.tmp 70) = _ := Eq.trans (hf 70) (by conv => lhs; simp [go_sem])
          have y71 : A.eval (.tmp 71) = _ := Eq.trans (hf 71) (by conv => lhs; simp [go_sem])
          have y72 : A.eval (.tmp 72) = _ := Eq.trans (hf 72) (by conv => lhs; simp [go_sem])
          have y73 : A.eval (.tmp 73) = _ := Eq.trans (hf 73) (by conv => lhs; simp [go_sem])
          have y74 : A.eval (.tmp 74) = _ := Eq.trans (hf 74) (by conv => lhs; simp [go_sem])
          have y75 : A.eval (.tmp 75) = _ := Eq.trans (hf 75) (by conv => lhs; simp [go_sem])
          have y76 : A.eval (.tmp 76) = _ := Eq.trans (hf 76) (by conv => lhs; simp [go_sem])
          have y77 : A.eval (.tmp 77) = _ := Eq.trans (hf 77) (by conv => lhs; simp [go_sem])
          have y78 : A.eval (.tmp 78) = _ := Eq.trans (hf 78) (by conv => lhs; simp [go_sem])
          have y79 : A.eval (.tmp 79) = _ := Eq.trans (hf 79) (by conv => lhs; simp [go_sem])
          have y80 : A.eval (.tmp 80) = _ := Eq.trans (hf 80) (by conv => lhs; simp [go_sem])
          have y81 : A.eval (.tmp 81) = _ := Eq.trans (hf 81) (by conv => lhs; simp [go_sem])
          have y82 : A.eval (.tmp 82) = _ := Eq.trans (hf 82) (by conv => lhs; simp [go_sem])
          have y83 : A.eval (.tmp 83) = _ := Eq.trans (hf 83) (by conv => lhs; simp [go_sem])
          have y84 : A.eval (.tmp 84) = _ := Eq.trans (hf 84) (by conv => lhs; simp [go_sem])
          have y85 : A.eval (.tmp 85) = _ := Eq.trans (hf 85) (by conv => lhs; simp [go_sem])
          have y86 : A.eval (.tmp 86) = _ := Eq.trans (hf 86) (by conv => lhs; simp [go_sem])
          have y87 : A.eval (.tmp 87) = _ := Eq.trans (hf 87) (by conv => lhs; simp [go_sem])
          have y88 : A.eval (.tmp 88) = _ := Eq.trans (hf 88) (by conv => lhs; simp [go_sem])
          have y89 : A.eval (.tmp 89) = _ := Eq.trans (hf 89) (by conv => lhs; simp [go_sem])
          have y90 : A.eval (.tmp 90) = _ := Eq.trans (hf 90) (by conv => lhs; simp [go_sem])
          have y91 : A.eval (.tmp 91) = _ := Eq.trans (hf 91) (by conv => lhs; simp [go_sem])
          have y92 : A.eval (.tmp 92) = _ := Eq.trans (hf 92) (by conv => lhs; simp [go_sem])
          have y93 : A.eval (.tmp 93) = _ := Eq.trans (hf 93) (by conv => lhs; simp [go_sem])
          have y94 : A.eval (.tmp 94) = _ := Eq.trans (hf 94) (by conv => lhs; simp [go_sem])
          have y95 : A.eval (.tmp 95) = _ := Eq.trans (hf 95) (by conv => lhs; simp [go_sem])
          have y96 : A.eval (.tmp 96) = _ := Eq.trans (hf 96) (by conv => lhs; simp [go_sem])
          have y97 : A.eval (.tmp 97) = _ := Eq.trans (hf 97) (by conv => lhs; simp [go_sem])
          have y98 : A.eval (.tmp 98) = _ := Eq.trans (hf 98) (by conv => lhs; simp [go_sem])
          have y99 : A.eval (.tmp 99) = _ := Eq.trans (hf 99) (by conv => lhs; simp [go_sem])
          have y100 : A.eval (.tmp 100) = _ := Eq.trans (hf 100) (by conv => lhs; simp [go_sem])
          have y101 : A.eval (.tmp 101) = _ := Eq.trans (hf 101) (by conv => lhs; simp [go_sem])
          have y102 : A.eval (.tmp 102) = _ := Eq.trans (hf 102) (by conv => lhs; simp [go_sem])
          have y103 : A.eval (.tmp 103) = _ := Eq.trans (hf 103) (by conv => lhs; simp [go_sem])
          have y104 : A.eval (.tmp 104) = _ := Eq.trans (hf 104) (by conv => lhs; simp [go_sem])
          clear hf
          have hA := frame_eq hn
          rw [show List.range 105 = [0, 1, 2, 3, 4, 5, 6, 7, 8, 9, 10, 11, 12, 13, 14, 15, 16, 17, 18, 19, 20, 21, 22, 23, 24, 25, 26, 27, 28, 29, 30, 31, 32, 33, 34, 35, 36, 37, 38, 39, 40, 41, 42, 43, 44, 45, 46, 47, 48, 49, 50, 51, 52, 53, 54, 55, 56, 57, 58, 59, 60, 61, 62, 63, 64, 65, 66, 67, 68, 69, 70, 71, 72, 73, 74, 75, 76, 77, 78, 79, 80, 81, 82, 83, 84, 85, 86, 87, 88, 89, 90, 91, 92, 93, 94, 95, 96, 97, 98, 99, 100, 101, 102, 103, 104] from rfl, hd] at hA
          simp only [List.map_cons, List.map_nil, y0, y1, y2, y3, y4, y5, y6, y7, y8, y9, y10, y11, y12, y13, y14, y15, y16, y17, y18, y19, y20, y21, y22, y23, y24, y25, y26, y27, y28, y29, y30, y31, y32, y33, y34, y35, y36, y37, y38, y39, y40, y41, y42, y43, y44, y45, y46, y47, y48, y49, y50, y51, y52, y53, y54, y55, y56, y57, y58, y59, y60, y61, y62, y63, y64, y65, y66, y67, y68, y69, y70, y71, y72, y73, y74, y75, y76, y77, y78, y79, y80, y81, y82, y83, y84, y85, y86, y87, y88, y89, y90, y91, y92, y93, y94, y95, y96, y97, y98, y99, y100, y101, y102, y103, y104] at hA
          clear y0 y1 y2 y3 y4 y5 y6 y7 y8 y9 y10 y11 y12 y13 y14 y15 y16 y17 y18 y19 y20 y21 y22 y23 y24 y25 y26 y27 y28 y29 y30 y31 y32 y33 y34 y35 y36 y37 y38 y39 y40 y41 y42 y43 y44 y45 y46 y47 y48 y49 y50 y51 y52 y53 y54 y55 y56 y57 y58 y59 y60 y61 y62 y63 y64 y65 y66 y67 y68 y69 y70 y71 y72 y73 y74 y75 y76 y77 y78 y79 y80 y81 y82 y83 y84 y85 y86 y87 y88 y89 y90 y91 y92 y93 y94 y95 y96 y97 y98 y99 y100 y101 y102 y103 y104
          clear hn hd
          subst hA
          replace HBX := Lib.hid (HBX.out.trans (hC.mono HBX.out.size))
          clear hC kc
          have hEq := fun W => neqVW y y W
          rw [show eqVw y y = true from eqVw_iff.2 rfl] at hEq
          have kc : ∀ w', Below U5.heap.size U5 w' → C7 w' b2 (off + k * 7) y ∧ C7 w' b4 (off4 + k * 7) y := fun w' hb => by
            have hb9 := HBX.out.trans (hb.mono HBX.out.size)
            have h1 := (H0.out.below hb9).all hlt
            have h2 := (HM.out.below hb9).all (show k < M.length by rw [HML.out]; exact hlt)
            rw [HY.out] at h1
            rw [HZ.out] at h2
            exact ⟨h1.2, h2.2⟩
          simp only [C7] at kc
          go_upto_region 10 with (fail)
          refine wp_region_typed (C := fun w' => Below U5.heap.size U5 w') (X := fun w w' => Below w.heap.size w w') (n := 105) (by kernel_rfl) (by kernel_rfl) rfl (fun w => Below.refl _ w) (Below.refl _ _).drew ?_
          refine w_is (fun w => Below.refl _ w) _ (.inl rfl) (fun ρ w hC hc hfn hf => by have e9 : ρ (.tmp 9) = _ := hf 9 (by decide); (conv => lhs; simp [execOp, go_sem, hc, e9])) ?_
          refine w_is (fun w => Below.refl _ w) _ (.inl rfl) (fun ρ w hC hc hfn hf => by have e61 : ρ (.tmp 61) = _ := hf 61 (by decide); (conv => lhs; simp [execOp, go_sem, hc, e61])) ?_
          refine w_skip rfl rfl (known_is rfl) ?_
          refine w_skip rfl rfl (known_is rfl) ?_
          refine w_skip rfl rfl (known_is rfl) ?_
          refine w_skip rfl rfl (known_is rfl) ?_
          refine w_skip rfl rfl (known_is rfl) ?_
          refine w_skip rfl rfl (known_is rfl) ?_
          refine w_skip rfl rfl (known_is rfl) ?_
          refine w_skip rfl rfl (known_is rfl) ?_
          refine w_skip rfl rfl (known_is rfl) ?_
          refine w_skip rfl rfl (known_is rfl) ?_
          refine w_skip rfl rfl (known_is rfl) ?_
          refine w_skip rfl rfl (known_is rfl) ?_
          refine w_is (fun w => Below.refl _ w) _ (.inl rfl) (fun ρ w hC hc hfn hf => by have e62 : ρ (.tmp 62) = _ := hf 62 (by decide); have e74 : ρ (.tmp 74) = _ := hf 74 (by decide); (conv => lhs; simp [execOp, go_sem, hc, e62, e74])) ?_
          refine w_is (fun w => Below.refl _ w) _ (.inl rfl) (fun ρ w hC hc hfn hf => by have e75 : ρ (.tmp 75) = _ := hf 75 (by decide); (conv => lhs; simp [execOp, go_sem, hc, e75])) ?_
          refine w_is (fun w => Below.refl _ w) _ (.inr ⟨15, 76, false, rfl, rfl, known_is rfl⟩) (fun ρ w hC hc hfn hf => by have e9 : ρ (.tmp 9) = _ := hf 9 (by decide); (conv => lhs; simp [execOp, go_sem, hc, e9])) ?_
          refine w_is (fun w => Below.refl _ w) _ (.inr ⟨15, 76, false, rfl, rfl, known_is rfl⟩) (fun ρ w hC hc hfn hf => by have e77 : ρ (.tmp 77) = _ := hf 77 (by decide); (conv => lhs; simp [execOp, go_sem, hc, e77])) ?_
          refine w_is (fun w => Below.refl _ w) _ (.inr ⟨15, 76, false, rfl, rfl, known_is rfl⟩) (fun ρ w hC hc hfn hf => by have e78 : ρ (.tmp 78) = _ := hf 78 (by decide); (conv => lhs; simp [execOp, go_sem, hc, e78])) ?_
          refine w_is (fun w => Below.refl _ w) _ (.inr ⟨18, 79, true, rfl, rfl, known_is rfl⟩) (fun ρ w hC hc hfn hf => by have e7 : ρ (.tmp 7) = _ := hf 7 (by decide); (conv => lhs; simp [execOp, go_sem, hc, e7])) ?_
          refine w_is (fun w => Below.refl _ w) _ (.inr ⟨18, 79, true, rfl, rfl, known_is rfl⟩) (fun ρ w hC hc hfn hf => by have e8 : ρ (.tmp 8) = _ := hf 8 (by decide); (conv => lhs; simp [execOp, go_sem, hc, e8])) ?_
          refine w_is (fun w => Below.refl _ w) _ (.inr ⟨18, 79, true, rfl, rfl, known_is rfl⟩) (fun ρ w hC hc hfn hf => by have e80 : ρ (.tmp 80) = _ := hf 80 (by decide); have e81 : ρ (.tmp 81) = _ := hf 81 (by decide); (conv => lhs; simp [execOp, go_sem, hc, e80, e81, hlt])) ?_
          refine w_is (fun w => Below.refl _ w) _ (.inr ⟨18, 79, true, rfl, rfl, known_is rfl⟩) (fun ρ w hC hc hfn hf => by have e82 : ρ (.tmp 82) = _ := hf 82 (by decide); (conv => lhs; simp [execOp, go_sem, hc, e82, kc w hC])) ?_
          refine w_is (fun w => Below.refl _ w) _ (.inr ⟨18, 79, true, rfl, rfl, known_is rfl⟩) (fun ρ w hC hc hfn hf => by have e0 : ρ (.tmp 0) = _ := hf 0 (by decide); (conv => lhs; simp [execOp, go_sem, hc, e0])) ?_
          refine w_is (fun w => Below.refl _ w) _ (.inr ⟨18, 79, true, rfl, rfl, known_is rfl⟩) (fun ρ w hC hc hfn hf => by have e8 : ρ (.tmp 8) = _ := hf 8 (by decide); (conv => lhs; simp [execOp, go_sem, hc, e8])) ?_
          refine w_is (fun w => Below.refl _ w) _ (.inr ⟨18, 79, true, rfl, rfl, known_is rfl⟩) (fun ρ w hC hc hfn hf => by have e84 : ρ (.tmp 84) = _ := hf 84 (by decide); have e85 : ρ (.tmp 85) = _ := hf 85 (by decide); (conv => lhs; simp [execOp, go_sem, hc, e84, e85, hlt])) ?_
          refine w_is (fun w => Below.refl _ w) _ (.inr ⟨18, 79, true, rfl, rfl, known_is rfl⟩) (fun ρ w hC hc hfn hf => by have e86 : ρ (.tmp 86) = _ := hf 86 (by decide); (conv => lhs; simp [execOp, go_sem, hc, e86, kc w hC])) ?_
          refine w_is (fun w => Below.refl _ w) _ (.inr ⟨18, 79, true, rfl, rfl, known_is rfl⟩) (fun ρ w hC hc hfn hf => by have e83 : ρ (.tmp 83) = _ := hf 83 (by decide); have e87 : ρ (.tmp 87) = _ := hf 87 (by decide); (conv => lhs; simp [execOp, go_sem, hc, e83, e87, hEq w, guardVW])) ?_
          refine w_is (fun w => Below.refl _ w) _ (.inr ⟨15, 76, false, rfl, rfl, known_is rfl⟩) (fun ρ w hC hc hfn hf => by have e79 : ρ (.tmp 79) = _ := hf 79 (by decide); have e88 : ρ (.tmp 88) = _ := hf 88 (by decide); (conv => lhs; simp [execOp, go_sem, hc, e79, e88])) ?_
          refine w_is (fun w => Below.refl _ w) _ (.inl rfl) (fun ρ w hC hc hfn hf => by have e76 : ρ (.tmp 76) = _ := hf 76 (by decide); have e89 : ρ (.tmp 89) = _ := hf 89 (by decide); (conv => lhs; simp [execOp, go_sem, hc, e76, e89])) ?_
          intro A U6 hC hn hd hf
          have y0 : A.eval (.tmp 0) = _ := Eq.trans (hf 0) (by conv => lhs; simp [go_sem])
          have y1 : A.eval (.tmp 1) = _ := Eq.trans (hf 1) (by conv => lhs; simp [go_sem])
          have y2 : A.eval (.tmp 2) = _ := Eq.trans (hf 2) (by conv => lhs; simp [go_sem])
          have y3 : A.eval (.tmp 3) = _ := Eq.trans (hf 3) (by conv => lhs; simp [go_sem])
          have y4 : A.eval (.tmp 4) = _ := Eq.trans (hf 4) (by conv => lhs; simp [go_sem])
          have y5 : A.eval (.tmp 5) = _ := Eq.trans (hf 5) (by conv => lhs; simp [go_sem])
          have y6 : A.eval (.tmp 6) = _ := Eq.trans (hf 6) (by conv => lhs; simp [go_sem])
          have y7 : A.eval (.tmp 7) = _ := Eq.trans (hf 7) (by conv => lhs; simp [go_sem])
          have y8 : A.eval (.tmp 8) = _ := Eq.trans (hf 8) (by conv => lhs; simp [go_sem])
          have y9 : A.eval (.tmp 9) = _ := Eq.trans (hf 9) (by conv => lhs; simp [go_sem])
          have y10 : A.eval (.tmp 10) = _ := Eq.trans (hf 10) (by conv => lhs; simp [go_sem])
          have y11 : A.eval (.tmp 11) = _ := Eq.trans (hf 11) (by conv => lhs; simp [go_sem])
          have y12 : A.eval (.tmp 12) = _ := Eq.trans (hf 12) (by conv => lhs; simp [go_sem])
          have y13 : A.eval (.tmp 13) = _ := Eq.trans (hf 13) (by conv => lhs; simp [go_sem])
          have y14 : A.eval (.tmp 14) = _ := Eq.trans (hf 14) (by conv => lhs; simp [go_sem])
          have y15 : A.eval (.tmp 15) = _ := Eq.trans (hf 15) (by conv => lhs; simp [go_sem])
          have y16 : A.eval (.tmp 16) = _ := Eq.trans (hf 16) (by conv => lhs; simp [go_sem])
          have y17 : A.eval (.tmp 17) = _ := Eq.trans (hf 17) (by conv => lhs; simp [go_sem])
          have y18 : A.eval (.tmp 18) = _ := Eq.trans (hf 18) (by conv => lhs; simp [go_sem])
          have y19 : A.eval (.tmp 19) = _ := Eq.trans (hf 19) (by conv => lhs; simp [go_sem])
          have y20 : A.eval (.tmp 20) = _ := Eq.trans (hf 20) (by conv => lhs; simp [go_sem])
          have y21 : A.eval (.tmp 21) = _ := Eq.trans (hf 21) (by conv => lhs; simp [go_sem])
          have y22 : A.eval (.tmp 22) = _ := Eq.trans (hf 22) (by conv => lhs; simp [go_sem])
          have y23 : A.eval (.tmp 23) = _ := Eq.trans (hf 23) (by conv => lhs; simp [go_sem])
          have y24 : A.eval (.tmp 24) = _ := Eq.trans (hf 24) (by conv => lhs; simp [go_sem])
          have y25 : A.eval (.tmp 25) = _ := Eq.trans (hf 25) (by conv => lhs; simp [go_sem])
          have y26 : A.eval (.tmp 26) = _ := Eq.trans (hf 26) (by conv => lhs; simp [go_sem])
          have y27 : A.eval (.tmp 27) = _ := Eq.trans (hf 27) (by conv => lhs; simp [go_sem])
          have y28 : A.eval (.tmp 28) = _ := Eq.trans (hf 28) (by conv => lhs; simp [go_sem])
          have y29 : A.eval (.tmp 29) = _ := Eq.trans (hf 29) (by conv => lhs; simp [go_sem])
          have y30 : A.eval (.tmp 30) = _ := Eq.trans (hf 30) (by conv => lhs; simp [go_sem])
          have y31 : A.eval (.tmp 31) = _ := Eq.trans (hf 31) (by conv => lhs; simp [go_sem])
          have y32 : A.eval (.tmp 32) = _ := Eq.trans (hf 32) (by conv => lhs; simp [go_sem])
          have y33 : A.eval (.tmp 33) = _ := Eq.trans (hf 33) (by conv => lhs; simp [go_sem])
          have y34 : A.eval (.tmp 34) = _ := Eq.trans (hf 34) (by conv => lhs; simp [go_sem])
          have y35 : A.eval (.tmp 35) = _ := Eq.trans (hf 35) (by conv => lhs; simp [go_sem])
          have y36 : A.eval (.tmp 36) = _ := Eq.trans (hf 36) (by conv => lhs; simp [go_sem])
          have y37 : A.eval (.tmp 37) = _ := Eq.trans (hf 37) (by conv => lhs; simp [go_sem])
          have y38 : A.eval (.tmp 38) = _ := Eq.trans (hf 38) (by conv => lhs; simp [go_sem])
          have y39 : A.eval (.tmp 39) = _ := Eq.trans (hf 39) (by conv => lhs; simp [go_sem])
          have y40 : A.eval (.tmp 40) = _ := Eq.trans (hf 40) (by conv => lhs; simp [go_sem])
          have y41 : A.eval (.tmp 41) = _ := Eq.trans (hf 41) (by conv => lhs; simp [go_sem])
          have y42 : A.eval (.tmp 42) = _ := Eq.trans (hf 42) (by conv => lhs; simp [go_sem])
          have y43 : A.eval (.tmp 43) = _ := Eq.trans (hf 43) (by conv => lhs; simp [go_sem])
          have y44 : A.eval (.tmp 44) = _ := Eq.trans (hf 44) (by conv => lhs; simp [go_sem])
          have y45 : A.eval (.tmp 45) = _ := Eq.trans (hf 45) (by conv => lhs; simp [go_sem])
          have y46 : A.eval (.tmp 46) = _ := Eq.trans (hf 46) (by conv => lhs; simp [go_sem])
          have y47 : A.eval (.tmp 47) = _ := Eq.trans (hf 47) (by conv => lhs; simp [go_sem])
          have y48 : A.eval (.tmp 48) = _ := Eq.trans (hf 48) (by conv => lhs; simp [go_sem])
          have y49 : A.eval (.tmp 49) = _ := Eq.trans (hf 49) (by conv => lhs; simp [go_sem])
          have y50 : A.eval (.tmp 50) = _ := Eq.trans (hf 50) (by conv => lhs; simp [go_sem])
          have y51 : A.eval (.tmp 51) = _ := Eq.trans (hf 51) (by conv => lhs; simp [go_sem])
          have y52 : A.eval (.tmp 52) = _ := Eq.trans (hf 52) (by conv => lhs; simp [go_sem])
          have y53 : A.eval (.tmp 53) = _ := Eq.trans (hf 53) (by conv => lhs; simp [go_sem])
          have y54 : A.eval (.tmp 54) = _ := Eq.trans (hf 54) (by conv => lhs; simp [go_sem])
          have y55 : A.eval (.tmp 55) = _ := Eq.trans (hf 55) (by conv => lhs; simp [go_sem])
          have y56 : A.eval (.tmp 56) = _ := Eq.trans (hf 56) (by conv => lhs; simp [go_sem])
          have y57 : A.eval (.tmp 57) = _ := Eq.trans (hf 57) (by conv => lhs; simp [go_sem])
          have y58 : A.eval (.tmp 58) = _ := Eq.trans (hf 58) (by conv => lhs; simp [go_sem])
          have y59 : A.eval (.tmp 59) = _ := Eq.trans (hf 59) (by conv => lhs; simp [go_sem])
          have y60 : A.eval (.tmp 60) = _ := Eq.trans (hf 60) (by conv => lhs; simp [go_sem])
          have y61 : A.eval (.tmp 61) = _ := hf 61
          have y62 : A.eval (.tmp 62) = _ := hf 62
          have y63 : A.eval (.tmp 63) = _ := hf 63
          have y64 : A.eval (.tmp 64) = _ := hf 64
          have y65 : A.eval (.tmp 65) = _ := hf 65
          have y66 : A.eval (.tmp 66) = _ := hf 66
          have y67 : A.eval (.tmp 67) = _ := hf 67
          have y68 : A.eval (.tmp 68) = _ := hf 68
          have y69 : A.eval (.tmp 69) = _ := hf 69
          have y70 : A.eval (.tmp 70) = _ := hf 70
          have y71 : A.eval (.tmp 71) = _ := hf 71
          have y72 : A.eval (.tmp 72) = _ := hf 72
          have y73 : A.eval (.tmp 73) = _ := hf 73
          have y74 : A.eval (.tmp 74) = _ := hf 74
          have y75 : A.eval (.tmp 75) = _ := hf 75
          have y76 : A.eval (.tmp 76) = _ := hf 76
          have y77 : A.eval (.tmp 77) = _ := hf 77
          have y78 : A.eval (.tmp 78) = _ := hf 78
          have y79 : A.eval (.tmp 79) = _ := hf 79
          have y80 : A.eval (.tmp 80) = _ := hf 80
          have y81 : A.eval (.tmp 81) = _ := hf 81
          have y82 : A.eval (.tmp 82) = _ := hf 82
          have y83 : A.eval (.tmp 83) = _ := hf 83
          have y84 : A.eval (.tmp 84) = _ := hf 84
          have y85 : A.eval (.tmp 85) = _ := hf 85
          have y86 : A.eval (.tmp 86) = _ := hf 86
          have y87 : A.eval (.tmp 87) = _ := hf 87
          have y88 : A.eval (.tmp 88) = _ := hf 88
          have y89 : A.eval (.tmp 89) = _ := hf 89
          have y90 : A.eval (.tmp 90) = _ := hf 90
          have y91 : A.eval (.tmp 91) = _ := Eq.trans (hf 91) (by conv => lhs; simp [go_sem])
          have y92 : A.eval (.tmp 92) = _ := Eq.trans (hf 92) (by conv => lhs; simp [go_sem])
          have y93 : A.eval (.tmp 93) = _ := Eq.trans (hf 93) (by conv => lhs; simp [go_sem])
          have y94 : A.eval (.tmp 94) = _ := Eq.trans (hf 94) (by conv => lhs; simp [go_sem])
          have y95 : A.eval (.tmp 95) = _ := Eq.trans (hf 95) (by conv => lhs; simp [go_sem])
          have y96 : A.eval (.tmp 96) = _ := Eq.trans (hf 96) (by conv => lhs; simp [go_sem])
          have y97 : A.eval (.tmp 97) = _ := Eq.trans (hf 97) (by conv => lhs; simp [go_sem])
          have y98 : A.eval (.tmp 98) = _ := Eq.trans (hf 98) (by conv => lhs; simp [go_sem])
          have y99 : A.eval (.tmp 99) = _ := Eq.trans (hf 99) (by conv => lhs; simp [go_sem])
          have y100 : A.eval (.tmp 100) = _ := Eq.trans (hf 100) (by conv => lhs; simp [go_sem])
          have y101 : A.eval (.tmp 101) = _ := Eq.trans (hf 101) (by conv => lhs; simp [go_sem])
          have y102 : A.eval (.tmp 102) = _ := Eq.trans (hf 102) (by conv => lhs; simp [go_sem])
          have y103 : A.eval (.tmp 103) = _ := Eq.trans (hf 103) (by conv => lhs; simp [go_sem])
          have y104 : A.eval (.tmp 104) = _ := Eq.trans (hf 104) (by conv => lhs; simp [go_sem])
          clear hf
          have hA := frame_eq hn
          rw [show List.range 105 = [0, 1, 2, 3, 4, 5, 6, 7, 8, 9, 10, 11, 12, 13, 14, 15, 16, 17, 18, 19, 20, 21, 22, 23, 24, 25, 26, 27, 28, 29, 30, 31, 32, 33, 34, 35, 36, 37, 38, 39, 40, 41, 42, 43, 44, 45, 46, 47, 48, 49, 50, 51, 52, 53, 54, 55, 56, 57, 58, 59, 60, 61, 62, 63, 64, 65, 66, 67, 68, 69, 70, 71, 72, 73, 74, 75, 76, 77, 78, 79, 80, 81, 82, 83, 84, 85, 86, 87, 88, 89, 90, 91, 92, 93, 94, 95, 96, 97, 98, 99, 100, 101, 102, 103, 104] from rfl, hd] at hA
          simp only [List.map_cons, List.map_nil, y0, y1, y2, y3, y4, y5, y6, y7, y8, y9, y10, y11, y12, y13, y14, y15, y16, y17, y18, y19, y20, y21, y22, y23, y24, y25, y26, y27, y28, y29, y30, y31, y32, y33, y34, y35, y36, y37, y38, y39, y40, y41, y42, y43, y44, y45, y46, y47, y48, y49, y50, y51, y52, y53, y54, y55, y56, y57, y58, y59, y60, y61, y62, y63, y64, y65, y66, y67, y68, y69, y70, y71, y72, y73, y74, y75, y76, y77, y78, y79, y80, y81, y82, y83, y84, y85, y86, y87, y88, y89, y90, y91, y92, y93, y94, y95, y96, y97, y98, y99, y100, y101, y102, y103, y104] at hA
          clear y0 y1 y2 y3 y4 y5 y6 y7 y8 y9 y10 y11 y12 y13 y14 y15 y16 y17 y18 y19 y20 y21 y22 y23 y24 y25 y26 y27 y28 y29 y30 y31 y32 y33 y34 y35 y36 y37 y38 y39 y40 y41 y42 y43 y44 y45 y46 y47 y48 y49 y50 y51 y52 y53 y54 y55 y56 y57 y58 y59 y60 y61 y62 y63 y64 y65 y66 y67 y68 y69 y70 y71 y72 y73 y74 y75 y76 y77 y78 y79 y80 y81 y82 y83 y84 y85 y86 y87 y88 y89 y90 y91 y92 y93 y94 y95 y96 y97 y98 y99 y100 y101 y102 y103 y104
          clear hn hd
          subst hA
          replace HBX := Lib.hid (HBX.out.trans (hC.mono HBX.out.size))
          clear hC kc
          go_wp2_with fail
          go_roundw
          case rel => exact ⟨k + 1, by omega, by go_num, HBX.out⟩
          case measure => simp [intOf]; omega
    · obtain rfl : k = z0.length := by omega
      have HBX := Lib.hid (HB.out.trans (HBW.out.mono HB.out.size))
      have HMX := Lib.hid (HM.out.below HBW.out)
      obtain ⟨⟨u0, u1, u2⟩, -⟩ := (Y1.out.below HBW.out)
      go_wp2_with fail
      refine (awake12 hvc _).mono ?_
      rintro e U1 ⟨rfl, hb⟩
      replace HMX := Lib.hid (HMX.out.below hb)
      have HB1 := Lib.hid (HBW.out.trans (hb.mono HBW.out.size))
      replace HBX := Lib.hid (HBX.out.trans (hb.mono HBX.out.size))
      clear hb u0 u1 u2
      obtain ⟨⟨u0, u1, u2⟩, -⟩ := (Y1.out.below HB1.out)
      have C := hvc.check _ M _ HMX.out (by have := HML.out; have := HL.out; omega)
      rw [HMK.out, HML.out] at C
      go_wp2_with fail
      refine C.mono ?_
      rintro e U2 ⟨rfl, hb⟩
      replace HMX := Lib.hid (HMX.out.below hb)
      have HB2 := Lib.hid (HB1.out.trans (hb.mono HB1.out.size))
      replace HBX := Lib.hid (HBX.out.trans (hb.mono HBX.out.size))
      clear hb u0 u1 u2 C
      obtain ⟨⟨u0, u1, u2⟩, -⟩ := (Y1.out.below HB2.out)
      have C := hvc.forget _ M lv1 a2 _ HMX.out (by have := HML.out; have := HL.out; omega)
      rw [HM2.out, HML.out] at C
      go_wp2_with fail
      refine C.mono ?_
      rintro e U3 ⟨r3, rfl, hv, hb⟩
      replace HMX := Lib.hid (HMX.out.below hb)
      replace HBX := Lib.hid (HBX.out.trans (hb.mono HBX.out.size))
      have C9 := vsame_yes hv HMX.out (by have := HML.out; have := HL.out; omega)
      rw [HML.out] at C9
      obtain ⟨a9, c9, rfl⟩ := hv.form
      clear hb u0 u1 u2 C hv
      go_wp2_with fail
      refine C9.mono ?_
      rintro e U4 ⟨rfl, hb⟩
      replace HBX := Lib.hid (HBX.out.trans (hb.mono HBX.out.size))
      clear hb C9
      go_wp2_with fail
      go_ret
      exact ⟨rfl, HBX.out⟩
theorem walk (hvc : Vc) (a0 : Option Addr) (cap0 : Nat) (z0 : List Vw) (t1 o1 r1 : Int) (w1 : I64 t1 ∧ I64 o1 ∧ I64 r1) (a2 : Int) (w2 : I64 a2) (w : World) (r0 : Vs w (.slice a0 z0.length cap0) z0) :
    Calls Try.prog 7 #[.slice a0 z0.length cap0, .agg #[.int .i64 t1, .int .i64 o1, .int .i64 r1], .int .i64 a2] w fun e w' => e = .returned (.bool true) ∧ Below w.heap.size w w' := walk0 hvc a0 cap0 z0 (t1, o1, r1) a2 w r0

set_option maxRecDepth 100000 in
theorem lifted (os : _root_.Go.Os) (started : os.Started) (H : Type) (enc : TypeId × Value → H) :
    ReturnsInHanded {} Try.checked os 7 .any (Rows.viewsForgetSpec.pre6 enc Try.prog Try.f7 Rows.viewsForgetRow.domain false) (Rows.viewsForgetSpec.post enc Try.prog Try.f7 false true false false) := by
  refine returnsInHanded_of_change (C := Try.checked) own started (by kernel_rfl) Try.func7
    (ChangeSpec.witness6 (enc := enc) (C := Try.checked) false ⟨#[], #[.slice none 0 0, .agg #[.int .i64 0, .int .i64 0, .int .i64 0], .int .i64 0], []⟩ 16 (by kernel_rfl) (by kernel_rfl) (by kernel_rfl) (by kernel_rfl)) ?_
  intro W base args ds gs before hval0 hW hcnd _
  have hval : ∀ (j : Nat) t v, Try.f7.params[j]? = some t → args[j]? = some v → Value.okWide Try.prog W .any base t v := hval0
  have hW' := hW
  obtain ⟨p, q, hA0, hV, rfl, hfz, hnd⟩ := hW
  have hA : DataW.TrodAll enc Try.prog W 0 (fun _ => true) true Try.f7.params.toList args.toList ds p := hA0
  rw [Try.params7] at hA hval
  obtain ⟨v0, vs0, e0, ds0, p0, q0, hargs, rfl, rfl, h0, x0⟩ := trodAll_cons hA
  obtain ⟨v1, vs1, e1, ds1, p1, q1, rfl, rfl, rfl, h1, x1⟩ := trodAll_cons x0
  obtain ⟨v2, vs2, e2, ds2, p2, q2, rfl, rfl, rfl, h2, x2⟩ := trodAll_cons x1
  obtain ⟨rfl, rfl, rfl⟩ := trodAll_nil x2
  obtain rfl : args = #[v0, v1, v2] := by cases args; simp_all
  obtain ⟨rfl, rfl⟩ := trodVars_none hV
  have k0 := h0
  have lt0 : ∀ x ∈ p0, x.block < W.heap.size := by obtain ⟨m, hm⟩ := k0; exact DataW.trod_lt m _ _ _ hm
  have k1 := h1
  have lt1 : ∀ x ∈ p1, x.block < W.heap.size := by obtain ⟨m, hm⟩ := k1; exact DataW.trod_lt m _ _ _ hm
  obtain ⟨t1, o1, r1, rfl, w1⟩ := lev_form (hval 1 38 v1 rfl rfl) h1
  have k2 := h2
  have lt2 : ∀ x ∈ p2, x.block < W.heap.size := by obtain ⟨m, hm⟩ := k2; exact DataW.trod_lt m _ _ _ hm
  obtain ⟨a2, rfl, _, _, w2⟩ := open_int Try.underlying3 (hval 2 3 v2 rfl rfl) h2
  obtain ⟨a0, len0, cap0, rfl⟩ := okWide_slice underVS (hval 0 22 v0 rfl rfl)
  obtain ⟨z0, hz0, w0, hm0⟩ := vs_form h0
  subst hz0
  clear hA0 hval0
  refine (walk vc a0 cap0 z0 t1 o1 r1 w1 a2 (i64_wf w2) W w0).mono fun e W' ⟨he, bel⟩ => ?_
  subst he
  exact ⟨_, rfl, _, _, _, [], _, [], hW', trodAll_mk1 (shut_bool Try.underlying4 _), (trodAll_cons_mk (Below.trod laidOut (by kernel_rfl) (of_decide_eq_true (by kernel_rfl)) k0 bel lt0) (trodAll_cons_mk (Below.trod laidOut (by kernel_rfl) (of_decide_eq_true (by kernel_rfl)) k1 bel lt1) (trodAll_cons_mk (Below.trod laidOut (by kernel_rfl) (of_decide_eq_true (by kernel_rfl)) k2 bel lt2) trodAll_mk0))), rfl, bel.frame _, fun h => by cases h⟩

theorem over : Rows.viewsForgetRow.holds Try.pinned (OpenSpec.ofChange Rows.viewsForgetSpec) :=
  OpenClaim.holds_of_wide 7 Try.f7 rfl rfl rfl rfl rfl rfl rfl ⟨rfl, rfl, rfl, rfl, rfl⟩ rfl rfl rfl rfl rfl (by kernel_rfl) Try.func7 (by kernel_rfl)
    (of_decide_eq_true (by kernel_rfl)) (by unfold Func.isWrapper; first | (rw [if_pos (by decide +kernel)]; kernel_rfl) | (rw [if_neg (by decide +kernel)]; exact ⟨rfl, rfl⟩))
    (fun os started H enc _ => lifted os started H enc)

theorem proved : Rows.ViewsForgetSaid := over
#print axioms proved
end Go.Proofs.Ytahhhegknmiinaa.viewsForget
