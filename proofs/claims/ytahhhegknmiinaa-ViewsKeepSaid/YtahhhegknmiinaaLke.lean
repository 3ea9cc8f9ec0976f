/- thalweglaw12.ViewsKeep: for any views, numbers and height the law answers true; no condition. -/
import Derived.Test.YtahhhegknmiinaaVmt
import Derived.Test.YtahhhegknmiinaaVpm
import Derived.WalkLawsBesides
import Derived.WalkKit
import Derived.ProofKit
import Derived.OpenShut
import Derived.ShutString
import Derived.ChangeOld
import Derived.Below
namespace Go.Proofs.Ytahhhegknmiinaa.viewsKeep
open Go.ChangeShapes Go.WideShapes Go.ChangeAt Go.RowKit
open Go.ChangeMaps (open_string shut_string)
set_option linter.unusedVariables false
set_option maxRecDepth 100000

theorem own : ownKnob Try.prog.godebug = none := by kernel_rfl
theorem laidOut : laidOutB Try.prog = true := by kernel_rfl
theorem setL_len (l : List Vw) (id : Int) (h : Hx) : (setL l id h).length ≤ l.length + 1 := by
  unfold setL
  split
  · exact raw_len id h l
  · exact Nat.zero_le _
theorem dropL_len (l : List Vw) (id : Int) : (dropL l id).length ≤ l.length := by
  unfold dropL
  split
  · split
    · exact Nat.zero_le _
    · exact dropF_le l id
  · exact Nat.zero_le _
set_option maxHeartbeats 4000000 in
theorem walk0 (hvc : Vc) (a0 : Option Addr) (cap0 : Nat) (z0 : List Vw) (a1 : Int) (a2 : Int) (x3 : Hx) (w : World) (r0 : Vs w (.slice a0 z0.length cap0) z0) :
    Calls Try.prog 5 #[.slice a0 z0.length cap0, .int .i64 a1, .int .i64 a2, hxV x3] w fun e w' => e = .returned (.bool true) ∧ Below w.heap.size w w' := by
  by_cases hl : 100 < z0.length
  · have hl_ : (100 : Int) < (z0.length : Int) := by omega
    have hb1 : Below w.heap.size w (w.alloc (.cells #[.bool x3.1, .int .i64 x3.2.1, .int .i64 x3.2.2.1, .int .i64 x3.2.2.2.1, .int .i64 x3.2.2.2.2.1, .int .i64 x3.2.2.2.2.2] 24)) := (Below.refl _ w).alloc (Nat.le_refl _) _
    have HB := Lib.hid hb1
    clear hb1 r0
    go_enter Try.func5, Try.ntmps5
    go_wp2_with fail
    refine (awake12 hvc _).mono ?_
    rintro e W9 ⟨rfl, hb⟩
    have HB9 := Lib.hid (HB.out.trans (hb.mono HB.out.size))
    clear hb
    go_wp2_with fail
    go_ret
    exact ⟨rfl, HB9.out⟩
  by_cases hi : a1 = a2
  · have hi_ : (a1 == a2) = true := by simpa using hi
    clear hi
    have hl_ : ¬ (100 : Int) < (z0.length : Int) := by omega
    have hb1 : Below w.heap.size w (w.alloc (.cells #[.bool x3.1, .int .i64 x3.2.1, .int .i64 x3.2.2.1, .int .i64 x3.2.2.2.1, .int .i64 x3.2.2.2.2.1, .int .i64 x3.2.2.2.2.2] 24)) := (Below.refl _ w).alloc (Nat.le_refl _) _
    have HB := Lib.hid hb1
    clear hb1 r0
    go_enter Try.func5, Try.ntmps5
    go_wp2_with fail
    refine (awake12 hvc _).mono ?_
    rintro e W9 ⟨rfl, hb⟩
    have HB9 := Lib.hid (HB.out.trans (hb.mono HB.out.size))
    clear hb
    go_wp2_with fail
    go_ret
    exact ⟨rfl, HB9.out⟩
  have hl_ : ¬ (100 : Int) < (z0.length : Int) := by omega
  have hi_ : (a1 == a2) = false := by simpa using hi
  have HL : Hid (z0.length ≤ 100) := by show _ ≤ _; omega
  have HI := Lib.hid hi
  have H0 := Lib.hid r0
  have HB : Hid (Below w.heap.size w w) := Below.refl _ _
  clear r0 hl hi
  go_enter Try.func5, Try.ntmps5
  obtain ⟨W1, hW⟩ : ∃ W1, w.alloc (.cells #[.bool x3.1, .int .i64 x3.2.1, .int .i64 x3.2.2.1, .int .i64 x3.2.2.2.1, .int .i64 x3.2.2.2.2.1, .int .i64 x3.2.2.2.2.2] 24) = W1 := ⟨_, rfl⟩
  have hb : Below w.heap.size w W1 := hW ▸ (Below.refl _ w).alloc (Nat.le_refl _) _
  have X3 := Lib.hid (hW ▸ own6_alloc w x3.1 x3.2.1 x3.2.2.1 x3.2.2.2.1 x3.2.2.2.2.1 x3.2.2.2.2.2 24 w.heap.size rfl)
  have HW := Lib.hid hW
  clear hW
  go_upto_region 1 with (fail)
  change Code.wp _ _ _ _ (w.alloc (.cells #[.bool x3.1, .int .i64 x3.2.1, .int .i64 x3.2.2.1, .int .i64 x3.2.2.2.1, .int .i64 x3.2.2.2.2.1, .int .i64 x3.2.2.2.2.2] 24))
  rw [HW.out]
  replace H0 := Lib.hid (H0.out.below hb)
  replace HB := Lib.hid (HB.out.trans (hb.mono HB.out.size))
  clear hb HW
  obtain ⟨⟨u0, u1, u2, u3, u4, u5⟩, -⟩ := X3.out
  go_wp2_with fail
  refine (hvc.set _ z0 a1 x3 _ H0.out (Nat.le_trans HL.out (by decide))).mono ?_
  rintro e W2 ⟨r1, rfl, hv, hb⟩
  replace H0 := Lib.hid (H0.out.below hb)
  replace X3 := Lib.hid (X3.out.below hb)
  replace HB := Lib.hid (HB.out.trans (hb.mono HB.out.size))
  have HX := Lib.hid hv
  obtain ⟨ax, cx, rfl⟩ := hv.form
  clear hv hl_ hi_
  clear hb
  clear u0 u1 u2 u3 u4 u5
  obtain ⟨⟨u0, u1, u2, u3, u4, u5⟩, -⟩ := X3.out
  rcases set_cases z0 a1 x3 with ⟨hE, hS⟩ | ⟨hE, hS⟩
  · obtain ⟨X, hX⟩ : ∃ X, setL z0 a1 x3 = X := ⟨_, rfl⟩
    have hxl : X.length ≤ 101 := by have := setL_len z0 a1 x3; have := HL.out; rw [hX] at *; omega
    rw [hX] at hS HX
    rw [hE, hX]
    clear hX hE
    have HS := Lib.hid hS
    have HXL := Lib.hid hxl
    have hrx : Rise X := ((vok_iff X).1 hS.ok).1
    have hr0 : Rise z0 := ((vok_iff z0).1 hS.l_).1
    have hin : (a1, x3) ∈ X := (hS.mem _).2 (.inl rfl)
    have hd1 := drop_one hrx hin
    have hrd := rise_drop hrx a1
    have hdE : dropE X a1 = 0 ∧ dropL X a1 = dropF X a1 := by
      unfold dropE dropL
      rw [if_pos hS.ok, if_pos hS.ok, if_neg (by omega), if_neg (by omega)]
      exact ⟨rfl, rfl⟩
    have g1 := get_mem hrx hin
    have g2 : getV X a2 = getV z0 a2 ∧ getB X a2 = getB z0 a2 := get_same hrx hr0 (fun y hy => by
      rw [hS.mem]
      constructor
      · rintro (rfl | h)
        · exact absurd hy HI.out
        · exact h.1
      · exact fun h => .inr ⟨h, fun e => HI.out (e.symm.trans hy)⟩)
    have g3 : getV (dropF X a1) a2 = getV z0 a2 ∧ getB (dropF X a1) a2 = getB z0 a2 := by
      have h1 := get_same (id := a2) hrd hrx (fun y hy => by
        rw [mem_drop]
        exact ⟨fun h => h.1, fun h => ⟨h, fun e => HI.out (e.symm.trans hy)⟩⟩)
      exact ⟨h1.1.trans g2.1, h1.2.trans g2.2⟩
    have g4 : getV (dropF X a1) a1 = zHx ∧ getB (dropF X a1) a1 = false := get_none (fun y hy => (mem_drop.1 hy).2)
    have hck : chkV X = 0 := by unfold chkV; rw [if_pos hS.ok]
    obtain ⟨Y, hY⟩ : ∃ Y, dropF X a1 = Y := ⟨_, rfl⟩
    rw [hY] at hd1 hdE g3 g4
    have FC := Lib.hid hck
    have F1 := Lib.hid g1
    have F2 := Lib.hid g2
    have F3 := Lib.hid g3
    have F4 := Lib.hid g4
    have FD := Lib.hid hdE
    have HD1 := Lib.hid hd1
    have hyl : Y.length ≤ 101 := by omega
    have HYL := Lib.hid hyl
    clear hS hxl hrx hr0 hin hd1 hrd hdE g1 g2 g3 g4 hck hY hyl
    have C := hvc.drop _ X a1 _ HX.out (Nat.le_trans HXL.out (by decide))
    rw [FD.out.1, FD.out.2] at C
    go_wp2_with fail
    refine (C).mono ?_
    rintro e W3 ⟨r2, rfl, hv, hb⟩
    replace H0 := Lib.hid (H0.out.below hb)
    replace HX := Lib.hid (HX.out.below hb)
    replace X3 := Lib.hid (X3.out.below hb)
    replace HB := Lib.hid (HB.out.trans (hb.mono HB.out.size))
    have HY := Lib.hid hv
    obtain ⟨ay, cy, rfl⟩ := hv.form
    clear hv C
    clear hb
    clear u0 u1 u2 u3 u4 u5
    obtain ⟨⟨u0, u1, u2, u3, u4, u5⟩, -⟩ := X3.out
    have C := hvc.get _ X a1 _ HX.out (Nat.le_trans HXL.out (by decide))
    rw [F1.out.1, F1.out.2] at C
    go_wp2_with fail
    refine (C).mono ?_
    rintro e W4 ⟨rfl, hb⟩
    replace H0 := Lib.hid (H0.out.below hb)
    replace HX := Lib.hid (HX.out.below hb)
    replace HY := Lib.hid (HY.out.below hb)
    replace X3 := Lib.hid (X3.out.below hb)
    replace HB := Lib.hid (HB.out.trans (hb.mono HB.out.size))
    clear C
    clear hb
    clear u0 u1 u2 u3 u4 u5
    obtain ⟨⟨u0, u1, u2, u3, u4, u5⟩, -⟩ := X3.out
    obtain ⟨W5, hW⟩ : ∃ W5, W4.alloc (.cells #[.bool x3.1, .int .i64 x3.2.1, .int .i64 x3.2.2.1, .int .i64 x3.2.2.2.1, .int .i64 x3.2.2.2.2.1, .int .i64 x3.2.2.2.2.2] 24) = W5 := ⟨_, rfl⟩
    have hb : Below W4.heap.size W4 W5 := hW ▸ (Below.refl _ W4).alloc (Nat.le_refl _) _
    have Q1 := Lib.hid (hW ▸ own6_alloc W4 x3.1 x3.2.1 x3.2.2.1 x3.2.2.2.1 x3.2.2.2.2.1 x3.2.2.2.2.2 24 W4.heap.size rfl)
    have HW := Lib.hid hW
    clear hW
    go_upto_region 8 with (fail)
    change Code.wp _ _ _ _ (W4.alloc (.cells #[.bool x3.1, .int .i64 x3.2.1, .int .i64 x3.2.2.1, .int .i64 x3.2.2.2.1, .int .i64 x3.2.2.2.2.1, .int .i64 x3.2.2.2.2.2] 24))
    rw [HW.out]
    replace H0 := Lib.hid (H0.out.below hb)
    replace HX := Lib.hid (HX.out.below hb)
    replace HY := Lib.hid (HY.out.below hb)
    replace X3 := Lib.hid (X3.out.below hb)
    replace HB := Lib.hid (HB.out.trans (hb.mono HB.out.size))
    clear hb HW
    clear u0 u1 u2 u3 u4 u5
    obtain ⟨⟨u0, u1, u2, u3, u4, u5⟩, -⟩ := X3.out
    obtain ⟨gQ1, hgQ1⟩ : ∃ g, W4.heap.size = g := ⟨_, rfl⟩
    rw [hgQ1] at Q1 ⊢
    clear hgQ1
    have C := hvc.get _ z0 a2 _ H0.out (Nat.le_trans HL.out (by decide))
    go_wp2_with fail
    refine (C).mono ?_
    rintro e W6 ⟨rfl, hb⟩
    replace H0 := Lib.hid (H0.out.below hb)
    replace HX := Lib.hid (HX.out.below hb)
    replace HY := Lib.hid (HY.out.below hb)
    replace X3 := Lib.hid (X3.out.below hb)
    replace Q1 := Lib.hid (Q1.out.below hb)
    replace HB := Lib.hid (HB.out.trans (hb.mono HB.out.size))
    clear C
    clear hb
    clear u0 u1 u2 u3 u4 u5
    obtain ⟨⟨u0, u1, u2, u3, u4, u5⟩, -⟩ := X3.out
    obtain ⟨W7, hW⟩ : ∃ W7, W6.alloc (.cells #[.bool (getV z0 a2).1, .int .i64 (getV z0 a2).2.1, .int .i64 (getV z0 a2).2.2.1, .int .i64 (getV z0 a2).2.2.2.1, .int .i64 (getV z0 a2).2.2.2.2.1, .int .i64 (getV z0 a2).2.2.2.2.2] 24) = W7 := ⟨_, rfl⟩
    have hb : Below W6.heap.size W6 W7 := hW ▸ (Below.refl _ W6).alloc (Nat.le_refl _) _
    have Q2 := Lib.hid (hW ▸ own6_alloc W6 (getV z0 a2).1 (getV z0 a2).2.1 (getV z0 a2).2.2.1 (getV z0 a2).2.2.2.1 (getV z0 a2).2.2.2.2.1 (getV z0 a2).2.2.2.2.2 24 W6.heap.size rfl)
    have HW := Lib.hid hW
    clear hW
    go_upto_region 9 with (fail)
    change Code.wp _ _ _ _ (W6.alloc (.cells #[.bool (getV z0 a2).1, .int .i64 (getV z0 a2).2.1, .int .i64 (getV z0 a2).2.2.1, .int .i64 (getV z0 a2).2.2.2.1, .int .i64 (getV z0 a2).2.2.2.2.1, .int .i64 (getV z0 a2).2.2.2.2.2] 24))
    rw [HW.out]
    replace H0 := Lib.hid (H0.out.below hb)
    replace HX := Lib.hid (HX.out.below hb)
    replace HY := Lib.hid (HY.out.below hb)
    replace X3 := Lib.hid (X3.out.below hb)
    replace Q1 := Lib.hid (Q1.out.below hb)
    replace HB := Lib.hid (HB.out.trans (hb.mono HB.out.size))
    clear hb HW
    clear u0 u1 u2 u3 u4 u5
    obtain ⟨⟨u0, u1, u2, u3, u4, u5⟩, -⟩ := X3.out
    obtain ⟨gQ2, hgQ2⟩ : ∃ g, W6.heap.size = g := ⟨_, rfl⟩
    rw [hgQ2] at Q2 ⊢
    clear hgQ2
    have C := hvc.get _ X a2 _ HX.out (Nat.le_trans HXL.out (by decide))
    rw [F2.out.1, F2.out.2] at C
    go_wp2_with fail
    refine (C).mono ?_
    rintro e W8 ⟨rfl, hb⟩
    replace H0 := Lib.hid (H0.out.below hb)
    replace HX := Lib.hid (HX.out.below hb)
    replace HY := Lib.hid (HY.out.below hb)
    replace X3 := Lib.hid (X3.out.below hb)
    replace Q1 := Lib.hid (Q1.out.below hb)
    replace Q2 := Lib.hid (Q2.out.below hb)
    replace HB := Lib.hid (HB.out.trans (hb.mono HB.out.size))
    clear C
    clear hb
    clear u0 u1 u2 u3 u4 u5
    obtain ⟨⟨u0, u1, u2, u3, u4, u5⟩, -⟩ := X3.out
    obtain ⟨W9, hW⟩ : ∃ W9, W8.alloc (.cells #[.bool (getV z0 a2).1, .int .i64 (getV z0 a2).2.1, .int .i64 (getV z0 a2).2.2.1, .int .i64 (getV z0 a2).2.2.2.1, .int .i64 (getV z0 a2).2.2.2.2.1, .int .i64 (getV z0 a2).2.2.2.2.2] 24) = W9 := ⟨_, rfl⟩
    have hb : Below W8.heap.size W8 W9 := hW ▸ (Below.refl _ W8).alloc (Nat.le_refl _) _
    have Q3 := Lib.hid (hW ▸ own6_alloc W8 (getV z0 a2).1 (getV z0 a2).2.1 (getV z0 a2).2.2.1 (getV z0 a2).2.2.2.1 (getV z0 a2).2.2.2.2.1 (getV z0 a2).2.2.2.2.2 24 W8.heap.size rfl)
    have HW := Lib.hid hW
    clear hW
    go_upto_region 10 with (fail)
    change Code.wp _ _ _ _ (W8.alloc (.cells #[.bool (getV z0 a2).1, .int .i64 (getV z0 a2).2.1, .int .i64 (getV z0 a2).2.2.1, .int .i64 (getV z0 a2).2.2.2.1, .int .i64 (getV z0 a2).2.2.2.2.1, .int .i64 (getV z0 a2).2.2.2.2.2] 24))
    rw [HW.out]
    replace H0 := Lib.hid (H0.out.below hb)
    replace HX := Lib.hid (HX.out.below hb)
    replace HY := Lib.hid (HY.out.below hb)
    replace X3 := Lib.hid (X3.out.below hb)
    replace Q1 := Lib.hid (Q1.out.below hb)
    replace Q2 := Lib.hid (Q2.out.below hb)
    replace HB := Lib.hid (HB.out.trans (hb.mono HB.out.size))
    clear hb HW
    clear u0 u1 u2 u3 u4 u5
    obtain ⟨⟨u0, u1, u2, u3, u4, u5⟩, -⟩ := X3.out
    obtain ⟨gQ3, hgQ3⟩ : ∃ g, W8.heap.size = g := ⟨_, rfl⟩
    rw [hgQ3] at Q3 ⊢
    clear hgQ3
    have C := hvc.get _ Y a2 _ HY.out (Nat.le_trans HYL.out (by decide))
    rw [F3.out.1, F3.out.2] at C
    go_wp2_with fail
    refine (C).mono ?_
    rintro e W10 ⟨rfl, hb⟩
    replace H0 := Lib.hid (H0.out.below hb)
    replace HX := Lib.hid (HX.out.below hb)
    replace HY := Lib.hid (HY.out.below hb)
    replace X3 := Lib.hid (X3.out.below hb)
    replace Q1 := Lib.hid (Q1.out.below hb)
    replace Q2 := Lib.hid (Q2.out.below hb)
    replace Q3 := Lib.hid (Q3.out.below hb)
    replace HB := Lib.hid (HB.out.trans (hb.mono HB.out.size))
    clear C
    clear hb
    clear u0 u1 u2 u3 u4 u5
    obtain ⟨⟨u0, u1, u2, u3, u4, u5⟩, -⟩ := X3.out
    obtain ⟨W11, hW⟩ : ∃ W11, W10.alloc (.cells #[.bool (getV z0 a2).1, .int .i64 (getV z0 a2).2.1, .int .i64 (getV z0 a2).2.2.1, .int .i64 (getV z0 a2).2.2.2.1, .int .i64 (getV z0 a2).2.2.2.2.1, .int .i64 (getV z0 a2).2.2.2.2.2] 24) = W11 := ⟨_, rfl⟩
    have hb : Below W10.heap.size W10 W11 := hW ▸ (Below.refl _ W10).alloc (Nat.le_refl _) _
    have Q4 := Lib.hid (hW ▸ own6_alloc W10 (getV z0 a2).1 (getV z0 a2).2.1 (getV z0 a2).2.2.1 (getV z0 a2).2.2.2.1 (getV z0 a2).2.2.2.2.1 (getV z0 a2).2.2.2.2.2 24 W10.heap.size rfl)
    have HW := Lib.hid hW
    clear hW
    go_upto_region 11 with (fail)
    change Code.wp _ _ _ _ (W10.alloc (.cells #[.bool (getV z0 a2).1, .int .i64 (getV z0 a2).2.1, .int .i64 (getV z0 a2).2.2.1, .int .i64 (getV z0 a2).2.2.2.1, .int .i64 (getV z0 a2).2.2.2.2.1, .int .i64 (getV z0 a2).2.2.2.2.2] 24))
    rw [HW.out]
    replace H0 := Lib.hid (H0.out.below hb)
    replace HX := Lib.hid (HX.out.below hb)
    replace HY := Lib.hid (HY.out.below hb)
    replace X3 := Lib.hid (X3.out.below hb)
    replace Q1 := Lib.hid (Q1.out.below hb)
    replace Q2 := Lib.hid (Q2.out.below hb)
    replace Q3 := Lib.hid (Q3.out.below hb)
    replace HB := Lib.hid (HB.out.trans (hb.mono HB.out.size))
    clear hb HW
    clear u0 u1 u2 u3 u4 u5
    obtain ⟨⟨u0, u1, u2, u3, u4, u5⟩, -⟩ := X3.out
    obtain ⟨gQ4, hgQ4⟩ : ∃ g, W10.heap.size = g := ⟨_, rfl⟩
    rw [hgQ4] at Q4 ⊢
    clear hgQ4
    have C := hvc.get _ Y a1 _ HY.out (Nat.le_trans HYL.out (by decide))
    rw [F4.out.1, F4.out.2] at C
    go_wp2_with fail
    refine (C).mono ?_
    rintro e W12 ⟨rfl, hb⟩
    replace H0 := Lib.hid (H0.out.below hb)
    replace HX := Lib.hid (HX.out.below hb)
    replace HY := Lib.hid (HY.out.below hb)
    replace X3 := Lib.hid (X3.out.below hb)
    replace Q1 := Lib.hid (Q1.out.below hb)
    replace Q2 := Lib.hid (Q2.out.below hb)
    replace Q3 := Lib.hid (Q3.out.below hb)
    replace Q4 := Lib.hid (Q4.out.below hb)
    replace HB := Lib.hid (HB.out.trans (hb.mono HB.out.size))
    clear C
    clear hb
    clear u0 u1 u2 u3 u4 u5
    obtain ⟨⟨u0, u1, u2, u3, u4, u5⟩, -⟩ := X3.out
    obtain ⟨W13, hW⟩ : ∃ W13, W12.alloc (.cells #[.bool zHx.1, .int .i64 zHx.2.1, .int .i64 zHx.2.2.1, .int .i64 zHx.2.2.2.1, .int .i64 zHx.2.2.2.2.1, .int .i64 zHx.2.2.2.2.2] 24) = W13 := ⟨_, rfl⟩
    have hb : Below W12.heap.size W12 W13 := hW ▸ (Below.refl _ W12).alloc (Nat.le_refl _) _
    have Q5 := Lib.hid (hW ▸ own6_alloc W12 zHx.1 zHx.2.1 zHx.2.2.1 zHx.2.2.2.1 zHx.2.2.2.2.1 zHx.2.2.2.2.2 24 W12.heap.size rfl)
    have HW := Lib.hid hW
    clear hW
    go_upto_region 12 with (fail)
    change Code.wp _ _ _ _ (W12.alloc (.cells #[.bool zHx.1, .int .i64 zHx.2.1, .int .i64 zHx.2.2.1, .int .i64 zHx.2.2.2.1, .int .i64 zHx.2.2.2.2.1, .int .i64 zHx.2.2.2.2.2] 24))
    rw [HW.out]
    replace H0 := Lib.hid (H0.out.below hb)
    replace HX := Lib.hid (HX.out.below hb)
    replace HY := Lib.hid (HY.out.below hb)
    replace X3 := Lib.hid (X3.out.below hb)
    replace Q1 := Lib.hid (Q1.out.below hb)
    replace Q2 := Lib.hid (Q2.out.below hb)
    replace Q3 := Lib.hid (Q3.out.below hb)
    replace Q4 := Lib.hid (Q4.out.below hb)
    replace HB := Lib.hid (HB.out.trans (hb.mono HB.out.size))
    clear hb HW
    clear u0 u1 u2 u3 u4 u5
    obtain ⟨⟨u0, u1, u2, u3, u4, u5⟩, -⟩ := X3.out
    obtain ⟨gQ5, hgQ5⟩ : ∃ g, W12.heap.size = g := ⟨_, rfl⟩
    rw [hgQ5] at Q5 ⊢
    clear hgQ5
    go_wp2_with fail
    refine (awake12 hvc _).mono ?_
    rintro e W14 ⟨rfl, hb⟩
    replace H0 := Lib.hid (H0.out.below hb)
    replace HX := Lib.hid (HX.out.below hb)
    replace HY := Lib.hid (HY.out.below hb)
    replace X3 := Lib.hid (X3.out.below hb)
    replace Q1 := Lib.hid (Q1.out.below hb)
    replace Q2 := Lib.hid (Q2.out.below hb)
    replace Q3 := Lib.hid (Q3.out.below hb)
    replace Q4 := Lib.hid (Q4.out.below hb)
    replace Q5 := Lib.hid (Q5.out.below hb)
    replace HB := Lib.hid (HB.out.trans (hb.mono HB.out.size))
    clear hb
    clear u0 u1 u2 u3 u4 u5
    obtain ⟨⟨u0, u1, u2, u3, u4, u5⟩, -⟩ := X3.out
    have C := hvc.check _ X _ HX.out (Nat.le_trans HXL.out (by decide))
    rw [FC.out] at C
    go_wp2_with fail
    refine (C).mono ?_
    rintro e W15 ⟨rfl, hb⟩
    replace H0 := Lib.hid (H0.out.below hb)
    replace HX := Lib.hid (HX.out.below hb)
    replace HY := Lib.hid (HY.out.below hb)
    replace X3 := Lib.hid (X3.out.below hb)
    replace Q1 := Lib.hid (Q1.out.below hb)
    replace Q2 := Lib.hid (Q2.out.below hb)
    replace Q3 := Lib.hid (Q3.out.below hb)
    replace Q4 := Lib.hid (Q4.out.below hb)
    replace Q5 := Lib.hid (Q5.out.below hb)
    replace HB := Lib.hid (HB.out.trans (hb.mono HB.out.size))
    clear C
    clear hb
    clear u0 u1 u2 u3 u4 u5
    obtain ⟨⟨u0, u1, u2, u3, u4, u5⟩, -⟩ := X3.out
    have E1 := guard23
    have E2 := fun W => eqlHX x3 x3 W
    rw [show eqX x3 x3 = true from eqX_iff.2 rfl] at E2
    have E3 := fun W => eqlHX (getV z0 a2) (getV z0 a2) W
    rw [show eqX (getV z0 a2) (getV z0 a2) = true from eqX_iff.2 rfl] at E3
    obtain ⟨⟨v0, v1, v2, v3, v4, v5⟩, -⟩ := Q1.out
    obtain ⟨⟨k0, k1, k2, k3, k4, k5⟩, -⟩ := Q2.out
    obtain ⟨⟨m0, m1, m2, m3, m4, m5⟩, -⟩ := Q3.out
    obtain ⟨⟨j0, j1, j2, j3, j4, j5⟩, -⟩ := Q4.out
    have hyx : (Y.length : Int) + 1 = (X.length : Int) := by have := HD1.out; omega
    have hyw : IntKind.i64.wrap ((Y.length : Int) + 1) = (Y.length : Int) + 1 := by rw [IntKind.wrap_i64]; have := HYL.out; omega
    have hyx2 : ((Y.length : Int) + 1 == (X.length : Int)) = true := by rw [hyx]; simp
    clear hyx
    go_wp2_with fail
    go_ret
    exact ⟨rfl, HB.out⟩
  · rw [hE, hS]
    rw [hS] at HX
    clear hE hS u0 u1 u2 u3 u4 u5
    go_wp2_with fail
    refine (awake12 hvc _).mono ?_
    rintro e W3 ⟨rfl, hb⟩
    replace H0 := Lib.hid (H0.out.below hb)
    replace HX := Lib.hid (HX.out.below hb)
    replace HB := Lib.hid (HB.out.trans (hb.mono HB.out.size))
    clear hb
    go_wp2_with fail
    go_ret
    exact ⟨rfl, HB.out⟩
theorem walk (hvc : Vc) (a0 : Option Addr) (cap0 : Nat) (z0 : List Vw) (a1 : Int) (w1 : I64 a1) (a2 : Int) (w2 : I64 a2) (n3 : Bool) (t3 o3 r3 d3 i3 : Int) (w3 : I64 t3 ∧ I64 o3 ∧ I64 r3 ∧ I64 d3 ∧ I64 i3) (w : World) (r0 : Vs w (.slice a0 z0.length cap0) z0) :
    Calls Try.prog 5 #[.slice a0 z0.length cap0, .int .i64 a1, .int .i64 a2, .agg #[.bool n3, .int .i64 t3, .int .i64 o3, .int .i64 r3, .int .i64 d3, .int .i64 i3]] w fun e w' => e = .returned (.bool true) ∧ Below w.heap.size w w' := walk0 hvc a0 cap0 z0 a1 a2 (n3, t3, o3, r3, d3, i3) w r0

set_option maxRecDepth 100000 in
theorem lifted (os : _root_.Go.Os) (started : os.Started) (H : Type) (enc : TypeId × Value → H) :
    ReturnsInHanded {} Try.checked os 5 .any (Rows.viewsKeepSpec.pre6 enc Try.prog Try.f5 Rows.viewsKeepRow.domain false) (Rows.viewsKeepSpec.post enc Try.prog Try.f5 false true false false) := by
  refine returnsInHanded_of_change (C := Try.checked) own started (by kernel_rfl) Try.func5
    (ChangeSpec.witness6 (enc := enc) (C := Try.checked) false ⟨#[], #[.slice none 0 0, .int .i64 0, .int .i64 0, .agg #[.bool false, .int .i64 0, .int .i64 0, .int .i64 0, .int .i64 0, .int .i64 0]], []⟩ 16 (by kernel_rfl) (by kernel_rfl) (by kernel_rfl) (by kernel_rfl)) ?_
  intro W base args ds gs before hval0 hW hcnd _
  have hval : ∀ (j : Nat) t v, Try.f5.params[j]? = some t → args[j]? = some v → Value.okWide Try.prog W .any base t v := hval0
  have hW' := hW
  obtain ⟨p, q, hA0, hV, rfl, hfz, hnd⟩ := hW
  have hA : DataW.TrodAll enc Try.prog W 0 (fun _ => true) true Try.f5.params.toList args.toList ds p := hA0
  rw [Try.params5] at hA hval
  obtain ⟨v0, vs0, e0, ds0, p0, q0, hargs, rfl, rfl, h0, x0⟩ := trodAll_cons hA
  obtain ⟨v1, vs1, e1, ds1, p1, q1, rfl, rfl, rfl, h1, x1⟩ := trodAll_cons x0
  obtain ⟨v2, vs2, e2, ds2, p2, q2, rfl, rfl, rfl, h2, x2⟩ := trodAll_cons x1
  obtain ⟨v3, vs3, e3, ds3, p3, q3, rfl, rfl, rfl, h3, x3⟩ := trodAll_cons x2
  obtain ⟨rfl, rfl, rfl⟩ := trodAll_nil x3
  obtain rfl : args = #[v0, v1, v2, v3] := by cases args; simp_all
  obtain ⟨rfl, rfl⟩ := trodVars_none hV
  have k0 := h0
  have lt0 : ∀ x ∈ p0, x.block < W.heap.size := by obtain ⟨m, hm⟩ := k0; exact DataW.trod_lt m _ _ _ hm
  have k1 := h1
  have lt1 : ∀ x ∈ p1, x.block < W.heap.size := by obtain ⟨m, hm⟩ := k1; exact DataW.trod_lt m _ _ _ hm
  obtain ⟨a1, rfl, _, _, w1⟩ := open_int Try.underlying3 (hval 1 3 v1 rfl rfl) h1
  have k2 := h2
  have lt2 : ∀ x ∈ p2, x.block < W.heap.size := by obtain ⟨m, hm⟩ := k2; exact DataW.trod_lt m _ _ _ hm
  obtain ⟨a2, rfl, _, _, w2⟩ := open_int Try.underlying3 (hval 2 3 v2 rfl rfl) h2
  have k3 := h3
  have lt3 : ∀ x ∈ p3, x.block < W.heap.size := by obtain ⟨m, hm⟩ := k3; exact DataW.trod_lt m _ _ _ hm
  obtain ⟨n3, t3, o3, r3, d3, i3, rfl, w3⟩ := ht_form (hval 3 24 v3 rfl rfl) h3
  obtain ⟨a0, len0, cap0, rfl⟩ := okWide_slice underVS (hval 0 22 v0 rfl rfl)
  obtain ⟨z0, hz0, w0, hm0⟩ := vs_form h0
  subst hz0
  clear hA0 hval0
  refine (walk vc a0 cap0 z0 a1 (i64_wf w1) a2 (i64_wf w2) n3 t3 o3 r3 d3 i3 w3 W w0).mono fun e W' ⟨he, bel⟩ => ?_
  subst he
  exact ⟨_, rfl, _, _, _, [], _, [], hW', trodAll_mk1 (shut_bool Try.underlying4 _), (trodAll_cons_mk (Below.trod laidOut (by kernel_rfl) (of_decide_eq_true (by kernel_rfl)) k0 bel lt0) (trodAll_cons_mk (Below.trod laidOut (by kernel_rfl) (of_decide_eq_true (by kernel_rfl)) k1 bel lt1) (trodAll_cons_mk (Below.trod laidOut (by kernel_rfl) (of_decide_eq_true (by kernel_rfl)) k2 bel lt2) (trodAll_cons_mk (Below.trod laidOut (by kernel_rfl) (of_decide_eq_true (by kernel_rfl)) k3 bel lt3) trodAll_mk0)))), rfl, bel.frame _, fun h => by cases h⟩

theorem over : Rows.viewsKeepRow.holds Try.pinned (OpenSpec.ofChange Rows.viewsKeepSpec) :=
  OpenClaim.holds_of_wide 5 Try.f5 rfl rfl rfl rfl rfl rfl rfl ⟨rfl, rfl, rfl, rfl, rfl⟩ rfl rfl rfl rfl rfl (by kernel_rfl) Try.func5 (by kernel_rfl)
    (of_decide_eq_true (by kernel_rfl)) (by unfold Func.isWrapper; first | (rw [if_pos (by decide +kernel)]; kernel_rfl) | (rw [if_neg (by decide +kernel)]; exact ⟨rfl, rfl⟩))
    (fun os started H enc _ => lifted os started H enc)

theorem proved : Rows.ViewsKeepSaid := over
#print axioms proved
end Go.Proofs.Ytahhhegknmiinaa.viewsKeep
