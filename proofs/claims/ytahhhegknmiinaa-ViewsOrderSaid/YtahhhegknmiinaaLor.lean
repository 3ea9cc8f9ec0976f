/- thalweglaw12.ViewsOrder: for any views, numbers and heights the law answers true; no condition. -/
import Derived.Test.YtahhhegknmiinaaVmt
import Derived.Test.YtahhhegknmiinaaVpm
import Derived.WalkLawsBesides
import Derived.WalkKit
import Derived.ProofKit
import Derived.OpenShut
import Derived.ShutString
import Derived.ChangeOld
import Derived.Below
namespace Go.Proofs.Ytahhhegknmiinaa.viewsOrder
open Go.ChangeShapes Go.WideShapes Go.ChangeAt Go.RowKit
open Go.ChangeMaps (open_string shut_string)
set_option linter.unusedVariables false
set_option maxRecDepth 100000

theorem own : ownKnob Try.prog.godebug = none := by kernel_rfl
theorem laidOut : laidOutB Try.prog = true := by kernel_rfl
theorem setL_len (l : List Vw) (id : Int) (h : Hx) : (setL l id h).length ≤ l.length + 1 := by
  unfold setL
  split
  · exact raw_len id h l
  · exact Nat.zero_le _
theorem dropL_len (l : List Vw) (id : Int) : (dropL l id).length ≤ l.length := by
  unfold dropL
  split
  · split
    · exact Nat.zero_le _
    · exact dropF_le l id
  · exact Nat.zero_le _
theorem both {l x y : List Vw} {a b : Int} {h g : Hx} (hab : ¬ a = b) (hx : SetOk l a h x) (hy : SetOk l b g y) :
    setE x b g = 0 ∧ setE y a h = 0 ∧ setE (setL x b g) a h = 0 ∧ setL y a h = setL x b g ∧ setL (setL x b g) a h = setL x b g := by
  obtain ⟨e1, s1⟩ := set_ok (id := b) (h := g) hx.ok hy.one
  obtain ⟨e2, s2⟩ := set_ok (id := a) (h := h) hy.ok hx.one
  obtain ⟨e3, s3⟩ := set_ok (id := a) (h := h) s1.ok hx.one
  have r1 := ((vok_iff _).1 s1.ok).1
  have r2 := ((vok_iff _).1 s2.ok).1
  have r3 := ((vok_iff _).1 s3.ok).1
  refine ⟨e1, e2, e3, rise_ext r2 r1 (fun z => ?_), rise_ext r3 r1 (fun z => ?_)⟩
  · rw [s2.mem, s1.mem, hy.mem, hx.mem]
    constructor
    · rintro (rfl | ⟨rfl | h1, h2⟩)
      · exact .inr ⟨.inl rfl, hab⟩
      · exact .inl rfl
      · exact .inr ⟨.inr ⟨h1.1, h2⟩, h1.2⟩
    · rintro (rfl | ⟨rfl | h1, h2⟩)
      · exact .inr ⟨.inl rfl, fun e => hab e.symm⟩
      · exact .inl rfl
      · exact .inr ⟨.inr ⟨h1.1, h2⟩, h1.2⟩
  · rw [s3.mem, s1.mem, hx.mem]
    constructor
    · rintro (rfl | ⟨h1, _⟩)
      · exact .inr ⟨.inl rfl, hab⟩
      · exact h1
    · rintro (rfl | ⟨rfl | h1, h2⟩)
      · exact .inr ⟨.inl rfl, fun e => hab e.symm⟩
      · exact .inl rfl
      · exact .inr ⟨.inr ⟨.inr h1, h2⟩, h1.2⟩
set_option maxHeartbeats 4000000 in
theorem walk0 (hvc : Vc) (a0 : Option Addr) (cap0 : Nat) (z0 : List Vw) (a1 : Int) (a2 : Int) (x3 : Hx) (x4 : Hx) (w : World) (r0 : Vs w (.slice a0 z0.length cap0) z0) :
    Calls Try.prog 8 #[.slice a0 z0.length cap0, .int .i64 a1, .int .i64 a2, hxV x3, hxV x4] w fun e w' => e = .returned (.bool true) ∧ Below w.heap.size w w' := by
  by_cases hl : 80 < z0.length
  · have hl_ : (80 : Int) < (z0.length : Int) := by omega
    have hb1 : Below w.heap.size w ((w.alloc (.cells #[.bool x3.1, .int .i64 x3.2.1, .int .i64 x3.2.2.1, .int .i64 x3.2.2.2.1, .int .i64 x3.2.2.2.2.1, .int .i64 x3.2.2.2.2.2] 24)).alloc (.cells #[.bool x4.1, .int .i64 x4.2.1, .int .i64 x4.2.2.1, .int .i64 x4.2.2.2.1, .int .i64 x4.2.2.2.2.1, .int .i64 x4.2.2.2.2.2] 24)) := ((Below.refl _ w).alloc (Nat.le_refl _) _).alloc (by simp) _
    have HB := Lib.hid hb1
    clear hb1 r0
    go_enter Try.func8, Try.ntmps8
    go_wp2_with fail
    refine (awake12 hvc _).mono ?_
    rintro e W9 ⟨rfl, hb⟩
    have HB9 := Lib.hid (HB.out.trans (hb.mono HB.out.size))
    clear hb
    go_wp2_with fail
    go_ret
    exact ⟨rfl, HB9.out⟩
  by_cases hi : a1 = a2
  · have hi_ : (a1 == a2) = true := by simpa using hi
    clear hi
    have hl_ : ¬ (80 : Int) < (z0.length : Int) := by omega
    have hb1 : Below w.heap.size w ((w.alloc (.cells #[.bool x3.1, .int .i64 x3.2.1, .int .i64 x3.2.2.1, .int .i64 x3.2.2.2.1, .int .i64 x3.2.2.2.2.1, .int .i64 x3.2.2.2.2.2] 24)).alloc (.cells #[.bool x4.1, .int .i64 x4.2.1, .int .i64 x4.2.2.1, .int .i64 x4.2.2.2.1, .int .i64 x4.2.2.2.2.1, .int .i64 x4.2.2.2.2.2] 24)) := ((Below.refl _ w).alloc (Nat.le_refl _) _).alloc (by simp) _
    have HB := Lib.hid hb1
    clear hb1 r0
    go_enter Try.func8, Try.ntmps8
    go_wp2_with fail
    refine (awake12 hvc _).mono ?_
    rintro e W9 ⟨rfl, hb⟩
    have HB9 := Lib.hid (HB.out.trans (hb.mono HB.out.size))
    clear hb
    go_wp2_with fail
    go_ret
    exact ⟨rfl, HB9.out⟩
  have hl_ : ¬ (80 : Int) < (z0.length : Int) := by omega
  have hi_ : (a1 == a2) = false := by simpa using hi
  have HL : Hid (z0.length ≤ 80) := by show _ ≤ _; omega
  have HI := Lib.hid hi
  have H0 := Lib.hid r0
  have HB : Hid (Below w.heap.size w w) := Below.refl _ _
  clear r0 hl hi
  go_enter Try.func8, Try.ntmps8
  obtain ⟨W1, hW⟩ : ∃ W1, (w.alloc (.cells #[.bool x3.1, .int .i64 x3.2.1, .int .i64 x3.2.2.1, .int .i64 x3.2.2.2.1, .int .i64 x3.2.2.2.2.1, .int .i64 x3.2.2.2.2.2] 24)).alloc (.cells #[.bool x4.1, .int .i64 x4.2.1, .int .i64 x4.2.2.1, .int .i64 x4.2.2.2.1, .int .i64 x4.2.2.2.2.1, .int .i64 x4.2.2.2.2.2] 24) = W1 := ⟨_, rfl⟩
  have hs1 : (w.alloc (.cells #[.bool x3.1, .int .i64 x3.2.1, .int .i64 x3.2.2.1, .int .i64 x3.2.2.2.1, .int .i64 x3.2.2.2.2.1, .int .i64 x3.2.2.2.2.2] 24)).heap.size = w.heap.size + 1 := by simp
  have hb : Below w.heap.size w W1 := hW ▸ ((Below.refl _ w).alloc (Nat.le_refl _) _).alloc (by simp) _
  have X3 := Lib.hid (hW ▸ (own6_alloc w x3.1 x3.2.1 x3.2.2.1 x3.2.2.2.1 x3.2.2.2.2.1 x3.2.2.2.2.2 24 w.heap.size rfl).below ((Below.refl _ _).alloc (Nat.le_refl _) _) : Own6 W1 w.heap.size x3.1 x3.2.1 x3.2.2.1 x3.2.2.2.1 x3.2.2.2.2.1 x3.2.2.2.2.2)
  have X4 := Lib.hid (hW ▸ own6_alloc (w.alloc (.cells #[.bool x3.1, .int .i64 x3.2.1, .int .i64 x3.2.2.1, .int .i64 x3.2.2.2.1, .int .i64 x3.2.2.2.2.1, .int .i64 x3.2.2.2.2.2] 24)) x4.1 x4.2.1 x4.2.2.1 x4.2.2.2.1 x4.2.2.2.2.1 x4.2.2.2.2.2 24 (w.heap.size + 1) hs1.symm : Own6 W1 (w.heap.size + 1) x4.1 x4.2.1 x4.2.2.1 x4.2.2.2.1 x4.2.2.2.2.1 x4.2.2.2.2.2)
  have HW := Lib.hid hW
  clear hW hs1
  go_upto_region 1 with (fail)
  change Code.wp _ _ _ _ ((w.alloc (.cells #[.bool x3.1, .int .i64 x3.2.1, .int .i64 x3.2.2.1, .int .i64 x3.2.2.2.1, .int .i64 x3.2.2.2.2.1, .int .i64 x3.2.2.2.2.2] 24)).alloc (.cells #[.bool x4.1, .int .i64 x4.2.1, .int .i64 x4.2.2.1, .int .i64 x4.2.2.2.1, .int .i64 x4.2.2.2.2.1, .int .i64 x4.2.2.2.2.2] 24))
  rw [HW.out]
  replace H0 := Lib.hid (H0.out.below hb)
  replace HB := Lib.hid (HB.out.trans (hb.mono HB.out.size))
  clear hb HW
  obtain ⟨⟨u0, u1, u2, u3, u4, u5⟩, -⟩ := X3.out
  obtain ⟨⟨v0, v1, v2, v3, v4, v5⟩, -⟩ := X4.out
  go_wp2_with fail
  refine (hvc.set _ z0 a1 x3 _ H0.out (Nat.le_trans HL.out (by decide))).mono ?_
  rintro e W2 ⟨r1, rfl, hv, hb⟩
  replace H0 := Lib.hid (H0.out.below hb)
  replace X3 := Lib.hid (X3.out.below hb)
  replace X4 := Lib.hid (X4.out.below hb)
  replace HB := Lib.hid (HB.out.trans (hb.mono HB.out.size))
  have HX := Lib.hid hv
  obtain ⟨aX, cX, rfl⟩ := hv.form
  clear hv
  clear hb
  clear u0 u1 u2 u3 u4 u5 v0 v1 v2 v3 v4 v5
  obtain ⟨⟨u0, u1, u2, u3, u4, u5⟩, -⟩ := X3.out
  obtain ⟨⟨v0, v1, v2, v3, v4, v5⟩, -⟩ := X4.out
  clear hl_ hi_
  go_wp2_with fail
  refine (hvc.set _ z0 a2 x4 _ H0.out (Nat.le_trans HL.out (by decide))).mono ?_
  rintro e W3 ⟨r1, rfl, hv, hb⟩
  replace H0 := Lib.hid (H0.out.below hb)
  replace HX := Lib.hid (HX.out.below hb)
  replace X3 := Lib.hid (X3.out.below hb)
  replace X4 := Lib.hid (X4.out.below hb)
  replace HB := Lib.hid (HB.out.trans (hb.mono HB.out.size))
  have HY := Lib.hid hv
  obtain ⟨aY, cY, rfl⟩ := hv.form
  clear hv
  clear hb
  clear u0 u1 u2 u3 u4 u5 v0 v1 v2 v3 v4 v5
  obtain ⟨⟨u0, u1, u2, u3, u4, u5⟩, -⟩ := X3.out
  obtain ⟨⟨v0, v1, v2, v3, v4, v5⟩, -⟩ := X4.out
  rcases set_cases z0 a1 x3 with ⟨hE, hS⟩ | ⟨hE, hS⟩
  rotate_left
  · rw [hE]
    clear hE hS u0 u1 u2 u3 u4 u5 v0 v1 v2 v3 v4 v5
    go_wp2_with fail
    refine (awake12 hvc _).mono ?_
    rintro e W4 ⟨rfl, hb⟩
    replace H0 := Lib.hid (H0.out.below hb)
    replace HX := Lib.hid (HX.out.below hb)
    replace HY := Lib.hid (HY.out.below hb)
    replace HB := Lib.hid (HB.out.trans (hb.mono HB.out.size))
    clear hb
    go_wp2_with fail
    go_ret
    exact ⟨rfl, HB.out⟩
  rcases set_cases z0 a2 x4 with ⟨hE2, hS2⟩ | ⟨hE2, hS2⟩
  rotate_left
  · rw [hE, hE2]
    clear hE hS hE2 hS2 u0 u1 u2 u3 u4 u5 v0 v1 v2 v3 v4 v5
    go_wp2_with fail
    refine (awake12 hvc _).mono ?_
    rintro e W4 ⟨rfl, hb⟩
    replace H0 := Lib.hid (H0.out.below hb)
    replace HX := Lib.hid (HX.out.below hb)
    replace HY := Lib.hid (HY.out.below hb)
    replace HB := Lib.hid (HB.out.trans (hb.mono HB.out.size))
    clear hb
    go_wp2_with fail
    go_ret
    exact ⟨rfl, HB.out⟩
  obtain ⟨X, hX⟩ : ∃ X, setL z0 a1 x3 = X := ⟨_, rfl⟩
  obtain ⟨Y, hY⟩ : ∃ Y, setL z0 a2 x4 = Y := ⟨_, rfl⟩
  have hxl : X.length ≤ 81 := by have := setL_len z0 a1 x3; have := HL.out; rw [hX] at *; omega
  have hyl : Y.length ≤ 81 := by have := setL_len z0 a2 x4; have := HL.out; rw [hY] at *; omega
  rw [hX] at hS HX
  rw [hY] at hS2 HY
  rw [hE, hE2, hX, hY]
  obtain ⟨b1, b2, b3, b4, b5⟩ := both HI.out hS hS2
  obtain ⟨V, hV⟩ : ∃ V, setL X a2 x4 = V := ⟨_, rfl⟩
  have hvl : V.length ≤ 82 := by have := setL_len X a2 x4; rw [hV] at this; omega
  rw [hV] at b3 b4 b5
  have F1 := Lib.hid (And.intro b1 hV)
  have F2 := Lib.hid (And.intro b2 b4)
  have F3 := Lib.hid (And.intro b3 b5)
  have HXL := Lib.hid hxl
  have HYL := Lib.hid hyl
  have HVL := Lib.hid hvl
  clear hX hY hE hE2 hS hS2 b1 b2 b3 b4 b5 hV hxl hyl hvl
  have C := hvc.set _ X a2 x4 _ HX.out (Nat.le_trans HXL.out (by decide))
  rw [F1.out.1, F1.out.2] at C
  go_wp2_with fail
  refine (C).mono ?_
  rintro e W4 ⟨r1, rfl, hv, hb⟩
  replace H0 := Lib.hid (H0.out.below hb)
  replace HX := Lib.hid (HX.out.below hb)
  replace HY := Lib.hid (HY.out.below hb)
  replace X3 := Lib.hid (X3.out.below hb)
  replace X4 := Lib.hid (X4.out.below hb)
  replace HB := Lib.hid (HB.out.trans (hb.mono HB.out.size))
  have HV := Lib.hid hv
  obtain ⟨aV, cV, rfl⟩ := hv.form
  clear hv C
  clear hb
  clear u0 u1 u2 u3 u4 u5 v0 v1 v2 v3 v4 v5
  obtain ⟨⟨u0, u1, u2, u3, u4, u5⟩, -⟩ := X3.out
  obtain ⟨⟨v0, v1, v2, v3, v4, v5⟩, -⟩ := X4.out
  have C := hvc.set _ Y a1 x3 _ HY.out (Nat.le_trans HYL.out (by decide))
  rw [F2.out.1, F2.out.2] at C
  go_wp2_with fail
  refine (C).mono ?_
  rintro e W5 ⟨r1, rfl, hv, hb⟩
  replace H0 := Lib.hid (H0.out.below hb)
  replace HX := Lib.hid (HX.out.below hb)
  replace HY := Lib.hid (HY.out.below hb)
  replace HV := Lib.hid (HV.out.below hb)
  replace X3 := Lib.hid (X3.out.below hb)
  replace X4 := Lib.hid (X4.out.below hb)
  replace HB := Lib.hid (HB.out.trans (hb.mono HB.out.size))
  have HQ := Lib.hid hv
  obtain ⟨aQ, cQ, rfl⟩ := hv.form
  clear hv C
  clear hb
  clear u0 u1 u2 u3 u4 u5 v0 v1 v2 v3 v4 v5
  obtain ⟨⟨u0, u1, u2, u3, u4, u5⟩, -⟩ := X3.out
  obtain ⟨⟨v0, v1, v2, v3, v4, v5⟩, -⟩ := X4.out
  have C := hvc.set _ V a1 x3 _ HV.out (Nat.le_trans HVL.out (by decide))
  rw [F3.out.1, F3.out.2] at C
  go_wp2_with fail
  refine (C).mono ?_
  rintro e W6 ⟨r1, rfl, hv, hb⟩
  replace H0 := Lib.hid (H0.out.below hb)
  replace HX := Lib.hid (HX.out.below hb)
  replace HY := Lib.hid (HY.out.below hb)
  replace HV := Lib.hid (HV.out.below hb)
  replace HQ := Lib.hid (HQ.out.below hb)
  replace X3 := Lib.hid (X3.out.below hb)
  replace X4 := Lib.hid (X4.out.below hb)
  replace HB := Lib.hid (HB.out.trans (hb.mono HB.out.size))
  have HU := Lib.hid hv
  obtain ⟨aU, cU, rfl⟩ := hv.form
  clear hv C
  clear hb
  clear u0 u1 u2 u3 u4 u5 v0 v1 v2 v3 v4 v5
  obtain ⟨⟨u0, u1, u2, u3, u4, u5⟩, -⟩ := X3.out
  obtain ⟨⟨v0, v1, v2, v3, v4, v5⟩, -⟩ := X4.out
  go_wp2_with fail
  refine (awake12 hvc _).mono ?_
  rintro e W7 ⟨rfl, hb⟩
  replace H0 := Lib.hid (H0.out.below hb)
  replace HX := Lib.hid (HX.out.below hb)
  replace HY := Lib.hid (HY.out.below hb)
  replace HV := Lib.hid (HV.out.below hb)
  replace HQ := Lib.hid (HQ.out.below hb)
  replace HU := Lib.hid (HU.out.below hb)
  replace X3 := Lib.hid (X3.out.below hb)
  replace X4 := Lib.hid (X4.out.below hb)
  replace HB := Lib.hid (HB.out.trans (hb.mono HB.out.size))
  clear hb
  go_wp2_with fail
  refine (vsame_yes HV.out HQ.out (Nat.le_trans HVL.out (by decide))).mono ?_
  rintro e W8 ⟨rfl, hb⟩
  replace H0 := Lib.hid (H0.out.below hb)
  replace HX := Lib.hid (HX.out.below hb)
  replace HY := Lib.hid (HY.out.below hb)
  replace HV := Lib.hid (HV.out.below hb)
  replace HQ := Lib.hid (HQ.out.below hb)
  replace HU := Lib.hid (HU.out.below hb)
  replace X3 := Lib.hid (X3.out.below hb)
  replace X4 := Lib.hid (X4.out.below hb)
  replace HB := Lib.hid (HB.out.trans (hb.mono HB.out.size))
  clear hb
  go_wp2_with fail
  refine (vsame_yes HU.out HV.out (Nat.le_trans HVL.out (by decide))).mono ?_
  rintro e W9 ⟨rfl, hb⟩
  replace H0 := Lib.hid (H0.out.below hb)
  replace HX := Lib.hid (HX.out.below hb)
  replace HY := Lib.hid (HY.out.below hb)
  replace HV := Lib.hid (HV.out.below hb)
  replace HQ := Lib.hid (HQ.out.below hb)
  replace HU := Lib.hid (HU.out.below hb)
  replace X3 := Lib.hid (X3.out.below hb)
  replace X4 := Lib.hid (X4.out.below hb)
  replace HB := Lib.hid (HB.out.trans (hb.mono HB.out.size))
  clear hb
  go_wp2_with fail
  go_ret
  exact ⟨rfl, HB.out⟩
theorem walk (hvc : Vc) (a0 : Option Addr) (cap0 : Nat) (z0 : List Vw) (a1 : Int) (w1 : I64 a1) (a2 : Int) (w2 : I64 a2) (n3 : Bool) (t3 o3 r3 d3 i3 : Int) (w3 : I64 t3 ∧ I64 o3 ∧ I64 r3 ∧ I64 d3 ∧ I64 i3) (n4 : Bool) (t4 o4 r4 d4 i4 : Int) (w4 : I64 t4 ∧ I64 o4 ∧ I64 r4 ∧ I64 d4 ∧ I64 i4) (w : World) (r0 : Vs w (.slice a0 z0.length cap0) z0) :
    Calls Try.prog 8 #[.slice a0 z0.length cap0, .int .i64 a1, .int .i64 a2, .agg #[.bool n3, .int .i64 t3, .int .i64 o3, .int .i64 r3, .int .i64 d3, .int .i64 i3], .agg #[.bool n4, .int .i64 t4, .int .i64 o4, .int .i64 r4, .int .i64 d4, .int .i64 i4]] w fun e w' => e = .returned (.bool true) ∧ Below w.heap.size w w' := walk0 hvc a0 cap0 z0 a1 a2 (n3, t3, o3, r3, d3, i3) (n4, t4, o4, r4, d4, i4) w r0

set_option maxRecDepth 100000 in
theorem lifted (os : _root_.Go.Os) (started : os.Started) (H : Type) (enc : TypeId × Value → H) :
    ReturnsInHanded {} Try.checked os 8 .any (Rows.viewsOrderSpec.pre6 enc Try.prog Try.f8 Rows.viewsOrderRow.domain false) (Rows.viewsOrderSpec.post enc Try.prog Try.f8 false true false false) := by
  refine returnsInHanded_of_change (C := Try.checked) own started (by kernel_rfl) Try.func8
    (ChangeSpec.witness6 (enc := enc) (C := Try.checked) false ⟨#[], #[.slice none 0 0, .int .i64 0, .int .i64 0, .agg #[.bool false, .int .i64 0, .int .i64 0, .int .i64 0, .int .i64 0, .int .i64 0], .agg #[.bool false, .int .i64 0, .int .i64 0, .int .i64 0, .int .i64 0, .int .i64 0]], []⟩ 16 (by kernel_rfl) (by kernel_rfl) (by kernel_rfl) (by kernel_rfl)) ?_
  intro W base args ds gs before hval0 hW hcnd _
  have hval : ∀ (j : Nat) t v, Try.f8.params[j]? = some t → args[j]? = some v → Value.okWide Try.prog W .any base t v := hval0
  have hW' := hW
  obtain ⟨p, q, hA0, hV, rfl, hfz, hnd⟩ := hW
  have hA : DataW.TrodAll enc Try.prog W 0 (fun _ => true) true Try.f8.params.toList args.toList ds p := hA0
  rw [Try.params8] at hA hval
  obtain ⟨v0, vs0, e0, ds0, p0, q0, hargs, rfl, rfl, h0, x0⟩ := trodAll_cons hA
  obtain ⟨v1, vs1, e1, ds1, p1, q1, rfl, rfl, rfl, h1, x1⟩ := trodAll_cons x0
  obtain ⟨v2, vs2, e2, ds2, p2, q2, rfl, rfl, rfl, h2, x2⟩ := trodAll_cons x1
  obtain ⟨v3, vs3, e3, ds3, p3, q3, rfl, rfl, rfl, h3, x3⟩ := trodAll_cons x2
  obtain ⟨v4, vs4, e4, ds4, p4, q4, rfl, rfl, rfl, h4, x4⟩ := trodAll_cons x3
  obtain ⟨rfl, rfl, rfl⟩ := trodAll_nil x4
  obtain rfl : args = #[v0, v1, v2, v3, v4] := by cases args; simp_all
  obtain ⟨rfl, rfl⟩ := trodVars_none hV
  have k0 := h0
  have lt0 : ∀ x ∈ p0, x.block < W.heap.size := by obtain ⟨m, hm⟩ := k0; exact DataW.trod_lt m _ _ _ hm
  have k1 := h1
  have lt1 : ∀ x ∈ p1, x.block < W.heap.size := by obtain ⟨m, hm⟩ := k1; exact DataW.trod_lt m _ _ _ hm
  obtain ⟨a1, rfl, _, _, w1⟩ := open_int Try.underlying3 (hval 1 3 v1 rfl rfl) h1
  have k2 := h2
  have lt2 : ∀ x ∈ p2, x.block < W.heap.size := by obtain ⟨m, hm⟩ := k2; exact DataW.trod_lt m _ _ _ hm
  obtain ⟨a2, rfl, _, _, w2⟩ := open_int Try.underlying3 (hval 2 3 v2 rfl rfl) h2
  have k3 := h3
  have lt3 : ∀ x ∈ p3, x.block < W.heap.size := by obtain ⟨m, hm⟩ := k3; exact DataW.trod_lt m _ _ _ hm
  obtain ⟨n3, t3, o3, r3, d3, i3, rfl, w3⟩ := ht_form (hval 3 24 v3 rfl rfl) h3
  have k4 := h4
  have lt4 : ∀ x ∈ p4, x.block < W.heap.size := by obtain ⟨m, hm⟩ := k4; exact DataW.trod_lt m _ _ _ hm
  obtain ⟨n4, t4, o4, r4, d4, i4, rfl, w4⟩ := ht_form (hval 4 24 v4 rfl rfl) h4
  obtain ⟨a0, len0, cap0, rfl⟩ := okWide_slice underVS (hval 0 22 v0 rfl rfl)
  obtain ⟨z0, hz0, w0, hm0⟩ := vs_form h0
  subst hz0
  clear hA0 hval0
  refine (walk vc a0 cap0 z0 a1 (i64_wf w1) a2 (i64_wf w2) n3 t3 o3 r3 d3 i3 w3 n4 t4 o4 r4 d4 i4 w4 W w0).mono fun e W' ⟨he, bel⟩ => ?_
  subst he
  exact ⟨_, rfl, _, _, _, [], _, [], hW', trodAll_mk1 (shut_bool Try.underlying4 _), (trodAll_cons_mk (Below.trod laidOut (by kernel_rfl) (of_decide_eq_true (by kernel_rfl)) k0 bel lt0) (trodAll_cons_mk (Below.trod laidOut (by kernel_rfl) (of_decide_eq_true (by kernel_rfl)) k1 bel lt1) (trodAll_cons_mk (Below.trod laidOut (by kernel_rfl) (of_decide_eq_true (by kernel_rfl)) k2 bel lt2) (trodAll_cons_mk (Below.trod laidOut (by kernel_rfl) (of_decide_eq_true (by kernel_rfl)) k3 bel lt3) (trodAll_cons_mk (Below.trod laidOut (by kernel_rfl) (of_decide_eq_true (by kernel_rfl)) k4 bel lt4) trodAll_mk0))))), rfl, bel.frame _, fun h => by cases h⟩

theorem over : Rows.viewsOrderRow.holds Try.pinned (OpenSpec.ofChange Rows.viewsOrderSpec) :=
  OpenClaim.holds_of_wide 8 Try.f8 rfl rfl rfl rfl rfl rfl rfl ⟨rfl, rfl, rfl, rfl, rfl⟩ rfl rfl rfl rfl rfl (by kernel_rfl) Try.func8 (by kernel_rfl)
    (of_decide_eq_true (by kernel_rfl)) (by unfold Func.isWrapper; first | (rw [if_pos (by decide +kernel)]; kernel_rfl) | (rw [if_neg (by decide +kernel)]; exact ⟨rfl, rfl⟩))
    (fun os started H enc _ => lifted os started H enc)

theorem proved : Rows.ViewsOrderSaid := over
#print axioms proved
end Go.Proofs.Ytahhhegknmiinaa.viewsOrder
