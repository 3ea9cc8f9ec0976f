/- thalweglaw12.ViewsSet: for any views, number and height the law answers true; no condition. -/
import Derived.Test.YtahhhegknmiinaaVaw
import Derived.Test.YtahhhegknmiinaaVpm
import Derived.WalkLawsBesides
import Derived.WalkKit
import Derived.ProofKit
import Derived.OpenShut
import Derived.ShutString
import Derived.ChangeOld
import Derived.Below
namespace Go.Proofs.Ytahhhegknmiinaa.viewsSet
open Go.ChangeShapes Go.WideShapes Go.ChangeAt Go.RowKit
open Go.ChangeMaps (open_string shut_string)
set_option linter.unusedVariables false
set_option maxRecDepth 100000

theorem own : ownKnob Try.prog.godebug = none := by kernel_rfl
theorem laidOut : laidOutB Try.prog = true := by kernel_rfl
theorem setL_len (l : List Vw) (id : Int) (h : Hx) : (setL l id h).length ≤ l.length + 1 := by
  unfold setL
  split
  · exact raw_len id h l
  · exact Nat.zero_le _
theorem dropL_len (l : List Vw) (id : Int) : (dropL l id).length ≤ l.length := by
  unfold dropL
  split
  · split
    · exact Nat.zero_le _
    · exact dropF_le l id
  · exact Nat.zero_le _
set_option maxHeartbeats 4000000 in
theorem walk0 (hvc : Vc) (a0 : Option Addr) (cap0 : Nat) (z0 : List Vw) (a1 : Int) (x2 : Hx) (w : World) (r0 : Vs w (.slice a0 z0.length cap0) z0) :
    Calls Try.prog 3 #[.slice a0 z0.length cap0, .int .i64 a1, hxV x2] w fun e w' => e = .returned (.bool true) ∧ Below w.heap.size w w' := by
  by_cases hl : 100 < z0.length
  · have hl' : (100 : Int) < (z0.length : Int) := by omega
    have hb1 : Below w.heap.size w (w.alloc (.cells #[.bool x2.1, .int .i64 x2.2.1, .int .i64 x2.2.2.1, .int .i64 x2.2.2.2.1, .int .i64 x2.2.2.2.2.1, .int .i64 x2.2.2.2.2.2] 24)) := (Below.refl _ w).alloc (Nat.le_refl _) _
    have HB := Lib.hid hb1
    clear hb1
    go_enter Try.func3, Try.ntmps3
    go_wp2_with fail
    go_ret
    exact ⟨rfl, HB.out⟩
  · have hl' : ¬ (100 : Int) < (z0.length : Int) := by omega
    have HL : Hid (z0.length ≤ 100) := by show _ ≤ _; omega
    have H0 := Lib.hid r0
    have HB : Hid (Below w.heap.size w w) := Below.refl _ _
    clear r0 hl
    go_enter Try.func3, Try.ntmps3
    obtain ⟨W1, hW⟩ : ∃ W1, w.alloc (.cells #[.bool x2.1, .int .i64 x2.2.1, .int .i64 x2.2.2.1, .int .i64 x2.2.2.2.1, .int .i64 x2.2.2.2.2.1, .int .i64 x2.2.2.2.2.2] 24) = W1 := ⟨_, rfl⟩
    have hb : Below w.heap.size w W1 := hW ▸ (Below.refl _ w).alloc (Nat.le_refl _) _
    have X2 := Lib.hid (hW ▸ own6_alloc w x2.1 x2.2.1 x2.2.2.1 x2.2.2.2.1 x2.2.2.2.2.1 x2.2.2.2.2.2 24 w.heap.size rfl)
    have HW := Lib.hid hW
    clear hW
    go_upto_region 1 with (fail)
    change Code.wp _ _ _ _ (w.alloc (.cells #[.bool x2.1, .int .i64 x2.2.1, .int .i64 x2.2.2.1, .int .i64 x2.2.2.2.1, .int .i64 x2.2.2.2.2.1, .int .i64 x2.2.2.2.2.2] 24))
    rw [HW.out]
    replace H0 := Lib.hid (H0.out.below hb)
    replace HB := Lib.hid (HB.out.trans (hb.mono HB.out.size))
    clear hb HW
    obtain ⟨⟨u0, u1, u2, u3, u4, u5⟩, -⟩ := X2.out
    go_wp2_with fail
    refine (rvown_any _ z0 _ H0.out (Nat.le_trans HL.out (by decide))).mono ?_
    rintro e W2 ⟨⟨ao, co, rfl, ho⟩, hb⟩
    replace H0 := Lib.hid (H0.out.below hb)
    replace X2 := Lib.hid (X2.out.below hb)
    replace HB := Lib.hid (HB.out.trans (hb.mono HB.out.size))
    have HO := Lib.hid ho.vs
    clear ho hl'
    clear hb
    clear u0 u1 u2 u3 u4 u5
    obtain ⟨⟨u0, u1, u2, u3, u4, u5⟩, -⟩ := X2.out
    go_wp2_with fail
    refine (hvc.get _ z0 a1 _ HO.out (Nat.le_trans HL.out (by decide))).mono ?_
    rintro e W3 ⟨rfl, hb⟩
    replace H0 := Lib.hid (H0.out.below hb)
    replace HO := Lib.hid (HO.out.below hb)
    replace X2 := Lib.hid (X2.out.below hb)
    replace HB := Lib.hid (HB.out.trans (hb.mono HB.out.size))
    clear hb
    clear u0 u1 u2 u3 u4 u5
    obtain ⟨⟨u0, u1, u2, u3, u4, u5⟩, -⟩ := X2.out
    obtain ⟨W4, hW⟩ : ∃ W4, W3.alloc (.cells #[.bool (getV z0 a1).1, .int .i64 (getV z0 a1).2.1, .int .i64 (getV z0 a1).2.2.1, .int .i64 (getV z0 a1).2.2.2.1, .int .i64 (getV z0 a1).2.2.2.2.1, .int .i64 (getV z0 a1).2.2.2.2.2] 24) = W4 := ⟨_, rfl⟩
    have hb : Below W3.heap.size W3 W4 := hW ▸ (Below.refl _ W3).alloc (Nat.le_refl _) _
    have X8 := Lib.hid (hW ▸ own6_alloc W3 (getV z0 a1).1 (getV z0 a1).2.1 (getV z0 a1).2.2.1 (getV z0 a1).2.2.2.1 (getV z0 a1).2.2.2.2.1 (getV z0 a1).2.2.2.2.2 24 W3.heap.size rfl)
    have HW := Lib.hid hW
    clear hW
    go_upto_region 5 with (fail)
    change Code.wp _ _ _ _ (W3.alloc (.cells #[.bool (getV z0 a1).1, .int .i64 (getV z0 a1).2.1, .int .i64 (getV z0 a1).2.2.1, .int .i64 (getV z0 a1).2.2.2.1, .int .i64 (getV z0 a1).2.2.2.2.1, .int .i64 (getV z0 a1).2.2.2.2.2] 24))
    rw [HW.out]
    replace H0 := Lib.hid (H0.out.below hb)
    replace HO := Lib.hid (HO.out.below hb)
    replace X2 := Lib.hid (X2.out.below hb)
    replace HB := Lib.hid (HB.out.trans (hb.mono HB.out.size))
    clear hb HW
    clear u0 u1 u2 u3 u4 u5
    obtain ⟨⟨u0, u1, u2, u3, u4, u5⟩, -⟩ := X2.out
    go_wp2_with fail
    refine (rvget_any _ z0 a1 _ H0.out (Nat.le_trans HL.out (by decide))).mono ?_
    rintro e W5 ⟨rfl, hb⟩
    replace H0 := Lib.hid (H0.out.below hb)
    replace HO := Lib.hid (HO.out.below hb)
    replace X2 := Lib.hid (X2.out.below hb)
    replace X8 := Lib.hid (X8.out.below hb)
    replace HB := Lib.hid (HB.out.trans (hb.mono HB.out.size))
    clear hb
    clear u0 u1 u2 u3 u4 u5
    obtain ⟨⟨u0, u1, u2, u3, u4, u5⟩, -⟩ := X2.out
    obtain ⟨W6, hW⟩ : ∃ W6, W5.alloc (.cells #[.bool (getV z0 a1).1, .int .i64 (getV z0 a1).2.1, .int .i64 (getV z0 a1).2.2.1, .int .i64 (getV z0 a1).2.2.2.1, .int .i64 (getV z0 a1).2.2.2.2.1, .int .i64 (getV z0 a1).2.2.2.2.2] 24) = W6 := ⟨_, rfl⟩
    have hb : Below W5.heap.size W5 W6 := hW ▸ (Below.refl _ W5).alloc (Nat.le_refl _) _
    have X10 := Lib.hid (hW ▸ own6_alloc W5 (getV z0 a1).1 (getV z0 a1).2.1 (getV z0 a1).2.2.1 (getV z0 a1).2.2.2.1 (getV z0 a1).2.2.2.2.1 (getV z0 a1).2.2.2.2.2 24 W5.heap.size rfl)
    have HW := Lib.hid hW
    clear hW
    go_upto_region 6 with (fail)
    change Code.wp _ _ _ _ (W5.alloc (.cells #[.bool (getV z0 a1).1, .int .i64 (getV z0 a1).2.1, .int .i64 (getV z0 a1).2.2.1, .int .i64 (getV z0 a1).2.2.2.1, .int .i64 (getV z0 a1).2.2.2.2.1, .int .i64 (getV z0 a1).2.2.2.2.2] 24))
    rw [HW.out]
    replace H0 := Lib.hid (H0.out.below hb)
    replace HO := Lib.hid (HO.out.below hb)
    replace X2 := Lib.hid (X2.out.below hb)
    replace X8 := Lib.hid (X8.out.below hb)
    replace HB := Lib.hid (HB.out.trans (hb.mono HB.out.size))
    clear hb HW
    clear u0 u1 u2 u3 u4 u5
    obtain ⟨⟨u0, u1, u2, u3, u4, u5⟩, -⟩ := X2.out
    go_wp2_with fail
    refine (hvc.set _ z0 a1 x2 _ HO.out (Nat.le_trans HL.out (by decide))).mono ?_
    rintro e W7 ⟨r1, rfl, hv, hb⟩
    replace H0 := Lib.hid (H0.out.below hb)
    replace HO := Lib.hid (HO.out.below hb)
    replace X2 := Lib.hid (X2.out.below hb)
    replace X8 := Lib.hid (X8.out.below hb)
    replace X10 := Lib.hid (X10.out.below hb)
    replace HB := Lib.hid (HB.out.trans (hb.mono HB.out.size))
    have HX := Lib.hid hv
    obtain ⟨ax, cx, rfl⟩ := hv.form
    clear hv
    clear hb
    clear u0 u1 u2 u3 u4 u5
    obtain ⟨⟨u0, u1, u2, u3, u4, u5⟩, -⟩ := X2.out
    go_wp2_with fail
    refine (rset_fix _ z0 a1 x2 _ H0.out (Nat.le_trans HL.out (by decide))).mono ?_
    rintro e W8 ⟨r2, rfl, hv, hb⟩
    replace H0 := Lib.hid (H0.out.below hb)
    replace HO := Lib.hid (HO.out.below hb)
    replace HX := Lib.hid (HX.out.below hb)
    replace X2 := Lib.hid (X2.out.below hb)
    replace X8 := Lib.hid (X8.out.below hb)
    replace X10 := Lib.hid (X10.out.below hb)
    replace HB := Lib.hid (HB.out.trans (hb.mono HB.out.size))
    have HY := Lib.hid hv
    obtain ⟨ay, cy, rfl⟩ := hv.form
    clear hv
    clear hb
    clear u0 u1 u2 u3 u4 u5
    obtain ⟨⟨u0, u1, u2, u3, u4, u5⟩, -⟩ := X2.out
    go_wp2_with fail
    refine (hvc.drop _ z0 a1 _ HO.out (Nat.le_trans HL.out (by decide))).mono ?_
    rintro e W9 ⟨r3, rfl, hv, hb⟩
    replace H0 := Lib.hid (H0.out.below hb)
    replace HO := Lib.hid (HO.out.below hb)
    replace HX := Lib.hid (HX.out.below hb)
    replace HY := Lib.hid (HY.out.below hb)
    replace X2 := Lib.hid (X2.out.below hb)
    replace X8 := Lib.hid (X8.out.below hb)
    replace X10 := Lib.hid (X10.out.below hb)
    replace HB := Lib.hid (HB.out.trans (hb.mono HB.out.size))
    have HD := Lib.hid hv
    obtain ⟨ad, cd, rfl⟩ := hv.form
    clear hv
    clear hb
    clear u0 u1 u2 u3 u4 u5
    obtain ⟨⟨u0, u1, u2, u3, u4, u5⟩, -⟩ := X2.out
    go_wp2_with fail
    refine (rdrop_fix _ z0 a1 _ H0.out (Nat.le_trans HL.out (by decide))).mono ?_
    rintro e W10 ⟨r4, rfl, hv, hb⟩
    replace H0 := Lib.hid (H0.out.below hb)
    replace HO := Lib.hid (HO.out.below hb)
    replace HX := Lib.hid (HX.out.below hb)
    replace HY := Lib.hid (HY.out.below hb)
    replace HD := Lib.hid (HD.out.below hb)
    replace X2 := Lib.hid (X2.out.below hb)
    replace X8 := Lib.hid (X8.out.below hb)
    replace X10 := Lib.hid (X10.out.below hb)
    replace HB := Lib.hid (HB.out.trans (hb.mono HB.out.size))
    have HE := Lib.hid hv
    obtain ⟨ae, ce, rfl⟩ := hv.form
    clear hv
    clear hb
    clear u0 u1 u2 u3 u4 u5
    obtain ⟨⟨u0, u1, u2, u3, u4, u5⟩, -⟩ := X2.out
    go_wp2_with fail
    refine (hvc.check _ z0 _ HO.out (Nat.le_trans HL.out (by decide))).mono ?_
    rintro e W11 ⟨rfl, hb⟩
    replace H0 := Lib.hid (H0.out.below hb)
    replace HO := Lib.hid (HO.out.below hb)
    replace HX := Lib.hid (HX.out.below hb)
    replace HY := Lib.hid (HY.out.below hb)
    replace HD := Lib.hid (HD.out.below hb)
    replace HE := Lib.hid (HE.out.below hb)
    replace X2 := Lib.hid (X2.out.below hb)
    replace X8 := Lib.hid (X8.out.below hb)
    replace X10 := Lib.hid (X10.out.below hb)
    replace HB := Lib.hid (HB.out.trans (hb.mono HB.out.size))
    clear hb
    clear u0 u1 u2 u3 u4 u5
    obtain ⟨⟨u0, u1, u2, u3, u4, u5⟩, -⟩ := X2.out
    go_wp2_with fail
    refine (rvright_any _ z0 _ H0.out (Nat.le_trans HL.out (by decide))).mono ?_
    rintro e W12 ⟨rfl, hb⟩
    replace H0 := Lib.hid (H0.out.below hb)
    replace HO := Lib.hid (HO.out.below hb)
    replace HX := Lib.hid (HX.out.below hb)
    replace HY := Lib.hid (HY.out.below hb)
    replace HD := Lib.hid (HD.out.below hb)
    replace HE := Lib.hid (HE.out.below hb)
    replace X2 := Lib.hid (X2.out.below hb)
    replace X8 := Lib.hid (X8.out.below hb)
    replace X10 := Lib.hid (X10.out.below hb)
    replace HB := Lib.hid (HB.out.trans (hb.mono HB.out.size))
    clear hb
    clear u0 u1 u2 u3 u4 u5
    obtain ⟨⟨u0, u1, u2, u3, u4, u5⟩, -⟩ := X2.out
    have hk : (chkV z0 == 0) = decide (VOk z0) := by
      unfold chkV
      by_cases h : VOk z0
      · rw [if_pos h, decide_eq_true h]; rfl
      · rw [if_neg h, decide_eq_false h]; rfl
    have E1 := guard23
    have E2 := fun W => eqlHX (getV z0 a1) (getV z0 a1) W
    rw [show eqX (getV z0 a1) (getV z0 a1) = true from eqX_iff.2 rfl] at E2
    obtain ⟨⟨v0, v1, v2, v3, v4, v5⟩, -⟩ := X8.out
    obtain ⟨⟨y0, y1, y2, y3, y4, y5⟩, -⟩ := X10.out
    generalize decide (VOk z0) = q at *
    generalize (chkV z0 == 0) = q1 at *
    subst hk
    go_wp2_with fail
    clear u0 u1 u2 u3 u4 u5 v0 v1 v2 v3 v4 v5 y0 y1 y2 y3 y4 y5 E1 E2
    refine (awake12 hvc _).mono ?_
    rintro e W13 ⟨rfl, hb⟩
    replace H0 := Lib.hid (H0.out.below hb)
    replace HO := Lib.hid (HO.out.below hb)
    replace HX := Lib.hid (HX.out.below hb)
    replace HY := Lib.hid (HY.out.below hb)
    replace HD := Lib.hid (HD.out.below hb)
    replace HE := Lib.hid (HE.out.below hb)
    replace HB := Lib.hid (HB.out.trans (hb.mono HB.out.size))
    clear hb
    go_wp2_with fail
    refine (vsame_yes HX.out HY.out (Nat.le_trans (setL_len z0 a1 x2) (by have := HL.out; omega))).mono ?_
    rintro e W14 ⟨rfl, hb⟩
    replace H0 := Lib.hid (H0.out.below hb)
    replace HO := Lib.hid (HO.out.below hb)
    replace HX := Lib.hid (HX.out.below hb)
    replace HY := Lib.hid (HY.out.below hb)
    replace HD := Lib.hid (HD.out.below hb)
    replace HE := Lib.hid (HE.out.below hb)
    replace HB := Lib.hid (HB.out.trans (hb.mono HB.out.size))
    clear hb
    go_wp2_with fail
    refine (vsame_yes HD.out HE.out (Nat.le_trans (dropL_len z0 a1) (by have := HL.out; omega))).mono ?_
    rintro e W15 ⟨rfl, hb⟩
    replace H0 := Lib.hid (H0.out.below hb)
    replace HO := Lib.hid (HO.out.below hb)
    replace HX := Lib.hid (HX.out.below hb)
    replace HY := Lib.hid (HY.out.below hb)
    replace HD := Lib.hid (HD.out.below hb)
    replace HE := Lib.hid (HE.out.below hb)
    replace HB := Lib.hid (HB.out.trans (hb.mono HB.out.size))
    clear hb
    go_wp2_with fail
    refine (vsame_yes HO.out H0.out (Nat.le_trans HL.out (by decide))).mono ?_
    rintro e W16 ⟨rfl, hb⟩
    replace H0 := Lib.hid (H0.out.below hb)
    replace HO := Lib.hid (HO.out.below hb)
    replace HX := Lib.hid (HX.out.below hb)
    replace HY := Lib.hid (HY.out.below hb)
    replace HD := Lib.hid (HD.out.below hb)
    replace HE := Lib.hid (HE.out.below hb)
    replace HB := Lib.hid (HB.out.trans (hb.mono HB.out.size))
    clear hb
    go_wp2_with fail
    go_ret
    exact ⟨rfl, HB.out⟩
theorem walk (hvc : Vc) (a0 : Option Addr) (cap0 : Nat) (z0 : List Vw) (a1 : Int) (w1 : I64 a1) (n2 : Bool) (t2 o2 r2 d2 i2 : Int) (w2 : I64 t2 ∧ I64 o2 ∧ I64 r2 ∧ I64 d2 ∧ I64 i2) (w : World) (r0 : Vs w (.slice a0 z0.length cap0) z0) :
    Calls Try.prog 3 #[.slice a0 z0.length cap0, .int .i64 a1, .agg #[.bool n2, .int .i64 t2, .int .i64 o2, .int .i64 r2, .int .i64 d2, .int .i64 i2]] w fun e w' => e = .returned (.bool true) ∧ Below w.heap.size w w' := walk0 hvc a0 cap0 z0 a1 (n2, t2, o2, r2, d2, i2) w r0

set_option maxRecDepth 100000 in
theorem lifted (os : _root_.Go.Os) (started : os.Started) (H : Type) (enc : TypeId × Value → H) :
    ReturnsInHanded {} Try.checked os 3 .any (Rows.viewsSetSpec.pre6 enc Try.prog Try.f3 Rows.viewsSetRow.domain false) (Rows.viewsSetSpec.post enc Try.prog Try.f3 false true false false) := by
  refine returnsInHanded_of_change (C := Try.checked) own started (by kernel_rfl) Try.func3
    (ChangeSpec.witness6 (enc := enc) (C := Try.checked) false ⟨#[], #[.slice none 0 0, .int .i64 0, .agg #[.bool false, .int .i64 0, .int .i64 0, .int .i64 0, .int .i64 0, .int .i64 0]], []⟩ 16 (by kernel_rfl) (by kernel_rfl) (by kernel_rfl) (by kernel_rfl)) ?_
  intro W base args ds gs before hval0 hW hcnd _
  have hval : ∀ (j : Nat) t v, Try.f3.params[j]? = some t → args[j]? = some v → Value.okWide Try.prog W .any base t v := hval0
  have hW' := hW
  obtain ⟨p, q, hA0, hV, rfl, hfz, hnd⟩ := hW
  have hA : DataW.TrodAll enc Try.prog W 0 (fun _ => true) true Try.f3.params.toList args.toList ds p := hA0
  rw [Try.params3] at hA hval
  obtain ⟨v0, vs0, e0, ds0, p0, q0, hargs, rfl, rfl, h0, x0⟩ := trodAll_cons hA
  obtain ⟨v1, vs1, e1, ds1, p1, q1, rfl, rfl, rfl, h1, x1⟩ := trodAll_cons x0
  obtain ⟨v2, vs2, e2, ds2, p2, q2, rfl, rfl, rfl, h2, x2⟩ := trodAll_cons x1
  obtain ⟨rfl, rfl, rfl⟩ := trodAll_nil x2
  obtain rfl : args = #[v0, v1, v2] := by cases args; simp_all
  obtain ⟨rfl, rfl⟩ := trodVars_none hV
  have k0 := h0
  have lt0 : ∀ x ∈ p0, x.block < W.heap.size := by obtain ⟨m, hm⟩ := k0; exact DataW.trod_lt m _ _ _ hm
  have k1 := h1
  have lt1 : ∀ x ∈ p1, x.block < W.heap.size := by obtain ⟨m, hm⟩ := k1; exact DataW.trod_lt m _ _ _ hm
  obtain ⟨a1, rfl, _, _, w1⟩ := open_int Try.underlying3 (hval 1 3 v1 rfl rfl) h1
  have k2 := h2
  have lt2 : ∀ x ∈ p2, x.block < W.heap.size := by obtain ⟨m, hm⟩ := k2; exact DataW.trod_lt m _ _ _ hm
  obtain ⟨n2, t2, o2, r2, d2, i2, rfl, w2⟩ := ht_form (hval 2 24 v2 rfl rfl) h2
  obtain ⟨a0, len0, cap0, rfl⟩ := okWide_slice underVS (hval 0 22 v0 rfl rfl)
  obtain ⟨z0, hz0, w0, hm0⟩ := vs_form h0
  subst hz0
  clear hA0 hval0
  refine (walk vc a0 cap0 z0 a1 (i64_wf w1) n2 t2 o2 r2 d2 i2 w2 W w0).mono fun e W' ⟨he, bel⟩ => ?_
  subst he
  exact ⟨_, rfl, _, _, _, [], _, [], hW', trodAll_mk1 (shut_bool Try.underlying4 _), (trodAll_cons_mk (Below.trod laidOut (by kernel_rfl) (of_decide_eq_true (by kernel_rfl)) k0 bel lt0) (trodAll_cons_mk (Below.trod laidOut (by kernel_rfl) (of_decide_eq_true (by kernel_rfl)) k1 bel lt1) (trodAll_cons_mk (Below.trod laidOut (by kernel_rfl) (of_decide_eq_true (by kernel_rfl)) k2 bel lt2) trodAll_mk0))), rfl, bel.frame _, fun h => by cases h⟩

theorem over : Rows.viewsSetRow.holds Try.pinned (OpenSpec.ofChange Rows.viewsSetSpec) :=
  OpenClaim.holds_of_wide 3 Try.f3 rfl rfl rfl rfl rfl rfl rfl ⟨rfl, rfl, rfl, rfl, rfl⟩ rfl rfl rfl rfl rfl (by kernel_rfl) Try.func3 (by kernel_rfl)
    (of_decide_eq_true (by kernel_rfl)) (by unfold Func.isWrapper; first | (rw [if_pos (by decide +kernel)]; kernel_rfl) | (rw [if_neg (by decide +kernel)]; exact ⟨rfl, rfl⟩))
    (fun os started H enc _ => lifted os started H enc)

theorem proved : Rows.ViewsSetSaid := over
#print axioms proved
end Go.Proofs.Ytahhhegknmiinaa.viewsSet
