/- thalweglaw02.HeightLevels: for any two heights the law answers true; no condition. -/
import Derived.Test.YtkgckmlphfafjaaOrd0
import Derived.Test.YtkgckmlphfafjaaSto
import Derived.WalkLawsBesides
import Derived.WalkKit
import Derived.ProofKit
import Derived.OpenShut
import Derived.ShutString
import Derived.ChangeOld
import Derived.Below
namespace Go.Proofs.Ytkgckmlphfafjaa.heightLevels
open Go.ChangeShapes Go.WideShapes Go.ChangeAt Go.RowKit
open Go.Proofs.Ytkgckmlphfafjaa.heightOrder (lv ord_neg)
open Go.ChangeMaps (open_string shut_string)
set_option linter.unusedVariables false

theorem own : ownKnob Try.prog.godebug = none := by kernel_rfl
theorem laidOut : laidOutB Try.prog = true := by kernel_rfl

set_option maxHeartbeats 16000000 in
theorem case_b1 (n0 : Bool) (t0 o0 r0 d0 i0 : Int) (w0 : I64 t0 ∧ I64 o0 ∧ I64 r0 ∧ I64 d0 ∧ I64 i0) (n1 : Bool) (t1 o1 r1 d1 i1 : Int) (w1 : I64 t1 ∧ I64 o1 ∧ I64 r1 ∧ I64 d1 ∧ I64 i1) (w : World) (hcA : chk n0 t0 o0 r0 d0 i0 = 1) :
    Calls Try.prog 7 #[.agg #[.bool n0, .int .i64 t0, .int .i64 o0, .int .i64 r0, .int .i64 d0, .int .i64 i0], .agg #[.bool n1, .int .i64 t1, .int .i64 o1, .int .i64 r1, .int .i64 d1, .int .i64 i1]] w fun e w' => e = .returned (.bool true) ∧ Below w.heap.size w w' := by
  go_enter Try.func7, Try.ntmps7
  go_wp2_with fail
  have KA := Lib.hid ((cells6_alloc w n0 t0 o0 r0 d0 i0 23).below ((Below.refl _ _).alloc (Nat.le_refl _) (.cells #[.bool n1, .int .i64 t1, .int .i64 o1, .int .i64 r1, .int .i64 d1, .int .i64 i1] 23)))
  have KB := Lib.hid ((own6_alloc (w.alloc (.cells #[.bool n0, .int .i64 t0, .int .i64 o0, .int .i64 r0, .int .i64 d0, .int .i64 i0] 23)) n1 t1 o1 r1 d1 i1 23 (w.heap.size + 1) (by simp)).1)
  have HB : Hid (Below w.heap.size w ((w.alloc (.cells #[.bool n0, .int .i64 t0, .int .i64 o0, .int .i64 r0, .int .i64 d0, .int .i64 i0] 23)).alloc (.cells #[.bool n1, .int .i64 t1, .int .i64 o1, .int .i64 r1, .int .i64 d1, .int .i64 i1] 23))) := ((Below.refl _ w).alloc (Nat.le_refl _) _).alloc (by simp) _
  generalize ((w.alloc (.cells #[.bool n0, .int .i64 t0, .int .i64 o0, .int .i64 r0, .int .i64 d0, .int .i64 i0] 23)).alloc (.cells #[.bool n1, .int .i64 t1, .int .i64 o1, .int .i64 r1, .int .i64 d1, .int .i64 i1] 23)) = V1 at *
  obtain ⟨a0, a1, a2, a3, a4, a5⟩ := KA.out; obtain ⟨b0, b1, b2, b3, b4, b5⟩ := KB.out
  go_wp2_with (first
    | (go_at_call 12; refine (check_any _ _ _ _ _ _ _).mono ?_; rintro e V1 ⟨rfl, hb⟩; (first | rw [hcA] | rw [hcB]); replace KA := Lib.hid (KA.out.below hb); replace KB := Lib.hid (KB.out.below hb); replace HB := Lib.hid (HB.out.trans (hb.mono HB.out.size)); clear hb; clear a0 a1 a2 a3 a4 a5 b0 b1 b2 b3 b4 b5; obtain ⟨a0, a1, a2, a3, a4, a5⟩ := KA.out; obtain ⟨b0, b1, b2, b3, b4, b5⟩ := KB.out)
    | (go_at_call 20; refine (awake_any _).mono ?_; rintro e V1 ⟨rfl, hb⟩; replace KA := Lib.hid (KA.out.below hb); replace KB := Lib.hid (KB.out.below hb); replace HB := Lib.hid (HB.out.trans (hb.mono HB.out.size)); clear hb; clear a0 a1 a2 a3 a4 a5 b0 b1 b2 b3 b4 b5; obtain ⟨a0, a1, a2, a3, a4, a5⟩ := KA.out; obtain ⟨b0, b1, b2, b3, b4, b5⟩ := KB.out))
  go_ret
  exact ⟨rfl, HB.out⟩

set_option maxHeartbeats 16000000 in
theorem case_b2 (n0 : Bool) (t0 o0 r0 d0 i0 : Int) (w0 : I64 t0 ∧ I64 o0 ∧ I64 r0 ∧ I64 d0 ∧ I64 i0) (n1 : Bool) (t1 o1 r1 d1 i1 : Int) (w1 : I64 t1 ∧ I64 o1 ∧ I64 r1 ∧ I64 d1 ∧ I64 i1) (w : World) (hcA : chk n0 t0 o0 r0 d0 i0 = 0) (hcB : chk n1 t1 o1 r1 d1 i1 = 1) :
    Calls Try.prog 7 #[.agg #[.bool n0, .int .i64 t0, .int .i64 o0, .int .i64 r0, .int .i64 d0, .int .i64 i0], .agg #[.bool n1, .int .i64 t1, .int .i64 o1, .int .i64 r1, .int .i64 d1, .int .i64 i1]] w fun e w' => e = .returned (.bool true) ∧ Below w.heap.size w w' := by
  go_enter Try.func7, Try.ntmps7
  go_wp2_with fail
  have KA := Lib.hid ((cells6_alloc w n0 t0 o0 r0 d0 i0 23).below ((Below.refl _ _).alloc (Nat.le_refl _) (.cells #[.bool n1, .int .i64 t1, .int .i64 o1, .int .i64 r1, .int .i64 d1, .int .i64 i1] 23)))
  have KB := Lib.hid ((own6_alloc (w.alloc (.cells #[.bool n0, .int .i64 t0, .int .i64 o0, .int .i64 r0, .int .i64 d0, .int .i64 i0] 23)) n1 t1 o1 r1 d1 i1 23 (w.heap.size + 1) (by simp)).1)
  have HB : Hid (Below w.heap.size w ((w.alloc (.cells #[.bool n0, .int .i64 t0, .int .i64 o0, .int .i64 r0, .int .i64 d0, .int .i64 i0] 23)).alloc (.cells #[.bool n1, .int .i64 t1, .int .i64 o1, .int .i64 r1, .int .i64 d1, .int .i64 i1] 23))) := ((Below.refl _ w).alloc (Nat.le_refl _) _).alloc (by simp) _
  generalize ((w.alloc (.cells #[.bool n0, .int .i64 t0, .int .i64 o0, .int .i64 r0, .int .i64 d0, .int .i64 i0] 23)).alloc (.cells #[.bool n1, .int .i64 t1, .int .i64 o1, .int .i64 r1, .int .i64 d1, .int .i64 i1] 23)) = V1 at *
  obtain ⟨a0, a1, a2, a3, a4, a5⟩ := KA.out; obtain ⟨b0, b1, b2, b3, b4, b5⟩ := KB.out
  go_wp2_with (first
    | (go_at_call 12; refine (check_any _ _ _ _ _ _ _).mono ?_; rintro e V1 ⟨rfl, hb⟩; (first | rw [hcA] | rw [hcB]); replace KA := Lib.hid (KA.out.below hb); replace KB := Lib.hid (KB.out.below hb); replace HB := Lib.hid (HB.out.trans (hb.mono HB.out.size)); clear hb; clear a0 a1 a2 a3 a4 a5 b0 b1 b2 b3 b4 b5; obtain ⟨a0, a1, a2, a3, a4, a5⟩ := KA.out; obtain ⟨b0, b1, b2, b3, b4, b5⟩ := KB.out)
    | (go_at_call 20; refine (awake_any _).mono ?_; rintro e V1 ⟨rfl, hb⟩; replace KA := Lib.hid (KA.out.below hb); replace KB := Lib.hid (KB.out.below hb); replace HB := Lib.hid (HB.out.trans (hb.mono HB.out.size)); clear hb; clear a0 a1 a2 a3 a4 a5 b0 b1 b2 b3 b4 b5; obtain ⟨a0, a1, a2, a3, a4, a5⟩ := KA.out; obtain ⟨b0, b1, b2, b3, b4, b5⟩ := KB.out))
  go_ret
  exact ⟨rfl, HB.out⟩

set_option maxHeartbeats 16000000 in
theorem case_b3 (t0 o0 r0 d0 i0 : Int) (w0 : I64 t0 ∧ I64 o0 ∧ I64 r0 ∧ I64 d0 ∧ I64 i0) (n1 : Bool) (t1 o1 r1 d1 i1 : Int) (w1 : I64 t1 ∧ I64 o1 ∧ I64 r1 ∧ I64 d1 ∧ I64 i1) (w : World) (hcA : chk true t0 o0 r0 d0 i0 = 0) (hcB : chk n1 t1 o1 r1 d1 i1 = 0) :
    Calls Try.prog 7 #[.agg #[.bool true, .int .i64 t0, .int .i64 o0, .int .i64 r0, .int .i64 d0, .int .i64 i0], .agg #[.bool n1, .int .i64 t1, .int .i64 o1, .int .i64 r1, .int .i64 d1, .int .i64 i1]] w fun e w' => e = .returned (.bool true) ∧ Below w.heap.size w w' := by
  go_enter Try.func7, Try.ntmps7
  go_wp2_with fail
  have KA := Lib.hid ((cells6_alloc w true t0 o0 r0 d0 i0 23).below ((Below.refl _ _).alloc (Nat.le_refl _) (.cells #[.bool n1, .int .i64 t1, .int .i64 o1, .int .i64 r1, .int .i64 d1, .int .i64 i1] 23)))
  have KB := Lib.hid ((own6_alloc (w.alloc (.cells #[.bool true, .int .i64 t0, .int .i64 o0, .int .i64 r0, .int .i64 d0, .int .i64 i0] 23)) n1 t1 o1 r1 d1 i1 23 (w.heap.size + 1) (by simp)).1)
  have HB : Hid (Below w.heap.size w ((w.alloc (.cells #[.bool true, .int .i64 t0, .int .i64 o0, .int .i64 r0, .int .i64 d0, .int .i64 i0] 23)).alloc (.cells #[.bool n1, .int .i64 t1, .int .i64 o1, .int .i64 r1, .int .i64 d1, .int .i64 i1] 23))) := ((Below.refl _ w).alloc (Nat.le_refl _) _).alloc (by simp) _
  generalize ((w.alloc (.cells #[.bool true, .int .i64 t0, .int .i64 o0, .int .i64 r0, .int .i64 d0, .int .i64 i0] 23)).alloc (.cells #[.bool n1, .int .i64 t1, .int .i64 o1, .int .i64 r1, .int .i64 d1, .int .i64 i1] 23)) = V1 at *
  obtain ⟨a0, a1, a2, a3, a4, a5⟩ := KA.out; obtain ⟨b0, b1, b2, b3, b4, b5⟩ := KB.out
  go_wp2_with (first
    | (go_at_call 12; refine (check_any _ _ _ _ _ _ _).mono ?_; rintro e V1 ⟨rfl, hb⟩; (first | rw [hcA] | rw [hcB]); replace KA := Lib.hid (KA.out.below hb); replace KB := Lib.hid (KB.out.below hb); replace HB := Lib.hid (HB.out.trans (hb.mono HB.out.size)); clear hb; clear a0 a1 a2 a3 a4 a5 b0 b1 b2 b3 b4 b5; obtain ⟨a0, a1, a2, a3, a4, a5⟩ := KA.out; obtain ⟨b0, b1, b2, b3, b4, b5⟩ := KB.out)
    | (go_at_call 20; refine (awake_any _).mono ?_; rintro e V1 ⟨rfl, hb⟩; replace KA := Lib.hid (KA.out.below hb); replace KB := Lib.hid (KB.out.below hb); replace HB := Lib.hid (HB.out.trans (hb.mono HB.out.size)); clear hb; clear a0 a1 a2 a3 a4 a5 b0 b1 b2 b3 b4 b5; obtain ⟨a0, a1, a2, a3, a4, a5⟩ := KA.out; obtain ⟨b0, b1, b2, b3, b4, b5⟩ := KB.out))
  go_ret
  exact ⟨rfl, HB.out⟩

set_option maxHeartbeats 16000000 in
theorem case_b4 (t0 o0 r0 d0 i0 : Int) (w0 : I64 t0 ∧ I64 o0 ∧ I64 r0 ∧ I64 d0 ∧ I64 i0) (t1 o1 r1 d1 i1 : Int) (w1 : I64 t1 ∧ I64 o1 ∧ I64 r1 ∧ I64 d1 ∧ I64 i1) (w : World) (hcA : chk false t0 o0 r0 d0 i0 = 0) (hcB : chk true t1 o1 r1 d1 i1 = 0) :
    Calls Try.prog 7 #[.agg #[.bool false, .int .i64 t0, .int .i64 o0, .int .i64 r0, .int .i64 d0, .int .i64 i0], .agg #[.bool true, .int .i64 t1, .int .i64 o1, .int .i64 r1, .int .i64 d1, .int .i64 i1]] w fun e w' => e = .returned (.bool true) ∧ Below w.heap.size w w' := by
  go_enter Try.func7, Try.ntmps7
  go_wp2_with fail
  have KA := Lib.hid ((cells6_alloc w false t0 o0 r0 d0 i0 23).below ((Below.refl _ _).alloc (Nat.le_refl _) (.cells #[.bool true, .int .i64 t1, .int .i64 o1, .int .i64 r1, .int .i64 d1, .int .i64 i1] 23)))
  have KB := Lib.hid ((own6_alloc (w.alloc (.cells #[.bool false, .int .i64 t0, .int .i64 o0, .int .i64 r0, .int .i64 d0, .int .i64 i0] 23)) true t1 o1 r1 d1 i1 23 (w.heap.size + 1) (by simp)).1)
  have HB : Hid (Below w.heap.size w ((w.alloc (.cells #[.bool false, .int .i64 t0, .int .i64 o0, .int .i64 r0, .int .i64 d0, .int .i64 i0] 23)).alloc (.cells #[.bool true, .int .i64 t1, .int .i64 o1, .int .i64 r1, .int .i64 d1, .int .i64 i1] 23))) := ((Below.refl _ w).alloc (Nat.le_refl _) _).alloc (by simp) _
  generalize ((w.alloc (.cells #[.bool false, .int .i64 t0, .int .i64 o0, .int .i64 r0, .int .i64 d0, .int .i64 i0] 23)).alloc (.cells #[.bool true, .int .i64 t1, .int .i64 o1, .int .i64 r1, .int .i64 d1, .int .i64 i1] 23)) = V1 at *
  obtain ⟨a0, a1, a2, a3, a4, a5⟩ := KA.out; obtain ⟨b0, b1, b2, b3, b4, b5⟩ := KB.out
  go_wp2_with (first
    | (go_at_call 12; refine (check_any _ _ _ _ _ _ _).mono ?_; rintro e V1 ⟨rfl, hb⟩; (first | rw [hcA] | rw [hcB]); replace KA := Lib.hid (KA.out.below hb); replace KB := Lib.hid (KB.out.below hb); replace HB := Lib.hid (HB.out.trans (hb.mono HB.out.size)); clear hb; clear a0 a1 a2 a3 a4 a5 b0 b1 b2 b3 b4 b5; obtain ⟨a0, a1, a2, a3, a4, a5⟩ := KA.out; obtain ⟨b0, b1, b2, b3, b4, b5⟩ := KB.out)
    | (go_at_call 20; refine (awake_any _).mono ?_; rintro e V1 ⟨rfl, hb⟩; replace KA := Lib.hid (KA.out.below hb); replace KB := Lib.hid (KB.out.below hb); replace HB := Lib.hid (HB.out.trans (hb.mono HB.out.size)); clear hb; clear a0 a1 a2 a3 a4 a5 b0 b1 b2 b3 b4 b5; obtain ⟨a0, a1, a2, a3, a4, a5⟩ := KA.out; obtain ⟨b0, b1, b2, b3, b4, b5⟩ := KB.out))
  go_ret
  exact ⟨rfl, HB.out⟩

set_option maxHeartbeats 16000000 in
theorem case_z (t0 o0 r0 d0 i0 : Int) (w0 : I64 t0 ∧ I64 o0 ∧ I64 r0 ∧ I64 d0 ∧ I64 i0) (t1 o1 r1 d1 i1 : Int) (w1 : I64 t1 ∧ I64 o1 ∧ I64 r1 ∧ I64 d1 ∧ I64 i1) (w : World) (hTA : told false t0 o0 r0 d0 i0 = true) (hTB : told false t1 o1 r1 d1 i1 = true) (hcA : chk false t0 o0 r0 d0 i0 = 0) (hcB : chk false t1 o1 r1 d1 i1 = 0) (hOK : HtOk false t0 o0 r0 d0 i0) (hN : ordL t0 o0 r0 t1 o1 r1 = 0) :
    Calls Try.prog 7 #[.agg #[.bool false, .int .i64 t0, .int .i64 o0, .int .i64 r0, .int .i64 d0, .int .i64 i0], .agg #[.bool false, .int .i64 t1, .int .i64 o1, .int .i64 r1, .int .i64 d1, .int .i64 i1]] w fun e w' => e = .returned (.bool true) ∧ Below w.heap.size w w' := by
  have clA : ∀ w, Calls Try.prog 16 #[.agg #[.bool false, .int .i64 t0, .int .i64 o0, .int .i64 r0, .int .i64 d0, .int .i64 i0]] w fun e w' => e = .returned (.agg #[.int .i64 t0, .int .i64 o0, .int .i64 r0]) ∧ Below w.heap.size w w' := fun w => by have h := level_any false t0 o0 r0 d0 i0 w; rwa [levV, if_pos hTA] at h
  have clB : ∀ w, Calls Try.prog 16 #[.agg #[.bool false, .int .i64 t1, .int .i64 o1, .int .i64 r1, .int .i64 d1, .int .i64 i1]] w fun e w' => e = .returned (.agg #[.int .i64 t1, .int .i64 o1, .int .i64 r1]) ∧ Below w.heap.size w w' := fun w => by have h := level_any false t1 o1 r1 d1 i1 w; rwa [levV, if_pos hTB] at h
  have cAt : ∀ w, Calls Try.prog 8 #[.agg #[.int .i64 t0, .int .i64 o0, .int .i64 r0], .int .i64 d0, .int .i64 i0] w fun e w' => e = .returned (.tuple #[.agg #[.bool false, .int .i64 t0, .int .i64 o0, .int .i64 r0, .int .i64 d0, .int .i64 i0], .int .i64 0]) ∧ Below w.heap.size w w' := fun w => by have h := at_any t0 o0 r0 d0 i0 w; rwa [atV, if_pos hOK] at h
  clear hTA hTB hOK
  go_enter Try.func7, Try.ntmps7
  go_wp2_with fail
  have KA := Lib.hid ((cells6_alloc w false t0 o0 r0 d0 i0 23).below ((Below.refl _ _).alloc (Nat.le_refl _) (.cells #[.bool false, .int .i64 t1, .int .i64 o1, .int .i64 r1, .int .i64 d1, .int .i64 i1] 23)))
  have KB := Lib.hid ((own6_alloc (w.alloc (.cells #[.bool false, .int .i64 t0, .int .i64 o0, .int .i64 r0, .int .i64 d0, .int .i64 i0] 23)) false t1 o1 r1 d1 i1 23 (w.heap.size + 1) (by simp)).1)
  have HB : Hid (Below w.heap.size w ((w.alloc (.cells #[.bool false, .int .i64 t0, .int .i64 o0, .int .i64 r0, .int .i64 d0, .int .i64 i0] 23)).alloc (.cells #[.bool false, .int .i64 t1, .int .i64 o1, .int .i64 r1, .int .i64 d1, .int .i64 i1] 23))) := ((Below.refl _ w).alloc (Nat.le_refl _) _).alloc (by simp) _
  generalize ((w.alloc (.cells #[.bool false, .int .i64 t0, .int .i64 o0, .int .i64 r0, .int .i64 d0, .int .i64 i0] 23)).alloc (.cells #[.bool false, .int .i64 t1, .int .i64 o1, .int .i64 r1, .int .i64 d1, .int .i64 i1] 23)) = V1 at *
  obtain ⟨a0, a1, a2, a3, a4, a5⟩ := KA.out; obtain ⟨b0, b1, b2, b3, b4, b5⟩ := KB.out
  go_wp2_with (first
    | (go_at_call 12; refine (check_any _ _ _ _ _ _ _).mono ?_; rintro e V1 ⟨rfl, hb⟩; (first | rw [hcA] | rw [hcB]); replace KA := Lib.hid (KA.out.below hb); replace KB := Lib.hid (KB.out.below hb); replace HB := Lib.hid (HB.out.trans (hb.mono HB.out.size)); clear hb; clear a0 a1 a2 a3 a4 a5 b0 b1 b2 b3 b4 b5; obtain ⟨a0, a1, a2, a3, a4, a5⟩ := KA.out; obtain ⟨b0, b1, b2, b3, b4, b5⟩ := KB.out)
    | (go_at_call 20; refine (awake_any _).mono ?_; rintro e V1 ⟨rfl, hb⟩; replace KA := Lib.hid (KA.out.below hb); replace KB := Lib.hid (KB.out.below hb); replace HB := Lib.hid (HB.out.trans (hb.mono HB.out.size)); clear hb; clear a0 a1 a2 a3 a4 a5 b0 b1 b2 b3 b4 b5; obtain ⟨a0, a1, a2, a3, a4, a5⟩ := KA.out; obtain ⟨b0, b1, b2, b3, b4, b5⟩ := KB.out))
  have kc : ∀ w', Below V1.heap.size V1 w' → Cells6 w' w.heap.size false t0 o0 r0 d0 i0 := fun w' h => KA.out.below h
  unfold Cells6 at kc
  refine T3.wp_region_typed (C := fun w' => Below V1.heap.size V1 w') (X := XV 11) (n := 62) (by kernel_rfl) (by kernel_rfl) (by kernel_rfl) rfl (XV_refl 11) (Below.refl _ _).drew ?_
  refine T3.w_is (XV_refl 11) rfl _ (.inl rfl) (fun ρ w hC hc hfn hf => by have e2 : ρ (.tmp 2) = _ := hf 2 (by decide); (conv => lhs; simp [execOp, go_sem, hc, e2, kc w hC])) ?_
  refine T3.w_call rfl (Is _) (fun _ _ _ _ _ h _ => h) 16 (.inl rfl) (fun ρ w hC hc hfn hf => by have e26 : ρ (.tmp 26) = _ := hf 26 (by decide); exact ⟨_, by (conv => lhs; simp [execOp, resolve, invoke, go_sem, hc, hfn, e26]), tcx_below hC (by decide) (clA w)⟩) ?_
  refine T3.w_is (XV_refl 11) rfl _ (.inl rfl) (fun ρ w hC hc hfn hf => by have e2 : ρ (.tmp 2) = _ := hf 2 (by decide); (conv => lhs; simp [execOp, go_sem, hc, e2])) ?_
  refine T3.w_is (XV_refl 11) rfl _ (.inl rfl) (fun ρ w hC hc hfn hf => by have e28 : ρ (.tmp 28) = _ := hf 28 (by decide); (conv => lhs; simp [execOp, go_sem, hc, e28, kc w hC])) ?_
  refine T3.w_is (XV_refl 11) rfl _ (.inl rfl) (fun ρ w hC hc hfn hf => by have e2 : ρ (.tmp 2) = _ := hf 2 (by decide); (conv => lhs; simp [execOp, go_sem, hc, e2])) ?_
  refine T3.w_is (XV_refl 11) rfl _ (.inl rfl) (fun ρ w hC hc hfn hf => by have e30 : ρ (.tmp 30) = _ := hf 30 (by decide); (conv => lhs; simp [execOp, go_sem, hc, e30, kc w hC])) ?_
  refine T3.w_call rfl (Is _) (fun _ _ _ _ _ h _ => h) 8 (.inl rfl) (fun ρ w hC hc hfn hf => by have e27 : ρ (.tmp 27) = _ := hf 27 (by decide); have e29 : ρ (.tmp 29) = _ := hf 29 (by decide); have e31 : ρ (.tmp 31) = _ := hf 31 (by decide); exact ⟨_, by (conv => lhs; simp [execOp, resolve, invoke, go_sem, hc, hfn, e27, e29, e31]), tcx_below hC (by decide) (cAt w)⟩) ?_
  refine T3.w_is (XV_refl 11) rfl _ (.inl rfl) (fun ρ w hC hc hfn hf => by have e32 : ρ (.tmp 32) = _ := hf 32 (by decide); (conv => lhs; simp [execOp, go_sem, hc, e32])) ?_
  refine T3.w_is (XV_refl 11) rfl _ (.inl rfl) (fun ρ w hC hc hfn hf => by have e25 : ρ (.tmp 25) = _ := hf 25 (by decide); (conv => lhs; simp [execOp, go_sem, hc, e25])) ?_
  refine T3.w_is (XV_refl 11) rfl _ (.inl rfl) (fun ρ w hC hc hfn hf => by have e25 : ρ (.tmp 25) = _ := hf 25 (by decide); (conv => lhs; simp [execOp, go_sem, hc, e25])) ?_
  refine T3.w_make rfl (NewV V1) (NewV.keeps V1 11 _) (.inl rfl) (fun ρ w hC hc hfn hf => by exact ⟨_, _, by (conv => lhs; simp [execOp, go_sem]), hC.alloc hC.size _, XV_of (by decide) ((Below.refl _ w).alloc (Nat.le_refl _) _), ⟨_, rfl, hC.size, _, _, _, _, _, _, own6_alloc w false 0 0 0 0 0 23 _ rfl⟩⟩) ?_
  refine T3.w_store rfl rfl (HasV V1 false t0 o0 r0 d0 i0) (HasV.keeps V1 11 false t0 o0 r0 d0 i0) (.inl rfl) (fun ρ w hC hc hf => by have e33 : ρ (.tmp 33) = _ := hf 33 (by decide); obtain ⟨bq, q5, hbq, n', t', o', r', d', i', ho⟩ := (show NewV V1 (ρ (.tmp 5)) w from hf 5 (by decide)); have ⟨⟨m0, m1, m2, m3, m4, m5⟩, mf⟩ := ho; exact ⟨_, by (conv => lhs; simp [execOp, go_sem, q5, e33, m0, m1, m2, m3, m4, m5, mf]), bel_set6 hC hbq false t0 o0 r0 d0 i0, XV_at rfl (fun b hb => ok_set6 ⟨_, _, _, _, _, _, ho⟩ hb false t0 o0 r0 d0 i0), ⟨bq, q5, hbq, ho.set false t0 o0 r0 d0 i0⟩⟩) ?_
  refine T3.w_is (XV_refl 11) rfl _ (.inl rfl) (fun ρ w hC hc hfn hf => by have e34 : ρ (.tmp 34) = _ := hf 34 (by decide); (conv => lhs; simp [execOp, go_sem, hc, e34])) ?_
  intro A V5 hC hn hd hf hF
  obtain ⟨g, y5, hg, KX⟩ := (show HasV V1 false t0 o0 r0 d0 i0 (A.eval (.tmp 5)) V5 from hF (5, _) List.mem_cons_self)
  clear hF
  have y0 : A.eval (.tmp 0) = _ := Eq.trans (hf 0) (by conv => lhs; simp [go_sem])
  have y1 : A.eval (.tmp 1) = _ := Eq.trans (hf 1) (by conv => lhs; simp [go_sem])
  have y2 : A.eval (.tmp 2) = _ := Eq.trans (hf 2) (by conv => lhs; simp [go_sem])
  have y3 : A.eval (.tmp 3) = _ := Eq.trans (hf 3) (by conv => lhs; simp [go_sem])
  have y4 : A.eval (.tmp 4) = _ := Eq.trans (hf 4) (by conv => lhs; simp [go_sem])
  have y6 : A.eval (.tmp 6) = _ := hf 6
  have y7 : A.eval (.tmp 7) = _ := Eq.trans (hf 7) (by conv => lhs; simp [go_sem])
  have y8 : A.eval (.tmp 8) = _ := Eq.trans (hf 8) (by conv => lhs; simp [go_sem])
  have y9 : A.eval (.tmp 9) = _ := Eq.trans (hf 9) (by conv => lhs; simp [go_sem])
  have y10 : A.eval (.tmp 10) = _ := Eq.trans (hf 10) (by conv => lhs; simp [go_sem])
  have y11 : A.eval (.tmp 11) = _ := Eq.trans (hf 11) (by conv => lhs; simp [go_sem])
  have y12 : A.eval (.tmp 12) = _ := Eq.trans (hf 12) (by conv => lhs; simp [go_sem])
  have y13 : A.eval (.tmp 13) = _ := Eq.trans (hf 13) (by conv => lhs; simp [go_sem])
  have y14 : A.eval (.tmp 14) = _ := Eq.trans (hf 14) (by conv => lhs; simp [go_sem])
  have y15 : A.eval (.tmp 15) = _ := Eq.trans (hf 15) (by conv => lhs; simp [go_sem])
  have y16 : A.eval (.tmp 16) = _ := Eq.trans (hf 16) (by conv => lhs; simp [go_sem])
  have y17 : A.eval (.tmp 17) = _ := Eq.trans (hf 17) (by conv => lhs; simp [go_sem])
  have y18 : A.eval (.tmp 18) = _ := Eq.trans (hf 18) (by conv => lhs; simp [go_sem])
  have y19 : A.eval (.tmp 19) = _ := Eq.trans (hf 19) (by conv => lhs; simp [go_sem])
  have y20 : A.eval (.tmp 20) = _ := Eq.trans (hf 20) (by conv => lhs; simp [go_sem])
  have y21 : A.eval (.tmp 21) = _ := Eq.trans (hf 21) (by conv => lhs; simp [go_sem])
  have y22 : A.eval (.tmp 22) = _ := Eq.trans (hf 22) (by conv => lhs; simp [go_sem])
  have y23 : A.eval (.tmp 23) = _ := Eq.trans (hf 23) (by conv => lhs; simp [go_sem])
  have y24 : A.eval (.tmp 24) = _ := Eq.trans (hf 24) (by conv => lhs; simp [go_sem])
  have y25 : A.eval (.tmp 25) = _ := hf 25
  have y26 : A.eval (.tmp 26) = _ := hf 26
  have y27 : A.eval (.tmp 27) = _ := hf 27
  have y28 : A.eval (.tmp 28) = _ := hf 28
  have y29 : A.eval (.tmp 29) = _ := hf 29
  have y30 : A.eval (.tmp 30) = _ := hf 30
  have y31 : A.eval (.tmp 31) = _ := hf 31
  have y32 : A.eval (.tmp 32) = _ := hf 32
  have y33 : A.eval (.tmp 33) = _ := hf 33
  have y34 : A.eval (.tmp 34) = _ := hf 34
  have y35 : A.eval (.tmp 35) = _ := Eq.trans (hf 35) (by conv => lhs; simp [go_sem])
  have y36 : A.eval (.tmp 36) = _ := Eq.trans (hf 36) (by conv => lhs; simp [go_sem])
  have y37 : A.eval (.tmp 37) = _ := Eq.trans (hf 37) (by conv => lhs; simp [go_sem])
  have y38 : A.eval (.tmp 38) = _ := Eq.trans (hf 38) (by conv => lhs; simp [go_sem])
  have y39 : A.eval (.tmp 39) = _ := Eq.trans (hf 39) (by conv => lhs; simp [go_sem])
  have y40 : A.eval (.tmp 40) = _ := Eq.trans (hf 40) (by conv => lhs; simp [go_sem])
  have y41 : A.eval (.tmp 41) = _ := Eq.trans (hf 41) (by conv => lhs; simp [go_sem])
  have y42 : A.eval (.tmp 42) = _ := Eq.trans (hf 42) (by conv => lhs; simp [go_sem])
  have y43 : A.eval (.tmp 43) = _ := Eq.trans (hf 43) (by conv => lhs; simp [go_sem])
  have y44 : A.eval (.tmp 44) = _ := Eq.trans (hf 44) (by conv => lhs; simp [go_sem])
  have y45 : A.eval (.tmp 45) = _ := Eq.trans (hf 45) (by conv => lhs; simp [go_sem])
  have y46 : A.eval (.tmp 46) = _ := Eq.trans (hf 46) (by conv => lhs; simp [go_sem])
  have y47 : A.eval (.tmp 47) = _ := Eq.trans (hf 47) (by conv => lhs; simp [go_sem])
  have y48 : A.eval (.tmp 48) = _ := Eq.trans (hf 48) (by conv => lhs; simp [go_sem])
  have y49 : A.eval (.tmp 49) = _ := Eq.trans (hf 49) (by conv => lhs; simp [go_sem])
  have y50 : A.eval (.tmp 50) = _ := Eq.trans (hf 50) (by conv => lhs; simp [go_sem])
  have y51 : A.eval (.tmp 51) = _ := Eq.trans (hf 51) (by conv => lhs; simp [go_sem])
  have y52 : A.eval (.tmp 52) = _ := Eq.trans (hf 52) (by conv => lhs; simp [go_sem])
  have y53 : A.eval (.tmp 53) = _ := Eq.trans (hf 53) (by conv => lhs; simp [go_sem])
  have y54 : A.eval (.tmp 54) = _ := Eq.trans (hf 54) (by conv => lhs; simp [go_sem])
  have y55 : A.eval (.tmp 55) = _ := Eq.trans (hf 55) (by conv => lhs; simp [go_sem])
  have y56 : A.eval (.tmp 56) = _ := Eq.trans (hf 56) (by conv => lhs; simp [go_sem])
  have y57 : A.eval (.tmp 57) = _ := Eq.trans (hf 57) (by conv => lhs; simp [go_sem])
  have y58 : A.eval (.tmp 58) = _ := Eq.trans (hf 58) (by conv => lhs; simp [go_sem])
  have y59 : A.eval (.tmp 59) = _ := Eq.trans (hf 59) (by conv => lhs; simp [go_sem])
  have y60 : A.eval (.tmp 60) = _ := Eq.trans (hf 60) (by conv => lhs; simp [go_sem])
  have y61 : A.eval (.tmp 61) = _ := Eq.trans (hf 61) (by conv => lhs; simp [go_sem])
  clear hf
  have hA := frame_eq hn
  rw [show List.range 62 = [0, 1, 2, 3, 4, 5, 6, 7, 8, 9, 10, 11, 12, 13, 14, 15, 16, 17, 18, 19, 20, 21, 22, 23, 24, 25, 26, 27, 28, 29, 30, 31, 32, 33, 34, 35, 36, 37, 38, 39, 40, 41, 42, 43, 44, 45, 46, 47, 48, 49, 50, 51, 52, 53, 54, 55, 56, 57, 58, 59, 60, 61] from rfl, hd] at hA
  simp only [List.map_cons, List.map_nil, y0, y1, y2, y3, y4, y5, y6, y7, y8, y9, y10, y11, y12, y13, y14, y15, y16, y17, y18, y19, y20, y21, y22, y23, y24, y25, y26, y27, y28, y29, y30, y31, y32, y33, y34, y35, y36, y37, y38, y39, y40, y41, y42, y43, y44, y45, y46, y47, y48, y49, y50, y51, y52, y53, y54, y55, y56, y57, y58, y59, y60, y61] at hA
  clear y0 y1 y2 y3 y4 y5 y6 y7 y8 y9 y10 y11 y12 y13 y14 y15 y16 y17 y18 y19 y20 y21 y22 y23 y24 y25 y26 y27 y28 y29 y30 y31 y32 y33 y34 y35 y36 y37 y38 y39 y40 y41 y42 y43 y44 y45 y46 y47 y48 y49 y50 y51 y52 y53 y54 y55 y56 y57 y58 y59 y60 y61
  clear hn hd
  subst hA
  clear kc
  replace KX := Lib.hid KX.1
  replace KA := Lib.hid (KA.out.below hC); replace KB := Lib.hid (KB.out.below hC); replace HB := Lib.hid (HB.out.trans (hC.mono HB.out.size)); clear hC; clear a0 a1 a2 a3 a4 a5 b0 b1 b2 b3 b4 b5; obtain ⟨a0, a1, a2, a3, a4, a5⟩ := KA.out; obtain ⟨b0, b1, b2, b3, b4, b5⟩ := KB.out
  go_wp2_with fail
  have kc : ∀ w', Below V5.heap.size V5 w' → Cells6 w' w.heap.size false t0 o0 r0 d0 i0 ∧ Cells6 w' (w.heap.size + 1) false t1 o1 r1 d1 i1 := fun w' h => ⟨KA.out.below h, KB.out.below h⟩
  unfold Cells6 at kc
  refine wp_region_typed (C := fun w' => Below V5.heap.size V5 w') (X := fun w w' => Below w.heap.size w w') (n := 62) (by kernel_rfl) (by kernel_rfl) rfl (fun w => Below.refl _ w) (Below.refl _ _).drew ?_
  refine w_is (fun w => Below.refl _ w) _ (.inl rfl) (fun ρ w hC hc hfn hf => by have e2 : ρ (.tmp 2) = _ := hf 2 (by decide); (conv => lhs; simp [execOp, go_sem, hc, e2, kc w hC])) ?_
  refine w_call (Is _) (fun _ _ _ h _ => h) 16 (.inl rfl) (fun ρ w hC hc hfn hf => by have e35 : ρ (.tmp 35) = _ := hf 35 (by decide); exact ⟨_, by (conv => lhs; simp [execOp, resolve, invoke, go_sem, hc, hfn, e35]), (tc_below hC (clA w))⟩) ?_
  refine w_is (fun w => Below.refl _ w) _ (.inl rfl) (fun ρ w hC hc hfn hf => by have e3 : ρ (.tmp 3) = _ := hf 3 (by decide); (conv => lhs; simp [execOp, go_sem, hc, e3, kc w hC])) ?_
  refine w_call (Is _) (fun _ _ _ h _ => h) 16 (.inl rfl) (fun ρ w hC hc hfn hf => by have e37 : ρ (.tmp 37) = _ := hf 37 (by decide); exact ⟨_, by (conv => lhs; simp [execOp, resolve, invoke, go_sem, hc, hfn, e37]), (tc_below hC (clB w))⟩) ?_
  refine w_call (Is _) (fun _ _ _ h _ => h) 18 (.inl rfl) (fun ρ w hC hc hfn hf => by have e36 : ρ (.tmp 36) = _ := hf 36 (by decide); have e38 : ρ (.tmp 38) = _ := hf 38 (by decide); exact ⟨_, by (conv => lhs; simp [execOp, resolve, invoke, go_sem, hc, hfn, e36, e38]), (tc_below hC (order_any _ _ _ _ _ _ w))⟩) ?_
  refine w_is (fun w => Below.refl _ w) _ (.inl rfl) (fun ρ w hC hc hfn hf => by have e39 : ρ (.tmp 39) = _ := hf 39 (by decide); (conv => lhs; simp [execOp, go_sem, hc, e39])) ?_
  intro A V6 hC hn hd hf
  have y0 : A.eval (.tmp 0) = _ := Eq.trans (hf 0) (by conv => lhs; simp [go_sem])
  have y1 : A.eval (.tmp 1) = _ := Eq.trans (hf 1) (by conv => lhs; simp [go_sem])
  have y2 : A.eval (.tmp 2) = _ := Eq.trans (hf 2) (by conv => lhs; simp [go_sem])
  have y3 : A.eval (.tmp 3) = _ := Eq.trans (hf 3) (by conv => lhs; simp [go_sem])
  have y4 : A.eval (.tmp 4) = _ := Eq.trans (hf 4) (by conv => lhs; simp [go_sem])
  have y5 : A.eval (.tmp 5) = _ := Eq.trans (hf 5) (by conv => lhs; simp [go_sem])
  have y6 : A.eval (.tmp 6) = _ := Eq.trans (hf 6) (by conv => lhs; simp [go_sem])
  have y7 : A.eval (.tmp 7) = _ := hf 7
  have y8 : A.eval (.tmp 8) = _ := Eq.trans (hf 8) (by conv => lhs; simp [go_sem])
  have y9 : A.eval (.tmp 9) = _ := Eq.trans (hf 9) (by conv => lhs; simp [go_sem])
  have y10 : A.eval (.tmp 10) = _ := Eq.trans (hf 10) (by conv => lhs; simp [go_sem])
  have y11 : A.eval (.tmp 11) = _ := Eq.trans (hf 11) (by conv => lhs; simp [go_sem])
  have y12 : A.eval (.tmp 12) = _ := Eq.trans (hf 12) (by conv => lhs; simp [go_sem])
  have y13 : A.eval (.tmp 13) = _ := Eq.trans (hf 13) (by conv => lhs; simp [go_sem])
  have y14 : A.eval (.tmp 14) = _ := Eq.trans (hf 14) (by conv => lhs; simp [go_sem])
  have y15 : A.eval (.tmp 15) = _ := Eq.trans (hf 15) (by conv => lhs; simp [go_sem])
  have y16 : A.eval (.tmp 16) = _ := Eq.trans (hf 16) (by conv => lhs; simp [go_sem])
  have y17 : A.eval (.tmp 17) = _ := Eq.trans (hf 17) (by conv => lhs; simp [go_sem])
  have y18 : A.eval (.tmp 18) = _ := Eq.trans (hf 18) (by conv => lhs; simp [go_sem])
  have y19 : A.eval (.tmp 19) = _ := Eq.trans (hf 19) (by conv => lhs; simp [go_sem])
  have y20 : A.eval (.tmp 20) = _ := Eq.trans (hf 20) (by conv => lhs; simp [go_sem])
  have y21 : A.eval (.tmp 21) = _ := Eq.trans (hf 21) (by conv => lhs; simp [go_sem])
  have y22 : A.eval (.tmp 22) = _ := Eq.trans (hf 22) (by conv => lhs; simp [go_sem])
  have y23 : A.eval (.tmp 23) = _ := Eq.trans (hf 23) (by conv => lhs; simp [go_sem])
  have y24 : A.eval (.tmp 24) = _ := Eq.trans (hf 24) (by conv => lhs; simp [go_sem])
  have y25 : A.eval (.tmp 25) = _ := Eq.trans (hf 25) (by conv => lhs; simp [go_sem])
  have y26 : A.eval (.tmp 26) = _ := Eq.trans (hf 26) (by conv => lhs; simp [go_sem])
  have y27 : A.eval (.tmp 27) = _ := Eq.trans (hf 27) (by conv => lhs; simp [go_sem])
  have y28 : A.eval (.tmp 28) = _ := Eq.trans (hf 28) (by conv => lhs; simp [go_sem])
  have y29 : A.eval (.tmp 29) = _ := Eq.trans (hf 29) (by conv => lhs; simp [go_sem])
  have y30 : A.eval (.tmp 30) = _ := Eq.trans (hf 30) (by conv => lhs; simp [go_sem])
  have y31 : A.eval (.tmp 31) = _ := Eq.trans (hf 31) (by conv => lhs; simp [go_sem])
  have y32 : A.eval (.tmp 32) = _ := Eq.trans (hf 32) (by conv => lhs; simp [go_sem])
  have y33 : A.eval (.tmp 33) = _ := Eq.trans (hf 33) (by conv => lhs; simp [go_sem])
  have y34 : A.eval (.tmp 34) = _ := Eq.trans (hf 34) (by conv => lhs; simp [go_sem])
  have y35 : A.eval (.tmp 35) = _ := hf 35
  have y36 : A.eval (.tmp 36) = _ := hf 36
  have y37 : A.eval (.tmp 37) = _ := hf 37
  have y38 : A.eval (.tmp 38) = _ := hf 38
  have y39 : A.eval (.tmp 39) = _ := hf 39
  have y40 : A.eval (.tmp 40) = _ := Eq.trans (hf 40) (by conv => lhs; simp [go_sem])
  have y41 : A.eval (.tmp 41) = _ := Eq.trans (hf 41) (by conv => lhs; simp [go_sem])
  have y42 : A.eval (.tmp 42) = _ := Eq.trans (hf 42) (by conv => lhs; simp [go_sem])
  have y43 : A.eval (.tmp 43) = _ := Eq.trans (hf 43) (by conv => lhs; simp [go_sem])
  have y44 : A.eval (.tmp 44) = _ := Eq.trans (hf 44) (by conv => lhs; simp [go_sem])
  have y45 : A.eval (.tmp 45) = _ := Eq.trans (hf 45) (by conv => lhs; simp [go_sem])
  have y46 : A.eval (.tmp 46) = _ := Eq.trans (hf 46) (by conv => lhs; simp [go_sem])
  have y47 : A.eval (.tmp 47) = _ := Eq.trans (hf 47) (by conv => lhs; simp [go_sem])
  have y48 : A.eval (.tmp 48) = _ := Eq.trans (hf 48) (by conv => lhs; simp [go_sem])
  have y49 : A.eval (.tmp 49) = _ := Eq.trans (hf 49) (by conv => lhs; simp [go_sem])
  have y50 : A.eval (.tmp 50) = _ := Eq.trans (hf 50) (by conv => lhs; simp [go_sem])
  have y51 : A.eval (.tmp 51) = _ := Eq.trans (hf 51) (by conv => lhs; simp [go_sem])
  have y52 : A.eval (.tmp 52) = _ := Eq.trans (hf 52) (by conv => lhs; simp [go_sem])
  have y53 : A.eval (.tmp 53) = _ := Eq.trans (hf 53) (by conv => lhs; simp [go_sem])
  have y54 : A.eval (.tmp 54) = _ := Eq.trans (hf 54) (by conv => lhs; simp [go_sem])
  have y55 : A.eval (.tmp 55) = _ := Eq.trans (hf 55) (by conv => lhs; simp [go_sem])
  have y56 : A.eval (.tmp 56) = _ := Eq.trans (hf 56) (by conv => lhs; simp [go_sem])
  have y57 : A.eval (.tmp 57) = _ := Eq.trans (hf 57) (by conv => lhs; simp [go_sem])
  have y58 : A.eval (.tmp 58) = _ := Eq.trans (hf 58) (by conv => lhs; simp [go_sem])
  have y59 : A.eval (.tmp 59) = _ := Eq.trans (hf 59) (by conv => lhs; simp [go_sem])
  have y60 : A.eval (.tmp 60) = _ := Eq.trans (hf 60) (by conv => lhs; simp [go_sem])
  have y61 : A.eval (.tmp 61) = _ := Eq.trans (hf 61) (by conv => lhs; simp [go_sem])
  clear hf
  have hA := frame_eq hn
  rw [show List.range 62 = [0, 1, 2, 3, 4, 5, 6, 7, 8, 9, 10, 11, 12, 13, 14, 15, 16, 17, 18, 19, 20, 21, 22, 23, 24, 25, 26, 27, 28, 29, 30, 31, 32, 33, 34, 35, 36, 37, 38, 39, 40, 41, 42, 43, 44, 45, 46, 47, 48, 49, 50, 51, 52, 53, 54, 55, 56, 57, 58, 59, 60, 61] from rfl, hd] at hA
  simp only [List.map_cons, List.map_nil, y0, y1, y2, y3, y4, y5, y6, y7, y8, y9, y10, y11, y12, y13, y14, y15, y16, y17, y18, y19, y20, y21, y22, y23, y24, y25, y26, y27, y28, y29, y30, y31, y32, y33, y34, y35, y36, y37, y38, y39, y40, y41, y42, y43, y44, y45, y46, y47, y48, y49, y50, y51, y52, y53, y54, y55, y56, y57, y58, y59, y60, y61] at hA
  clear y0 y1 y2 y3 y4 y5 y6 y7 y8 y9 y10 y11 y12 y13 y14 y15 y16 y17 y18 y19 y20 y21 y22 y23 y24 y25 y26 y27 y28 y29 y30 y31 y32 y33 y34 y35 y36 y37 y38 y39 y40 y41 y42 y43 y44 y45 y46 y47 y48 y49 y50 y51 y52 y53 y54 y55 y56 y57 y58 y59 y60 y61
  clear hn hd
  subst hA
  clear kc
  replace KX := Lib.hid (KX.out.below hC)
  replace KA := Lib.hid (KA.out.below hC); replace KB := Lib.hid (KB.out.below hC); replace HB := Lib.hid (HB.out.trans (hC.mono HB.out.size)); clear hC; clear a0 a1 a2 a3 a4 a5 b0 b1 b2 b3 b4 b5; obtain ⟨a0, a1, a2, a3, a4, a5⟩ := KA.out; obtain ⟨b0, b1, b2, b3, b4, b5⟩ := KB.out
  clear clA clB cAt
  have E1 := guard23
  have E2 := eql23
  have E3 : ∀ n t o r d i, eqH n t o r d i n t o r d i = true := fun n t o r d i => eqH_iff.2 ⟨rfl, rfl, rfl, rfl, rfl, rfl⟩
  rw [hN]
  go_wp2_with (first
    | (go_at_call 20; refine (awake_any _).mono ?_; rintro e V7 ⟨rfl, hb⟩; replace KX := Lib.hid (KX.out.below hb); replace KA := Lib.hid (KA.out.below hb); replace KB := Lib.hid (KB.out.below hb); replace HB := Lib.hid (HB.out.trans (hb.mono HB.out.size)); clear hb; clear a0 a1 a2 a3 a4 a5 b0 b1 b2 b3 b4 b5; obtain ⟨a0, a1, a2, a3, a4, a5⟩ := KA.out; obtain ⟨b0, b1, b2, b3, b4, b5⟩ := KB.out; obtain ⟨x0, x1, x2, x3, x4, x5⟩ := KX.out)
    | (go_at_call 14; refine (less_any _ _ _ _ _ _ _ _ _ _ _ _ _).mono ?_; rintro e V8 ⟨rfl, hb⟩; replace KA := Lib.hid (KA.out.below hb); replace KB := Lib.hid (KB.out.below hb); replace HB := Lib.hid (HB.out.trans (hb.mono HB.out.size)); clear hb; clear a0 a1 a2 a3 a4 a5 b0 b1 b2 b3 b4 b5; obtain ⟨a0, a1, a2, a3, a4, a5⟩ := KA.out; obtain ⟨b0, b1, b2, b3, b4, b5⟩ := KB.out))
  go_ret
  exact ⟨rfl, HB.out⟩

set_option maxHeartbeats 16000000 in
theorem case_l (t0 o0 r0 d0 i0 : Int) (w0 : I64 t0 ∧ I64 o0 ∧ I64 r0 ∧ I64 d0 ∧ I64 i0) (t1 o1 r1 d1 i1 : Int) (w1 : I64 t1 ∧ I64 o1 ∧ I64 r1 ∧ I64 d1 ∧ I64 i1) (w : World) (hTA : told false t0 o0 r0 d0 i0 = true) (hTB : told false t1 o1 r1 d1 i1 = true) (hcA : chk false t0 o0 r0 d0 i0 = 0) (hcB : chk false t1 o1 r1 d1 i1 = 0) (hOK : HtOk false t0 o0 r0 d0 i0) (hN : ordL t0 o0 r0 t1 o1 r1 = -1) (hAB : lessB false t0 o0 r0 d0 i0 false t1 o1 r1 d1 i1 = true) :
    Calls Try.prog 7 #[.agg #[.bool false, .int .i64 t0, .int .i64 o0, .int .i64 r0, .int .i64 d0, .int .i64 i0], .agg #[.bool false, .int .i64 t1, .int .i64 o1, .int .i64 r1, .int .i64 d1, .int .i64 i1]] w fun e w' => e = .returned (.bool true) ∧ Below w.heap.size w w' := by
  have clA : ∀ w, Calls Try.prog 16 #[.agg #[.bool false, .int .i64 t0, .int .i64 o0, .int .i64 r0, .int .i64 d0, .int .i64 i0]] w fun e w' => e = .returned (.agg #[.int .i64 t0, .int .i64 o0, .int .i64 r0]) ∧ Below w.heap.size w w' := fun w => by have h := level_any false t0 o0 r0 d0 i0 w; rwa [levV, if_pos hTA] at h
  have clB : ∀ w, Calls Try.prog 16 #[.agg #[.bool false, .int .i64 t1, .int .i64 o1, .int .i64 r1, .int .i64 d1, .int .i64 i1]] w fun e w' => e = .returned (.agg #[.int .i64 t1, .int .i64 o1, .int .i64 r1]) ∧ Below w.heap.size w w' := fun w => by have h := level_any false t1 o1 r1 d1 i1 w; rwa [levV, if_pos hTB] at h
  have cAt : ∀ w, Calls Try.prog 8 #[.agg #[.int .i64 t0, .int .i64 o0, .int .i64 r0], .int .i64 d0, .int .i64 i0] w fun e w' => e = .returned (.tuple #[.agg #[.bool false, .int .i64 t0, .int .i64 o0, .int .i64 r0, .int .i64 d0, .int .i64 i0], .int .i64 0]) ∧ Below w.heap.size w w' := fun w => by have h := at_any t0 o0 r0 d0 i0 w; rwa [atV, if_pos hOK] at h
  clear hTA hTB hOK
  go_enter Try.func7, Try.ntmps7
  go_wp2_with fail
  have KA := Lib.hid ((cells6_alloc w false t0 o0 r0 d0 i0 23).below ((Below.refl _ _).alloc (Nat.le_refl _) (.cells #[.bool false, .int .i64 t1, .int .i64 o1, .int .i64 r1, .int .i64 d1, .int .i64 i1] 23)))
  have KB := Lib.hid ((own6_alloc (w.alloc (.cells #[.bool false, .int .i64 t0, .int .i64 o0, .int .i64 r0, .int .i64 d0, .int .i64 i0] 23)) false t1 o1 r1 d1 i1 23 (w.heap.size + 1) (by simp)).1)
  have HB : Hid (Below w.heap.size w ((w.alloc (.cells #[.bool false, .int .i64 t0, .int .i64 o0, .int .i64 r0, .int .i64 d0, .int .i64 i0] 23)).alloc (.cells #[.bool false, .int .i64 t1, .int .i64 o1, .int .i64 r1, .int .i64 d1, .int .i64 i1] 23))) := ((Below.refl _ w).alloc (Nat.le_refl _) _).alloc (by simp) _
  generalize ((w.alloc (.cells #[.bool false, .int .i64 t0, .int .i64 o0, .int .i64 r0, .int .i64 d0, .int .i64 i0] 23)).alloc (.cells #[.bool false, .int .i64 t1, .int .i64 o1, .int .i64 r1, .int .i64 d1, .int .i64 i1] 23)) = V1 at *
  obtain ⟨a0, a1, a2, a3, a4, a5⟩ := KA.out; obtain ⟨b0, b1, b2, b3, b4, b5⟩ := KB.out
  go_wp2_with (first
    | (go_at_call 12; refine (check_any _ _ _ _ _ _ _).mono ?_; rintro e V1 ⟨rfl, hb⟩; (first | rw [hcA] | rw [hcB]); replace KA := Lib.hid (KA.out.below hb); replace KB := Lib.hid (KB.out.below hb); replace HB := Lib.hid (HB.out.trans (hb.mono HB.out.size)); clear hb; clear a0 a1 a2 a3 a4 a5 b0 b1 b2 b3 b4 b5; obtain ⟨a0, a1, a2, a3, a4, a5⟩ := KA.out; obtain ⟨b0, b1, b2, b3, b4, b5⟩ := KB.out)
    | (go_at_call 20; refine (awake_any _).mono ?_; rintro e V1 ⟨rfl, hb⟩; replace KA := Lib.hid (KA.out.below hb); replace KB := Lib.hid (KB.out.below hb); replace HB := Lib.hid (HB.out.trans (hb.mono HB.out.size)); clear hb; clear a0 a1 a2 a3 a4 a5 b0 b1 b2 b3 b4 b5; obtain ⟨a0, a1, a2, a3, a4, a5⟩ := KA.out; obtain ⟨b0, b1, b2, b3, b4, b5⟩ := KB.out))
  have kc : ∀ w', Below V1.heap.size V1 w' → Cells6 w' w.heap.size false t0 o0 r0 d0 i0 := fun w' h => KA.out.below h
  unfold Cells6 at kc
  refine T3.wp_region_typed (C := fun w' => Below V1.heap.size V1 w') (X := XV 11) (n := 62) (by kernel_rfl) (by kernel_rfl) (by kernel_rfl) rfl (XV_refl 11) (Below.refl _ _).drew ?_
  refine T3.w_is (XV_refl 11) rfl _ (.inl rfl) (fun ρ w hC hc hfn hf => by have e2 : ρ (.tmp 2) = _ := hf 2 (by decide); (conv => lhs; simp [execOp, go_sem, hc, e2, kc w hC])) ?_
  refine T3.w_call rfl (Is _) (fun _ _ _ _ _ h _ => h) 16 (.inl rfl) (fun ρ w hC hc hfn hf => by have e26 : ρ (.tmp 26) = _ := hf 26 (by decide); exact ⟨_, by (conv => lhs; simp [execOp, resolve, invoke, go_sem, hc, hfn, e26]), tcx_below hC (by decide) (clA w)⟩) ?_
  refine T3.w_is (XV_refl 11) rfl _ (.inl rfl) (fun ρ w hC hc hfn hf => by have e2 : ρ (.tmp 2) = _ := hf 2 (by decide); (conv => lhs; simp [execOp, go_sem, hc, e2])) ?_
  refine T3.w_is (XV_refl 11) rfl _ (.inl rfl) (fun ρ w hC hc hfn hf => by have e28 : ρ (.tmp 28) = _ := hf 28 (by decide); (conv => lhs; simp [execOp, go_sem, hc, e28, kc w hC])) ?_
  refine T3.w_is (XV_refl 11) rfl _ (.inl rfl) (fun ρ w hC hc hfn hf => by have e2 : ρ (.tmp 2) = _ := hf 2 (by decide); (conv => lhs; simp [execOp, go_sem, hc, e2])) ?_
  refine T3.w_is (XV_refl 11) rfl _ (.inl rfl) (fun ρ w hC hc hfn hf => by have e30 : ρ (.tmp 30) = _ := hf 30 (by decide); (conv => lhs; simp [execOp, go_sem, hc, e30, kc w hC])) ?_
  refine T3.w_call rfl (Is _) (fun _ _ _ _ _ h _ => h) 8 (.inl rfl) (fun ρ w hC hc hfn hf => by have e27 : ρ (.tmp 27) = _ := hf 27 (by decide); have e29 : ρ (.tmp 29) = _ := hf 29 (by decide); have e31 : ρ (.tmp 31) = _ := hf 31 (by decide); exact ⟨_, by (conv => lhs; simp [execOp, resolve, invoke, go_sem, hc, hfn, e27, e29, e31]), tcx_below hC (by decide) (cAt w)⟩) ?_
  refine T3.w_is (XV_refl 11) rfl _ (.inl rfl) (fun ρ w hC hc hfn hf => by have e32 : ρ (.tmp 32) = _ := hf 32 (by decide); (conv => lhs; simp [execOp, go_sem, hc, e32])) ?_
  refine T3.w_is (XV_refl 11) rfl _ (.inl rfl) (fun ρ w hC hc hfn hf => by have e25 : ρ (.tmp 25) = _ := hf 25 (by decide); (conv => lhs; simp [execOp, go_sem, hc, e25])) ?_
  refine T3.w_is (XV_refl 11) rfl _ (.inl rfl) (fun ρ w hC hc hfn hf => by have e25 : ρ (.tmp 25) = _ := hf 25 (by decide); (conv => lhs; simp [execOp, go_sem, hc, e25])) ?_
  refine T3.w_make rfl (NewV V1) (NewV.keeps V1 11 _) (.inl rfl) (fun ρ w hC hc hfn hf => by exact ⟨_, _, by (conv => lhs; simp [execOp, go_sem]), hC.alloc hC.size _, XV_of (by decide) ((Below.refl _ w).alloc (Nat.le_refl _) _), ⟨_, rfl, hC.size, _, _, _, _, _, _, own6_alloc w false 0 0 0 0 0 23 _ rfl⟩⟩) ?_
  refine T3.w_store rfl rfl (HasV V1 false t0 o0 r0 d0 i0) (HasV.keeps V1 11 false t0 o0 r0 d0 i0) (.inl rfl) (fun ρ w hC hc hf => by have e33 : ρ (.tmp 33) = _ := hf 33 (by decide); obtain ⟨bq, q5, hbq, n', t', o', r', d', i', ho⟩ := (show NewV V1 (ρ (.tmp 5)) w from hf 5 (by decide)); have ⟨⟨m0, m1, m2, m3, m4, m5⟩, mf⟩ := ho; exact ⟨_, by (conv => lhs; simp [execOp, go_sem, q5, e33, m0, m1, m2, m3, m4, m5, mf]), bel_set6 hC hbq false t0 o0 r0 d0 i0, XV_at rfl (fun b hb => ok_set6 ⟨_, _, _, _, _, _, ho⟩ hb false t0 o0 r0 d0 i0), ⟨bq, q5, hbq, ho.set false t0 o0 r0 d0 i0⟩⟩) ?_
  refine T3.w_is (XV_refl 11) rfl _ (.inl rfl) (fun ρ w hC hc hfn hf => by have e34 : ρ (.tmp 34) = _ := hf 34 (by decide); (conv => lhs; simp [execOp, go_sem, hc, e34])) ?_
  intro A V5 hC hn hd hf hF
  obtain ⟨g, y5, hg, KX⟩ := (show HasV V1 false t0 o0 r0 d0 i0 (A.eval (.tmp 5)) V5 from hF (5, _) List.mem_cons_self)
  clear hF
  have y0 : A.eval (.tmp 0) = _ := Eq.trans (hf 0) (by conv => lhs; simp [go_sem])
  have y1 : A.eval (.tmp 1) = _ := Eq.trans (hf 1) (by conv => lhs; simp [go_sem])
  have y2 : A.eval (.tmp 2) = _ := Eq.trans (hf 2) (by conv => lhs; simp [go_sem])
  have y3 : A.eval (.tmp 3) = _ := Eq.trans (hf 3) (by conv => lhs; simp [go_sem])
  have y4 : A.eval (.tmp 4) = _ := Eq.trans (hf 4) (by conv => lhs; simp [go_sem])
  have y6 : A.eval (.tmp 6) = _ := hf 6
  have y7 : A.eval (.tmp 7) = _ := Eq.trans (hf 7) (by conv => lhs; simp [go_sem])
  have y8 : A.eval (.tmp 8) = _ := Eq.trans (hf 8) (by conv => lhs; simp [go_sem])
  have y9 : A.eval (.tmp 9) = _ := Eq.trans (hf 9) (by conv => lhs; simp [go_sem])
  have y10 : A.eval (.tmp 10) = _ := Eq.trans (hf 10) (by conv => lhs; simp [go_sem])
  have y11 : A.eval (.tmp 11) = _ := Eq.trans (hf 11) (by conv => lhs; simp [go_sem])
  have y12 : A.eval (.tmp 12) = _ := Eq.trans (hf 12) (by conv => lhs; simp [go_sem])
  have y13 : A.eval (.tmp 13) = _ := Eq.trans (hf 13) (by conv => lhs; simp [go_sem])
  have y14 : A.eval (.tmp 14) = _ := Eq.trans (hf 14) (by conv => lhs; simp [go_sem])
  have y15 : A.eval (.tmp 15) = _ := Eq.trans (hf 15) (by conv => lhs; simp [go_sem])
  have y16 : A.eval (.tmp 16) = _ := Eq.trans (hf 16) (by conv => lhs; simp [go_sem])
  have y17 : A.eval (.tmp 17) = _ := Eq.trans (hf 17) (by conv => lhs; simp [go_sem])
  have y18 : A.eval (.tmp 18) = _ := Eq.trans (hf 18) (by conv => lhs; simp [go_sem])
  have y19 : A.eval (.tmp 19) = _ := Eq.trans (hf 19) (by conv => lhs; simp [go_sem])
  have y20 : A.eval (.tmp 20) = _ := Eq.trans (hf 20) (by conv => lhs; simp [go_sem])
  have y21 : A.eval (.tmp 21) = _ := Eq.trans (hf 21) (by conv => lhs; simp [go_sem])
  have y22 : A.eval (.tmp 22) = _ := Eq.trans (hf 22) (by conv => lhs; simp [go_sem])
  have y23 : A.eval (.tmp 23) = _ := Eq.trans (hf 23) (by conv => lhs; simp [go_sem])
  have y24 : A.eval (.tmp 24) = _ := Eq.trans (hf 24) (by conv => lhs; simp [go_sem])
  have y25 : A.eval (.tmp 25) = _ := hf 25
  have y26 : A.eval (.tmp 26) = _ := hf 26
  have y27 : A.eval (.tmp 27) = _ := hf 27
  have y28 : A.eval (.tmp 28) = _ := hf 28
  have y29 : A.eval (.tmp 29) = _ := hf 29
  have y30 : A.eval (.tmp 30) = _ := hf 30
  have y31 : A.eval (.tmp 31) = _ := hf 31
  have y32 : A.eval (.tmp 32) = _ := hf 32
  have y33 : A.eval (.tmp 33) = _ := hf 33
  have y34 : A.eval (.tmp 34) = _ := hf 34
  have y35 : A.eval (.tmp 35) = _ := Eq.trans (hf 35) (by conv => lhs; simp [go_sem])
  have y36 : A.eval (.tmp 36) = _ := Eq.trans (hf 36) (by conv => lhs; simp [go_sem])
  have y37 : A.eval (.tmp 37) = _ := Eq.trans (hf 37) (by conv => lhs; simp [go_sem])
  have y38 : A.eval (.tmp 38) = _ := Eq.trans (hf 38) (by conv => lhs; simp [go_sem])
  have y39 : A.eval (.tmp 39) = _ := Eq.trans (hf 39) (by conv => lhs; simp [go_sem])
  have y40 : A.eval (.tmp 40) = _ := Eq.trans (hf 40) (by conv => lhs; simp [go_sem])
  have y41 : A.eval (.tmp 41) = _ := Eq.trans (hf 41) (by conv => lhs; simp [go_sem])
  have y42 : A.eval (.tmp 42) = _ := Eq.trans (hf 42) (by conv => lhs; simp [go_sem])
  have y43 : A.eval (.tmp 43) = _ := Eq.trans (hf 43) (by conv => lhs; simp [go_sem])
  have y44 : A.eval (.tmp 44) = _ := Eq.trans (hf 44) (by conv => lhs; simp [go_sem])
  have y45 : A.eval (.tmp 45) = _ := Eq.trans (hf 45) (by conv => lhs; simp [go_sem])
  have y46 : A.eval (.tmp 46) = _ := Eq.trans (hf 46) (by conv => lhs; simp [go_sem])
  have y47 : A.eval (.tmp 47) = _ := Eq.trans (hf 47) (by conv => lhs; simp [go_sem])
  have y48 : A.eval (.tmp 48) = _ := Eq.trans (hf 48) (by conv => lhs; simp [go_sem])
  have y49 : A.eval (.tmp 49) = _ := Eq.trans (hf 49) (by conv => lhs; simp [go_sem])
  have y50 : A.eval (.tmp 50) = _ := Eq.trans (hf 50) (by conv => lhs; simp [go_sem])
  have y51 : A.eval (.tmp 51) = _ := Eq.trans (hf 51) (by conv => lhs; simp [go_sem])
  have y52 : A.eval (.tmp 52) = _ := Eq.trans (hf 52) (by conv => lhs; simp [go_sem])
  have y53 : A.eval (.tmp 53) = _ := Eq.trans (hf 53) (by conv => lhs; simp [go_sem])
  have y54 : A.eval (.tmp 54) = _ := Eq.trans (hf 54) (by conv => lhs; simp [go_sem])
  have y55 : A.eval (.tmp 55) = _ := Eq.trans (hf 55) (by conv => lhs; simp [go_sem])
  have y56 : A.eval (.tmp 56) = _ := Eq.trans (hf 56) (by conv => lhs; simp [go_sem])
  have y57 : A.eval (.tmp 57) = _ := Eq.trans (hf 57) (by conv => lhs; simp [go_sem])
  have y58 : A.eval (.tmp 58) = _ := Eq.trans (hf 58) (by conv => lhs; simp [go_sem])
  have y59 : A.eval (.tmp 59) = _ := Eq.trans (hf 59) (by conv => lhs; simp [go_sem])
  have y60 : A.eval (.tmp 60) = _ := Eq.trans (hf 60) (by conv => lhs; simp [go_sem])
  have y61 : A.eval (.tmp 61) = _ := Eq.trans (hf 61) (by conv => lhs; simp [go_sem])
  clear hf
  have hA := frame_eq hn
  rw [show List.range 62 = [0, 1, 2, 3, 4, 5, 6, 7, 8, 9, 10, 11, 12, 13, 14, 15, 16, 17, 18, 19, 20, 21, 22, 23, 24, 25, 26, 27, 28, 29, 30, 31, 32, 33, 34, 35, 36, 37, 38, 39, 40, 41, 42, 43, 44, 45, 46, 47, 48, 49, 50, 51, 52, 53, 54, 55, 56, 57, 58, 59, 60, 61] from rfl, hd] at hA
  simp only [List.map_cons, List.map_nil, y0, y1, y2, y3, y4, y5, y6, y7, y8, y9, y10, y11, y12, y13, y14, y15, y16, y17, y18, y19, y20, y21, y22, y23, y24, y25, y26, y27, y28, y29, y30, y31, y32, y33, y34, y35, y36, y37, y38, y39, y40, y41, y42, y43, y44, y45, y46, y47, y48, y49, y50, y51, y52, y53, y54, y55, y56, y57, y58, y59, y60, y61] at hA
  clear y0 y1 y2 y3 y4 y5 y6 y7 y8 y9 y10 y11 y12 y13 y14 y15 y16 y17 y18 y19 y20 y21 y22 y23 y24 y25 y26 y27 y28 y29 y30 y31 y32 y33 y34 y35 y36 y37 y38 y39 y40 y41 y42 y43 y44 y45 y46 y47 y48 y49 y50 y51 y52 y53 y54 y55 y56 y57 y58 y59 y60 y61
  clear hn hd
  subst hA
  clear kc
  replace KX := Lib.hid KX.1
  replace KA := Lib.hid (KA.out.below hC); replace KB := Lib.hid (KB.out.below hC); replace HB := Lib.hid (HB.out.trans (hC.mono HB.out.size)); clear hC; clear a0 a1 a2 a3 a4 a5 b0 b1 b2 b3 b4 b5; obtain ⟨a0, a1, a2, a3, a4, a5⟩ := KA.out; obtain ⟨b0, b1, b2, b3, b4, b5⟩ := KB.out
  go_wp2_with fail
  have kc : ∀ w', Below V5.heap.size V5 w' → Cells6 w' w.heap.size false t0 o0 r0 d0 i0 ∧ Cells6 w' (w.heap.size + 1) false t1 o1 r1 d1 i1 := fun w' h => ⟨KA.out.below h, KB.out.below h⟩
  unfold Cells6 at kc
  refine wp_region_typed (C := fun w' => Below V5.heap.size V5 w') (X := fun w w' => Below w.heap.size w w') (n := 62) (by kernel_rfl) (by kernel_rfl) rfl (fun w => Below.refl _ w) (Below.refl _ _).drew ?_
  refine w_is (fun w => Below.refl _ w) _ (.inl rfl) (fun ρ w hC hc hfn hf => by have e2 : ρ (.tmp 2) = _ := hf 2 (by decide); (conv => lhs; simp [execOp, go_sem, hc, e2, kc w hC])) ?_
  refine w_call (Is _) (fun _ _ _ h _ => h) 16 (.inl rfl) (fun ρ w hC hc hfn hf => by have e35 : ρ (.tmp 35) = _ := hf 35 (by decide); exact ⟨_, by (conv => lhs; simp [execOp, resolve, invoke, go_sem, hc, hfn, e35]), (tc_below hC (clA w))⟩) ?_
  refine w_is (fun w => Below.refl _ w) _ (.inl rfl) (fun ρ w hC hc hfn hf => by have e3 : ρ (.tmp 3) = _ := hf 3 (by decide); (conv => lhs; simp [execOp, go_sem, hc, e3, kc w hC])) ?_
  refine w_call (Is _) (fun _ _ _ h _ => h) 16 (.inl rfl) (fun ρ w hC hc hfn hf => by have e37 : ρ (.tmp 37) = _ := hf 37 (by decide); exact ⟨_, by (conv => lhs; simp [execOp, resolve, invoke, go_sem, hc, hfn, e37]), (tc_below hC (clB w))⟩) ?_
  refine w_call (Is _) (fun _ _ _ h _ => h) 18 (.inl rfl) (fun ρ w hC hc hfn hf => by have e36 : ρ (.tmp 36) = _ := hf 36 (by decide); have e38 : ρ (.tmp 38) = _ := hf 38 (by decide); exact ⟨_, by (conv => lhs; simp [execOp, resolve, invoke, go_sem, hc, hfn, e36, e38]), (tc_below hC (order_any _ _ _ _ _ _ w))⟩) ?_
  refine w_is (fun w => Below.refl _ w) _ (.inl rfl) (fun ρ w hC hc hfn hf => by have e39 : ρ (.tmp 39) = _ := hf 39 (by decide); (conv => lhs; simp [execOp, go_sem, hc, e39])) ?_
  intro A V6 hC hn hd hf
  have y0 : A.eval (.tmp 0) = _ := Eq.trans (hf 0) (by conv => lhs; simp [go_sem])
  have y1 : A.eval (.tmp 1) = _ := Eq.trans (hf 1) (by conv => lhs; simp [go_sem])
  have y2 : A.eval (.tmp 2) = _ := Eq.trans (hf 2) (by conv => lhs; simp [go_sem])
  have y3 : A.eval (.tmp 3) = _ := Eq.trans (hf 3) (by conv => lhs; simp [go_sem])
  have y4 : A.eval (.tmp 4) = _ := Eq.trans (hf 4) (by conv => lhs; simp [go_sem])
  have y5 : A.eval (.tmp 5) = _ := Eq.trans (hf 5) (by conv => lhs; simp [go_sem])
  have y6 : A.eval (.tmp 6) = _ := Eq.trans (hf 6) (by conv => lhs; simp [go_sem])
  have y7 : A.eval (.tmp 7) = _ := hf 7
  have y8 : A.eval (.tmp 8) = _ := Eq.trans (hf 8) (by conv => lhs; simp [go_sem])
  have y9 : A.eval (.tmp 9) = _ := Eq.trans (hf 9) (by conv => lhs; simp [go_sem])
  have y10 : A.eval (.tmp 10) = _ := Eq.trans (hf 10) (by conv => lhs; simp [go_sem])
  have y11 : A.eval (.tmp 11) = _ := Eq.trans (hf 11) (by conv => lhs; simp [go_sem])
  have y12 : A.eval (.tmp 12) = _ := Eq.trans (hf 12) (by conv => lhs; simp [go_sem])
  have y13 : A.eval (.tmp 13) = _ := Eq.trans (hf 13) (by conv => lhs; simp [go_sem])
  have y14 : A.eval (.tmp 14) = _ := Eq.trans (hf 14) (by conv => lhs; simp [go_sem])
  have y15 : A.eval (.tmp 15) = _ := Eq.trans (hf 15) (by conv => lhs; simp [go_sem])
  have y16 : A.eval (.tmp 16) = _ := Eq.trans (hf 16) (by conv => lhs; simp [go_sem])
  have y17 : A.eval (.tmp 17) = _ := Eq.trans (hf 17) (by conv => lhs; simp [go_sem])
  have y18 : A.eval (.tmp 18) = _ := Eq.trans (hf 18) (by conv => lhs; simp [go_sem])
  have y19 : A.eval (.tmp 19) = _ := Eq.trans (hf 19) (by conv => lhs; simp [go_sem])
  have y20 : A.eval (.tmp 20) = _ := Eq.trans (hf 20) (by conv => lhs; simp [go_sem])
  have y21 : A.eval (.tmp 21) = _ := Eq.trans (hf 21) (by conv => lhs; simp [go_sem])
  have y22 : A.eval (.tmp 22) = _ := Eq.trans (hf 22) (by conv => lhs; simp [go_sem])
  have y23 : A.eval (.tmp 23) = _ := Eq.trans (hf 23) (by conv => lhs; simp [go_sem])
  have y24 : A.eval (.tmp 24) = _ := Eq.trans (hf 24) (by conv => lhs; simp [go_sem])
  have y25 : A.eval (.tmp 25) = _ := Eq.trans (hf 25) (by conv => lhs; simp [go_sem])
  have y26 : A.eval (.tmp 26) = _ := Eq.trans (hf 26) (by conv => lhs; simp [go_sem])
  have y27 : A.eval (.tmp 27) = _ := Eq.trans (hf 27) (by conv => lhs; simp [go_sem])
  have y28 : A.eval (.tmp 28) = _ := Eq.trans (hf 28) (by conv => lhs; simp [go_sem])
  have y29 : A.eval (.tmp 29) = _ := Eq.trans (hf 29) (by conv => lhs; simp [go_sem])
  have y30 : A.eval (.tmp 30) = _ := Eq.trans (hf 30) (by conv => lhs; simp [go_sem])
  have y31 : A.eval (.tmp 31) = _ := Eq.trans (hf 31) (by conv => lhs; simp [go_sem])
  have y32 : A.eval (.tmp 32) = _ := Eq.trans (hf 32) (by conv => lhs; simp [go_sem])
  have y33 : A.eval (.tmp 33) = _ := Eq.trans (hf 33) (by conv => lhs; simp [go_sem])
  have y34 : A.eval (.tmp 34) = _ := Eq.trans (hf 34) (by conv => lhs; simp [go_sem])
  have y35 : A.eval (.tmp 35) = _ := hf 35
  have y36 : A.eval (.tmp 36) = _ := hf 36
  have y37 : A.eval (.tmp 37) = _ := hf 37
  have y38 : A.eval (.tmp 38) = _ := hf 38
  have y39 : A.eval (.tmp 39) = _ := hf 39
  have y40 : A.eval (.tmp 40) = _ := Eq.trans (hf 40) (by conv => lhs; simp [go_sem])
  have y41 : A.eval (.tmp 41) = _ := Eq.trans (hf 41) (by conv => lhs; simp [go_sem])
  have y42 : A.eval (.tmp 42) = _ := Eq.trans (hf 42) (by conv => lhs; simp [go_sem])
  have y43 : A.eval (.tmp 43) = _ := Eq.trans (hf 43) (by conv => lhs; simp [go_sem])
  have y44 : A.eval (.tmp 44) = _ := Eq.trans (hf 44) (by conv => lhs; simp [go_sem])
  have y45 : A.eval (.tmp 45) = _ := Eq.trans (hf 45) (by conv => lhs; simp [go_sem])
  have y46 : A.eval (.tmp 46) = _ := Eq.trans (hf 46) (by conv => lhs; simp [go_sem])
  have y47 : A.eval (.tmp 47) = _ := Eq.trans (hf 47) (by conv => lhs; simp [go_sem])
  have y48 : A.eval (.tmp 48) = _ := Eq.trans (hf 48) (by conv => lhs; simp [go_sem])
  have y49 : A.eval (.tmp 49) = _ := Eq.trans (hf 49) (by conv => lhs; simp [go_sem])
  have y50 : A.eval (.tmp 50) = _ := Eq.trans (hf 50) (by conv => lhs; simp [go_sem])
  have y51 : A.eval (.tmp 51) = _ := Eq.trans (hf 51) (by conv => lhs; simp [go_sem])
  have y52 : A.eval (.tmp 52) = _ := Eq.trans (hf 52) (by conv => lhs; simp [go_sem])
  have y53 : A.eval (.tmp 53) = _ := Eq.trans (hf 53) (by conv => lhs; simp [go_sem])
  have y54 : A.eval (.tmp 54) = _ := Eq.trans (hf 54) (by conv => lhs; simp [go_sem])
  have y55 : A.eval (.tmp 55) = _ := Eq.trans (hf 55) (by conv => lhs; simp [go_sem])
  have y56 : A.eval (.tmp 56) = _ := Eq.trans (hf 56) (by conv => lhs; simp [go_sem])
  have y57 : A.eval (.tmp 57) = _ := Eq.trans (hf 57) (by conv => lhs; simp [go_sem])
  have y58 : A.eval (.tmp 58) = _ := Eq.trans (hf 58) (by conv => lhs; simp [go_sem])
  have y59 : A.eval (.tmp 59) = _ := Eq.trans (hf 59) (by conv => lhs; simp [go_sem])
  have y60 : A.eval (.tmp 60) = _ := Eq.trans (hf 60) (by conv => lhs; simp [go_sem])
  have y61 : A.eval (.tmp 61) = _ := Eq.trans (hf 61) (by conv => lhs; simp [go_sem])
  clear hf
  have hA := frame_eq hn
  rw [show List.range 62 = [0, 1, 2, 3, 4, 5, 6, 7, 8, 9, 10, 11, 12, 13, 14, 15, 16, 17, 18, 19, 20, 21, 22, 23, 24, 25, 26, 27, 28, 29, 30, 31, 32, 33, 34, 35, 36, 37, 38, 39, 40, 41, 42, 43, 44, 45, 46, 47, 48, 49, 50, 51, 52, 53, 54, 55, 56, 57, 58, 59, 60, 61] from rfl, hd] at hA
  simp only [List.map_cons, List.map_nil, y0, y1, y2, y3, y4, y5, y6, y7, y8, y9, y10, y11, y12, y13, y14, y15, y16, y17, y18, y19, y20, y21, y22, y23, y24, y25, y26, y27, y28, y29, y30, y31, y32, y33, y34, y35, y36, y37, y38, y39, y40, y41, y42, y43, y44, y45, y46, y47, y48, y49, y50, y51, y52, y53, y54, y55, y56, y57, y58, y59, y60, y61] at hA
  clear y0 y1 y2 y3 y4 y5 y6 y7 y8 y9 y10 y11 y12 y13 y14 y15 y16 y17 y18 y19 y20 y21 y22 y23 y24 y25 y26 y27 y28 y29 y30 y31 y32 y33 y34 y35 y36 y37 y38 y39 y40 y41 y42 y43 y44 y45 y46 y47 y48 y49 y50 y51 y52 y53 y54 y55 y56 y57 y58 y59 y60 y61
  clear hn hd
  subst hA
  clear kc
  replace KX := Lib.hid (KX.out.below hC)
  replace KA := Lib.hid (KA.out.below hC); replace KB := Lib.hid (KB.out.below hC); replace HB := Lib.hid (HB.out.trans (hC.mono HB.out.size)); clear hC; clear a0 a1 a2 a3 a4 a5 b0 b1 b2 b3 b4 b5; obtain ⟨a0, a1, a2, a3, a4, a5⟩ := KA.out; obtain ⟨b0, b1, b2, b3, b4, b5⟩ := KB.out
  clear clA clB cAt
  have E1 := guard23
  have E2 := eql23
  have E3 : ∀ n t o r d i, eqH n t o r d i n t o r d i = true := fun n t o r d i => eqH_iff.2 ⟨rfl, rfl, rfl, rfl, rfl, rfl⟩
  rw [hN]
  go_wp2_with (first
    | (go_at_call 20; refine (awake_any _).mono ?_; rintro e V7 ⟨rfl, hb⟩; replace KX := Lib.hid (KX.out.below hb); replace KA := Lib.hid (KA.out.below hb); replace KB := Lib.hid (KB.out.below hb); replace HB := Lib.hid (HB.out.trans (hb.mono HB.out.size)); clear hb; clear a0 a1 a2 a3 a4 a5 b0 b1 b2 b3 b4 b5; obtain ⟨a0, a1, a2, a3, a4, a5⟩ := KA.out; obtain ⟨b0, b1, b2, b3, b4, b5⟩ := KB.out; obtain ⟨x0, x1, x2, x3, x4, x5⟩ := KX.out)
    | (go_at_call 14; refine (less_any _ _ _ _ _ _ _ _ _ _ _ _ _).mono ?_; rintro e V8 ⟨rfl, hb⟩; rw [hAB]; replace KA := Lib.hid (KA.out.below hb); replace KB := Lib.hid (KB.out.below hb); replace HB := Lib.hid (HB.out.trans (hb.mono HB.out.size)); clear hb; clear a0 a1 a2 a3 a4 a5 b0 b1 b2 b3 b4 b5; obtain ⟨a0, a1, a2, a3, a4, a5⟩ := KA.out; obtain ⟨b0, b1, b2, b3, b4, b5⟩ := KB.out))
  go_ret
  exact ⟨rfl, HB.out⟩

set_option maxHeartbeats 16000000 in
theorem case_g (t0 o0 r0 d0 i0 : Int) (w0 : I64 t0 ∧ I64 o0 ∧ I64 r0 ∧ I64 d0 ∧ I64 i0) (t1 o1 r1 d1 i1 : Int) (w1 : I64 t1 ∧ I64 o1 ∧ I64 r1 ∧ I64 d1 ∧ I64 i1) (w : World) (hTA : told false t0 o0 r0 d0 i0 = true) (hTB : told false t1 o1 r1 d1 i1 = true) (hcA : chk false t0 o0 r0 d0 i0 = 0) (hcB : chk false t1 o1 r1 d1 i1 = 0) (hOK : HtOk false t0 o0 r0 d0 i0) (hN : ordL t0 o0 r0 t1 o1 r1 = 1) (hAB : lessB false t0 o0 r0 d0 i0 false t1 o1 r1 d1 i1 = false) :
    Calls Try.prog 7 #[.agg #[.bool false, .int .i64 t0, .int .i64 o0, .int .i64 r0, .int .i64 d0, .int .i64 i0], .agg #[.bool false, .int .i64 t1, .int .i64 o1, .int .i64 r1, .int .i64 d1, .int .i64 i1]] w fun e w' => e = .returned (.bool true) ∧ Below w.heap.size w w' := by
  have clA : ∀ w, Calls Try.prog 16 #[.agg #[.bool false, .int .i64 t0, .int .i64 o0, .int .i64 r0, .int .i64 d0, .int .i64 i0]] w fun e w' => e = .returned (.agg #[.int .i64 t0, .int .i64 o0, .int .i64 r0]) ∧ Below w.heap.size w w' := fun w => by have h := level_any false t0 o0 r0 d0 i0 w; rwa [levV, if_pos hTA] at h
  have clB : ∀ w, Calls Try.prog 16 #[.agg #[.bool false, .int .i64 t1, .int .i64 o1, .int .i64 r1, .int .i64 d1, .int .i64 i1]] w fun e w' => e = .returned (.agg #[.int .i64 t1, .int .i64 o1, .int .i64 r1]) ∧ Below w.heap.size w w' := fun w => by have h := level_any false t1 o1 r1 d1 i1 w; rwa [levV, if_pos hTB] at h
  have cAt : ∀ w, Calls Try.prog 8 #[.agg #[.int .i64 t0, .int .i64 o0, .int .i64 r0], .int .i64 d0, .int .i64 i0] w fun e w' => e = .returned (.tuple #[.agg #[.bool false, .int .i64 t0, .int .i64 o0, .int .i64 r0, .int .i64 d0, .int .i64 i0], .int .i64 0]) ∧ Below w.heap.size w w' := fun w => by have h := at_any t0 o0 r0 d0 i0 w; rwa [atV, if_pos hOK] at h
  clear hTA hTB hOK
  go_enter Try.func7, Try.ntmps7
  go_wp2_with fail
  have KA := Lib.hid ((cells6_alloc w false t0 o0 r0 d0 i0 23).below ((Below.refl _ _).alloc (Nat.le_refl _) (.cells #[.bool false, .int .i64 t1, .int .i64 o1, .int .i64 r1, .int .i64 d1, .int .i64 i1] 23)))
  have KB := Lib.hid ((own6_alloc (w.alloc (.cells #[.bool false, .int .i64 t0, .int .i64 o0, .int .i64 r0, .int .i64 d0, .int .i64 i0] 23)) false t1 o1 r1 d1 i1 23 (w.heap.size + 1) (by simp)).1)
  have HB : Hid (Below w.heap.size w ((w.alloc (.cells #[.bool false, .int .i64 t0, .int .i64 o0, .int .i64 r0, .int .i64 d0, .int .i64 i0] 23)).alloc (.cells #[.bool false, .int .i64 t1, .int .i64 o1, .int .i64 r1, .int .i64 d1, .int .i64 i1] 23))) := ((Below.refl _ w).alloc (Nat.le_refl _) _).alloc (by simp) _
  generalize ((w.alloc (.cells #[.bool false, .int .i64 t0, .int .i64 o0, .int .i64 r0, .int .i64 d0, .int .i64 i0] 23)).alloc (.cells #[.bool false, .int .i64 t1, .int .i64 o1, .int .i64 r1, .int .i64 d1, .int .i64 i1] 23)) = V1 at *
  obtain ⟨a0, a1, a2, a3, a4, a5⟩ := KA.out; obtain ⟨b0, b1, b2, b3, b4, b5⟩ := KB.out
  go_wp2_with (first
    | (go_at_call 12; refine (check_any _ _ _ _ _ _ _).mono ?_; rintro e V1 ⟨rfl, hb⟩; (first | rw [hcA] | rw [hcB]); replace KA := Lib.hid (KA.out.below hb); replace KB := Lib.hid (KB.out.below hb); replace HB := Lib.hid (HB.out.trans (hb.mono HB.out.size)); clear hb; clear a0 a1 a2 a3 a4 a5 b0 b1 b2 b3 b4 b5; obtain ⟨a0, a1, a2, a3, a4, a5⟩ := KA.out; obtain ⟨b0, b1, b2, b3, b4, b5⟩ := KB.out)
    | (go_at_call 20; refine (awake_any _).mono ?_; rintro e V1 ⟨rfl, hb⟩; replace KA := Lib.hid (KA.out.below hb); replace KB := Lib.hid (KB.out.below hb); replace HB := Lib.hid (HB.out.trans (hb.mono HB.out.size)); clear hb; clear a0 a1 a2 a3 a4 a5 b0 b1 b2 b3 b4 b5; obtain ⟨a0, a1, a2, a3, a4, a5⟩ := KA.out; obtain ⟨b0, b1, b2, b3, b4, b5⟩ := KB.out))
  have kc : ∀ w', Below V1.heap.size V1 w' → Cells6 w' w.heap.size false t0 o0 r0 d0 i0 := fun w' h => KA.out.below h
  unfold Cells6 at kc
  refine T3.wp_region_typed (C := fun w' => Below V1.heap.size V1 w') (X := XV 11) (n := 62) (by kernel_rfl) (by kernel_rfl) (by kernel_rfl) rfl (XV_refl 11) (Below.refl _ _).drew ?_
  refine T3.w_is (XV_refl 11) rfl _ (.inl rfl) (fun ρ w hC hc hfn hf => by have e2 : ρ (.tmp 2) = _ := hf 2 (by decide); (conv => lhs; simp [execOp, go_sem, hc, e2, kc w hC])) ?_
  refine T3.w_call rfl (Is _) (fun _ _ _ _ _ h _ => h) 16 (.inl rfl) (fun ρ w hC hc hfn hf => by have e26 : ρ (.tmp 26) = _ := hf 26 (by decide); exact ⟨_, by (conv => lhs; simp [execOp, resolve, invoke, go_sem, hc, hfn, e26]), tcx_below hC (by decide) (clA w)⟩) ?_
  refine T3.w_is (XV_refl 11) rfl _ (.inl rfl) (fun ρ w hC hc hfn hf => by have e2 : ρ (.tmp 2) = _ := hf 2 (by decide); (conv => lhs; simp [execOp, go_sem, hc, e2])) ?_
  refine T3.w_is (XV_refl 11) rfl _ (.inl rfl) (fun ρ w hC hc hfn hf => by have e28 : ρ (.tmp 28) = _ := hf 28 (by decide); (conv => lhs; simp [execOp, go_sem, hc, e28, kc w hC])) ?_
  refine T3.w_is (XV_refl 11) rfl _ (.inl rfl) (fun ρ w hC hc hfn hf => by have e2 : ρ (.tmp 2) = _ := hf 2 (by decide); (conv => lhs; simp [execOp, go_sem, hc, e2])) ?_
  refine T3.w_is (XV_refl 11) rfl _ (.inl rfl) (fun ρ w hC hc hfn hf => by have e30 : ρ (.tmp 30) = _ := hf 30 (by decide); (conv => lhs; simp [execOp, go_sem, hc, e30, kc w hC])) ?_
  refine T3.w_call rfl (Is _) (fun _ _ _ _ _ h _ => h) 8 (.inl rfl) (fun ρ w hC hc hfn hf => by have e27 : ρ (.tmp 27) = _ := hf 27 (by decide); have e29 : ρ (.tmp 29) = _ := hf 29 (by decide); have e31 : ρ (.tmp 31) = _ := hf 31 (by decide); exact ⟨_, by (conv => lhs; simp [execOp, resolve, invoke, go_sem, hc, hfn, e27, e29, e31]), tcx_below hC (by decide) (cAt w)⟩) ?_
  refine T3.w_is (XV_refl 11) rfl _ (.inl rfl) (fun ρ w hC hc hfn hf => by have e32 : ρ (.tmp 32) = _ := hf 32 (by decide); (conv => lhs; simp [execOp, go_sem, hc, e32])) ?_
  refine T3.w_is (XV_refl 11) rfl _ (.inl rfl) (fun ρ w hC hc hfn hf => by have e25 : ρ (.tmp 25) = _ := hf 25 (by decide); (conv => lhs; simp [execOp, go_sem, hc, e25])) ?_
  refine T3.w_is (XV_refl 11) rfl _ (.inl rfl) (fun ρ w hC hc hfn hf => by have e25 : ρ (.tmp 25) = _ := hf 25 (by decide); (conv => lhs; simp [execOp, go_sem, hc, e25])) ?_
  refine T3.w_make rfl (NewV V1) (NewV.keeps V1 11 _) (.inl rfl) (fun ρ w hC hc hfn hf => by exact ⟨_, _, by (conv => lhs; simp [execOp, go_sem]), hC.alloc hC.size _, XV_of (by decide) ((Below.refl _ w).alloc (Nat.le_refl _) _), ⟨_, rfl, hC.size, _, _, _, _, _, _, own6_alloc w false 0 0 0 0 0 23 _ rfl⟩⟩) ?_
  refine T3.w_store rfl rfl (HasV V1 false t0 o0 r0 d0 i0) (HasV.keeps V1 11 false t0 o0 r0 d0 i0) (.inl rfl) (fun ρ w hC hc hf => by have e33 : ρ (.tmp 33) = _ := hf 33 (by decide); obtain ⟨bq, q5, hbq, n', t', o', r', d', i', ho⟩ := (show NewV V1 (ρ (.tmp 5)) w from hf 5 (by decide)); have ⟨⟨m0, m1, m2, m3, m4, m5⟩, mf⟩ := ho; exact ⟨_, by (conv => lhs; simp [execOp, go_sem, q5, e33, m0, m1, m2, m3, m4, m5, mf]), bel_set6 hC hbq false t0 o0 r0 d0 i0, XV_at rfl (fun b hb => ok_set6 ⟨_, _, _, _, _, _, ho⟩ hb false t0 o0 r0 d0 i0), ⟨bq, q5, hbq, ho.set false t0 o0 r0 d0 i0⟩⟩) ?_
  refine T3.w_is (XV_refl 11) rfl _ (.inl rfl) (fun ρ w hC hc hfn hf => by have e34 : ρ (.tmp 34) = _ := hf 34 (by decide); (conv => lhs; simp [execOp, go_sem, hc, e34])) ?_
  intro A V5 hC hn hd hf hF
  obtain ⟨g, y5, hg, KX⟩ := (show HasV V1 false t0 o0 r0 d0 i0 (A.eval (.tmp 5)) V5 from hF (5, _) List.mem_cons_self)
  clear hF
  have y0 : A.eval (.tmp 0) = _ := Eq.trans (hf 0) (by conv => lhs; simp [go_sem])
  have y1 : A.eval (.tmp 1) = _ := Eq.trans (hf 1) (by conv => lhs; simp [go_sem])
  have y2 : A.eval (.tmp 2) = _ := Eq.trans (hf 2) (by conv => lhs; simp [go_sem])
  have y3 : A.eval (.tmp 3) = _ := Eq.trans (hf 3) (by conv => lhs; simp [go_sem])
  have y4 : A.eval (.tmp 4) = _ := Eq.trans (hf 4) (by conv => lhs; simp [go_sem])
  have y6 : A.eval (.tmp 6) = _ := hf 6
  have y7 : A.eval (.tmp 7) = _ := Eq.trans (hf 7) (by conv => lhs; simp [go_sem])
  have y8 : A.eval (.tmp 8) = _ := Eq.trans (hf 8) (by conv => lhs; simp [go_sem])
  have y9 : A.eval (.tmp 9) = _ := Eq.trans (hf 9) (by conv => lhs; simp [go_sem])
  have y10 : A.eval (.tmp 10) = _ := Eq.trans (hf 10) (by conv => lhs; simp [go_sem])
  have y11 : A.eval (.tmp 11) = _ := Eq.trans (hf 11) (by conv => lhs; simp [go_sem])
  have y12 : A.eval (.tmp 12) = _ := Eq.trans (hf 12) (by conv => lhs; simp [go_sem])
  have y13 : A.eval (.tmp 13) = _ := Eq.trans (hf 13) (by conv => lhs; simp [go_sem])
  have y14 : A.eval (.tmp 14) = _ := Eq.trans (hf 14) (by conv => lhs; simp [go_sem])
  have y15 : A.eval (.tmp 15) = _ := Eq.trans (hf 15) (by conv => lhs; simp [go_sem])
  have y16 : A.eval (.tmp 16) = _ := Eq.trans (hf 16) (by conv => lhs; simp [go_sem])
  have y17 : A.eval (.tmp 17) = _ := Eq.trans (hf 17) (by conv => lhs; simp [go_sem])
  have y18 : A.eval (.tmp 18) = _ := Eq.trans (hf 18) (by conv => lhs; simp [go_sem])
  have y19 : A.eval (.tmp 19) = _ := Eq.trans (hf 19) (by conv => lhs; simp [go_sem])
  have y20 : A.eval (.tmp 20) = _ := Eq.trans (hf 20) (by conv => lhs; simp [go_sem])
  have y21 : A.eval (.tmp 21) = _ := Eq.trans (hf 21) (by conv => lhs; simp [go_sem])
  have y22 : A.eval (.tmp 22) = _ := Eq.trans (hf 22) (by conv => lhs; simp [go_sem])
  have y23 : A.eval (.tmp 23) = _ := Eq.trans (hf 23) (by conv => lhs; simp [go_sem])
  have y24 : A.eval (.tmp 24) = _ := Eq.trans (hf 24) (by conv => lhs; simp [go_sem])
  have y25 : A.eval (.tmp 25) = _ := hf 25
  have y26 : A.eval (.tmp 26) = _ := hf 26
  have y27 : A.eval (.tmp 27) = _ := hf 27
  have y28 : A.eval (.tmp 28) = _ := hf 28
  have y29 : A.eval (.tmp 29) = _ := hf 29
  have y30 : A.eval (.tmp 30) = _ := hf 30
  have y31 : A.eval (.tmp 31) = _ := hf 31
  have y32 : A.eval (.tmp 32) = _ := hf 32
  have y33 : A.eval (.tmp 33) = _ := hf 33
  have y34 : A.eval (.tmp 34) = _ := hf 34
  have y35 : A.eval (.tmp 35) = _ := Eq.trans (hf 35) (by conv => lhs; simp [go_sem])
  have y36 : A.eval (.tmp 36) = _ := Eq.trans (hf 36) (by conv => lhs; simp [go_sem])
  have y37 : A.eval (.tmp 37) = _ := Eq.trans (hf 37) (by conv => lhs; simp [go_sem])
  have y38 : A.eval (.tmp 38) = _ := Eq.trans (hf 38) (by conv => lhs; simp [go_sem])
  have y39 : A.eval (.tmp 39) = _ := Eq.trans (hf 39) (by conv => lhs; simp [go_sem])
  have y40 : A.eval (.tmp 40) = _ := Eq.trans (hf 40) (by conv => lhs; simp [go_sem])
  have y41 : A.eval (.tmp 41) = _ := Eq.trans (hf 41) (by conv => lhs; simp [go_sem])
  have y42 : A.eval (.tmp 42) = _ := Eq.trans (hf 42) (by conv => lhs; simp [go_sem])
  have y43 : A.eval (.tmp 43) = _ := Eq.trans (hf 43) (by conv => lhs; simp [go_sem])
  have y44 : A.eval (.tmp 44) = _ := Eq.trans (hf 44) (by conv => lhs; simp [go_sem])
  have y45 : A.eval (.tmp 45) = _ := Eq.trans (hf 45) (by conv => lhs; simp [go_sem])
  have y46 : A.eval (.tmp 46) = _ := Eq.trans (hf 46) (by conv => lhs; simp [go_sem])
  have y47 : A.eval (.tmp 47) = _ := Eq.trans (hf 47) (by conv => lhs; simp [go_sem])
  have y48 : A.eval (.tmp 48) = _ := Eq.trans (hf 48) (by conv => lhs; simp [go_sem])
  have y49 : A.eval (.tmp 49) = _ := Eq.trans (hf 49) (by conv => lhs; simp [go_sem])
  have y50 : A.eval (.tmp 50) = _ := Eq.trans (hf 50) (by conv => lhs; simp [go_sem])
  have y51 : A.eval (.tmp 51) = _ := Eq.trans (hf 51) (by conv => lhs; simp [go_sem])
  have y52 : A.eval (.tmp 52) = _ := Eq.trans (hf 52) (by conv => lhs; simp [go_sem])
  have y53 : A.eval (.tmp 53) = _ := Eq.trans (hf 53) (by conv => lhs; simp [go_sem])
  have y54 : A.eval (.tmp 54) = _ := Eq.trans (hf 54) (by conv => lhs; simp [go_sem])
  have y55 : A.eval (.tmp 55) = _ := Eq.trans (hf 55) (by conv => lhs; simp [go_sem])
  have y56 : A.eval (.tmp 56) = _ := Eq.trans (hf 56) (by conv => lhs; simp [go_sem])
  have y57 : A.eval (.tmp 57) = _ := Eq.trans (hf 57) (by conv => lhs; simp [go_sem])
  have y58 : A.eval (.tmp 58) = _ := Eq.trans (hf 58) (by conv => lhs; simp [go_sem])
  have y59 : A.eval (.tmp 59) = _ := Eq.trans (hf 59) (by conv => lhs; simp [go_sem])
  have y60 : A.eval (.tmp 60) = _ := Eq.trans (hf 60) (by conv => lhs; simp [go_sem])
  have y61 : A.eval (.tmp 61) = _ := Eq.trans (hf 61) (by conv => lhs; simp [go_sem])
  clear hf
  have hA := frame_eq hn
  rw [show List.range 62 = [0, 1, 2, 3, 4, 5, 6, 7, 8, 9, 10, 11, 12, 13, 14, 15, 16, 17, 18, 19, 20, 21, 22, 23, 24, 25, 26, 27, 28, 29, 30, 31, 32, 33, 34, 35, 36, 37, 38, 39, 40, 41, 42, 43, 44, 45, 46, 47, 48, 49, 50, 51, 52, 53, 54, 55, 56, 57, 58, 59, 60, 61] from rfl, hd] at hA
  simp only [List.map_cons, List.map_nil, y0, y1, y2, y3, y4, y5, y6, y7, y8, y9, y10, y11, y12, y13, y14, y15, y16, y17, y18, y19, y20, y21, y22, y23, y24, y25, y26, y27, y28, y29, y30, y31, y32, y33, y34, y35, y36, y37, y38, y39, y40, y41, y42, y43, y44, y45, y46, y47, y48, y49, y50, y51, y52, y53, y54, y55, y56, y57, y58, y59, y60, y61] at hA
  clear y0 y1 y2 y3 y4 y5 y6 y7 y8 y9 y10 y11 y12 y13 y14 y15 y16 y17 y18 y19 y20 y21 y22 y23 y24 y25 y26 y27 y28 y29 y30 y31 y32 y33 y34 y35 y36 y37 y38 y39 y40 y41 y42 y43 y44 y45 y46 y47 y48 y49 y50 y51 y52 y53 y54 y55 y56 y57 y58 y59 y60 y61
  clear hn hd
  subst hA
  clear kc
  replace KX := Lib.hid KX.1
  replace KA := Lib.hid (KA.out.below hC); replace KB := Lib.hid (KB.out.below hC); replace HB := Lib.hid (HB.out.trans (hC.mono HB.out.size)); clear hC; clear a0 a1 a2 a3 a4 a5 b0 b1 b2 b3 b4 b5; obtain ⟨a0, a1, a2, a3, a4, a5⟩ := KA.out; obtain ⟨b0, b1, b2, b3, b4, b5⟩ := KB.out
  go_wp2_with fail
  have kc : ∀ w', Below V5.heap.size V5 w' → Cells6 w' w.heap.size false t0 o0 r0 d0 i0 ∧ Cells6 w' (w.heap.size + 1) false t1 o1 r1 d1 i1 := fun w' h => ⟨KA.out.below h, KB.out.below h⟩
  unfold Cells6 at kc
  refine wp_region_typed (C := fun w' => Below V5.heap.size V5 w') (X := fun w w' => Below w.heap.size w w') (n := 62) (by kernel_rfl) (by kernel_rfl) rfl (fun w => Below.refl _ w) (Below.refl _ _).drew ?_
  refine w_is (fun w => Below.refl _ w) _ (.inl rfl) (fun ρ w hC hc hfn hf => by have e2 : ρ (.tmp 2) = _ := hf 2 (by decide); (conv => lhs; simp [execOp, go_sem, hc, e2, kc w hC])) ?_
  refine w_call (Is _) (fun _ _ _ h _ => h) 16 (.inl rfl) (fun ρ w hC hc hfn hf => by have e35 : ρ (.tmp 35) = _ := hf 35 (by decide); exact ⟨_, by (conv => lhs; simp [execOp, resolve, invoke, go_sem, hc, hfn, e35]), (tc_below hC (clA w))⟩) ?_
  refine w_is (fun w => Below.refl _ w) _ (.inl rfl) (fun ρ w hC hc hfn hf => by have e3 : ρ (.tmp 3) = _ := hf 3 (by decide); (conv => lhs; simp [execOp, go_sem, hc, e3, kc w hC])) ?_
  refine w_call (Is _) (fun _ _ _ h _ => h) 16 (.inl rfl) (fun ρ w hC hc hfn hf => by have e37 : ρ (.tmp 37) = _ := hf 37 (by decide); exact ⟨_, by (conv => lhs; simp [execOp, resolve, invoke, go_sem, hc, hfn, e37]), (tc_below hC (clB w))⟩) ?_
  refine w_call (Is _) (fun _ _ _ h _ => h) 18 (.inl rfl) (fun ρ w hC hc hfn hf => by have e36 : ρ (.tmp 36) = _ := hf 36 (by decide); have e38 : ρ (.tmp 38) = _ := hf 38 (by decide); exact ⟨_, by (conv => lhs; simp [execOp, resolve, invoke, go_sem, hc, hfn, e36, e38]), (tc_below hC (order_any _ _ _ _ _ _ w))⟩) ?_
  refine w_is (fun w => Below.refl _ w) _ (.inl rfl) (fun ρ w hC hc hfn hf => by have e39 : ρ (.tmp 39) = _ := hf 39 (by decide); (conv => lhs; simp [execOp, go_sem, hc, e39])) ?_
  intro A V6 hC hn hd hf
  have y0 : A.eval (.tmp 0) = _ := Eq.trans (hf 0) (by conv => lhs; simp [go_sem])
  have y1 : A.eval (.tmp 1) = _ := Eq.trans (hf 1) (by conv => lhs; simp [go_sem])
  have y2 : A.eval (.tmp 2) = _ := Eq.trans (hf 2) (by conv => lhs; simp [go_sem])
  have y3 : A.eval (.tmp 3) = _ := Eq.trans (hf 3) (by conv => lhs; simp [go_sem])
  have y4 : A.eval (.tmp 4) = _ := Eq.trans (hf 4) (by conv => lhs; simp [go_sem])
  have y5 : A.eval (.tmp 5) = _ := Eq.trans (hf 5) (by conv => lhs; simp [go_sem])
  have y6 : A.eval (.tmp 6) = _ := Eq.trans (hf 6) (by conv => lhs; simp [go_sem])
  have y7 : A.eval (.tmp 7) = _ := hf 7
  have y8 : A.eval (.tmp 8) = _ := Eq.trans (hf 8) (by conv => lhs; simp [go_sem])
  have y9 : A.eval (.tmp 9) = _ := Eq.trans (hf 9) (by conv => lhs; simp [go_sem])
  have y10 : A.eval (.tmp 10) = _ := Eq.trans (hf 10) (by conv => lhs; simp [go_sem])
  have y11 : A.eval (.tmp 11) = _ := Eq.trans (hf 11) (by conv => lhs; simp [go_sem])
  have y12 : A.eval (.tmp 12) = _ := Eq.trans (hf 12) (by conv => lhs; simp [go_sem])
  have y13 : A.eval (.tmp 13) = _ := Eq.trans (hf 13) (by conv => lhs; simp [go_sem])
  have y14 : A.eval (.tmp 14) = _ := Eq.trans (hf 14) (by conv => lhs; simp [go_sem])
  have y15 : A.eval (.tmp 15) = _ := Eq.trans (hf 15) (by conv => lhs; simp [go_sem])
  have y16 : A.eval (.tmp 16) = _ := Eq.trans (hf 16) (by conv => lhs; simp [go_sem])
  have y17 : A.eval (.tmp 17) = _ := Eq.trans (hf 17) (by conv => lhs; simp [go_sem])
  have y18 : A.eval (.tmp 18) = _ := Eq.trans (hf 18) (by conv => lhs; simp [go_sem])
  have y19 : A.eval (.tmp 19) = _ := Eq.trans (hf 19) (by conv => lhs; simp [go_sem])
  have y20 : A.eval (.tmp 20) = _ := Eq.trans (hf 20) (by conv => lhs; simp [go_sem])
  have y21 : A.eval (.tmp 21) = _ := Eq.trans (hf 21) (by conv => lhs; simp [go_sem])
  have y22 : A.eval (.tmp 22) = _ := Eq.trans (hf 22) (by conv => lhs; simp [go_sem])
  have y23 : A.eval (.tmp 23) = _ := Eq.trans (hf 23) (by conv => lhs; simp [go_sem])
  have y24 : A.eval (.tmp 24) = _ := Eq.trans (hf 24) (by conv => lhs; simp [go_sem])
  have y25 : A.eval (.tmp 25) = _ := Eq.trans (hf 25) (by conv => lhs; simp [go_sem])
  have y26 : A.eval (.tmp 26) = _ := Eq.trans (hf 26) (by conv => lhs; simp [go_sem])
  have y27 : A.eval (.tmp 27) = _ := Eq.trans (hf 27) (by conv => lhs; simp [go_sem])
  have y28 : A.eval (.tmp 28) = _ := Eq.trans (hf 28) (by conv => lhs; simp [go_sem])
  have y29 : A.eval (.tmp 29) = _ := Eq.trans (hf 29) (by conv => lhs; simp [go_sem])
  have y30 : A.eval (.tmp 30) = _ := Eq.trans (hf 30) (by conv => lhs; simp [go_sem])
  have y31 : A.eval (.tmp 31) = _ := Eq.trans (hf 31) (by conv => lhs; simp [go_sem])
  have y32 : A.eval (.tmp 32) = _ := Eq.trans (hf 32) (by conv => lhs; simp [go_sem])
  have y33 : A.eval (.tmp 33) = _ := Eq.trans (hf 33) (by conv => lhs; simp [go_sem])
  have y34 : A.eval (.tmp 34) = _ := Eq.trans (hf 34) (by conv => lhs; simp [go_sem])
  have y35 : A.eval (.tmp 35) = _ := hf 35
  have y36 : A.eval (.tmp 36) = _ := hf 36
  have y37 : A.eval (.tmp 37) = _ := hf 37
  have y38 : A.eval (.tmp 38) = _ := hf 38
  have y39 : A.eval (.tmp 39) = _ := hf 39
  have y40 : A.eval (.tmp 40) = _ := Eq.trans (hf 40) (by conv => lhs; simp [go_sem])
  have y41 : A.eval (.tmp 41) = _ := Eq.trans (hf 41) (by conv => lhs; simp [go_sem])
  have y42 : A.eval (.tmp 42) = _ := Eq.trans (hf 42) (by conv => lhs; simp [go_sem])
  have y43 : A.eval (.tmp 43) = _ := Eq.trans (hf 43) (by conv => lhs; simp [go_sem])
  have y44 : A.eval (.tmp 44) = _ := Eq.trans (hf 44) (by conv => lhs; simp [go_sem])
  have y45 : A.eval (.tmp 45) = _ := Eq.trans (hf 45) (by conv => lhs; simp [go_sem])
  have y46 : A.eval (.tmp 46) = _ := Eq.trans (hf 46) (by conv => lhs; simp [go_sem])
  have y47 : A.eval (.tmp 47) = _ := Eq.trans (hf 47) (by conv => lhs; simp [go_sem])
  have y48 : A.eval (.tmp 48) = _ := Eq.trans (hf 48) (by conv => lhs; simp [go_sem])
  have y49 : A.eval (.tmp 49) = _ := Eq.trans (hf 49) (by conv => lhs; simp [go_sem])
  have y50 : A.eval (.tmp 50) = _ := Eq.trans (hf 50) (by conv => lhs; simp [go_sem])
  have y51 : A.eval (.tmp 51) = _ := Eq.trans (hf 51) (by conv => lhs; simp [go_sem])
  have y52 : A.eval (.tmp 52) = _ := Eq.trans (hf 52) (by conv => lhs; simp [go_sem])
  have y53 : A.eval (.tmp 53) = _ := Eq.trans (hf 53) (by conv => lhs; simp [go_sem])
  have y54 : A.eval (.tmp 54) = _ := Eq.trans (hf 54) (by conv => lhs; simp [go_sem])
  have y55 : A.eval (.tmp 55) = _ := Eq.trans (hf 55) (by conv => lhs; simp [go_sem])
  have y56 : A.eval (.tmp 56) = _ := Eq.trans (hf 56) (by conv => lhs; simp [go_sem])
  have y57 : A.eval (.tmp 57) = _ := Eq.trans (hf 57) (by conv => lhs; simp [go_sem])
  have y58 : A.eval (.tmp 58) = _ := Eq.trans (hf 58) (by conv => lhs; simp [go_sem])
  have y59 : A.eval (.tmp 59) = _ := Eq.trans (hf 59) (by conv => lhs; simp [go_sem])
  have y60 : A.eval (.tmp 60) = _ := Eq.trans (hf 60) (by conv => lhs; simp [go_sem])
  have y61 : A.eval (.tmp 61) = _ := Eq.trans (hf 61) (by conv => lhs; simp [go_sem])
  clear hf
  have hA := frame_eq hn
  rw [show List.range 62 = [0, 1, 2, 3, 4, 5, 6, 7, 8, 9, 10, 11, 12, 13, 14, 15, 16, 17, 18, 19, 20, 21, 22, 23, 24, 25, 26, 27, 28, 29, 30, 31, 32, 33, 34, 35, 36, 37, 38, 39, 40, 41, 42, 43, 44, 45, 46, 47, 48, 49, 50, 51, 52, 53, 54, 55, 56, 57, 58, 59, 60, 61] from rfl, hd] at hA
  simp only [List.map_cons, List.map_nil, y0, y1, y2, y3, y4, y5, y6, y7, y8, y9, y10, y11, y12, y13, y14, y15, y16, y17, y18, y19, y20, y21, y22, y23, y24, y25, y26, y27, y28, y29, y30, y31, y32, y33, y34, y35, y36, y37, y38, y39, y40, y41, y42, y43, y44, y45, y46, y47, y48, y49, y50, y51, y52, y53, y54, y55, y56, y57, y58, y59, y60, y61] at hA
  clear y0 y1 y2 y3 y4 y5 y6 y7 y8 y9 y10 y11 y12 y13 y14 y15 y16 y17 y18 y19 y20 y21 y22 y23 y24 y25 y26 y27 y28 y29 y30 y31 y32 y33 y34 y35 y36 y37 y38 y39 y40 y41 y42 y43 y44 y45 y46 y47 y48 y49 y50 y51 y52 y53 y54 y55 y56 y57 y58 y59 y60 y61
  clear hn hd
  subst hA
  clear kc
  replace KX := Lib.hid (KX.out.below hC)
  replace KA := Lib.hid (KA.out.below hC); replace KB := Lib.hid (KB.out.below hC); replace HB := Lib.hid (HB.out.trans (hC.mono HB.out.size)); clear hC; clear a0 a1 a2 a3 a4 a5 b0 b1 b2 b3 b4 b5; obtain ⟨a0, a1, a2, a3, a4, a5⟩ := KA.out; obtain ⟨b0, b1, b2, b3, b4, b5⟩ := KB.out
  clear clA clB cAt
  have E1 := guard23
  have E2 := eql23
  have E3 : ∀ n t o r d i, eqH n t o r d i n t o r d i = true := fun n t o r d i => eqH_iff.2 ⟨rfl, rfl, rfl, rfl, rfl, rfl⟩
  rw [hN]
  go_wp2_with (first
    | (go_at_call 20; refine (awake_any _).mono ?_; rintro e V7 ⟨rfl, hb⟩; replace KX := Lib.hid (KX.out.below hb); replace KA := Lib.hid (KA.out.below hb); replace KB := Lib.hid (KB.out.below hb); replace HB := Lib.hid (HB.out.trans (hb.mono HB.out.size)); clear hb; clear a0 a1 a2 a3 a4 a5 b0 b1 b2 b3 b4 b5; obtain ⟨a0, a1, a2, a3, a4, a5⟩ := KA.out; obtain ⟨b0, b1, b2, b3, b4, b5⟩ := KB.out; obtain ⟨x0, x1, x2, x3, x4, x5⟩ := KX.out)
    | (go_at_call 14; refine (less_any _ _ _ _ _ _ _ _ _ _ _ _ _).mono ?_; rintro e V8 ⟨rfl, hb⟩; rw [hAB]; replace KA := Lib.hid (KA.out.below hb); replace KB := Lib.hid (KB.out.below hb); replace HB := Lib.hid (HB.out.trans (hb.mono HB.out.size)); clear hb; clear a0 a1 a2 a3 a4 a5 b0 b1 b2 b3 b4 b5; obtain ⟨a0, a1, a2, a3, a4, a5⟩ := KA.out; obtain ⟨b0, b1, b2, b3, b4, b5⟩ := KB.out))
  go_ret
  exact ⟨rfl, HB.out⟩

theorem cmpL_tri : ∀ (xs ys : List Int), cmpL xs ys = -1 ∨ cmpL xs ys = 0 ∨ cmpL xs ys = 1
  | [], [] => .inr (.inl rfl)
  | [], _ :: _ => .inr (.inl rfl)
  | _ :: _, [] => .inr (.inl rfl)
  | x :: xs, y :: ys => by
    have ih := cmpL_tri xs ys
    simp only [cmpL]
    by_cases h1 : x < y
    · simp [h1]
    · by_cases h2 : y < x
      · simp [h1, h2]
      · simp only [h1, h2, if_false]; exact ih
theorem ord_tri (t o r t' o' r' : Int) : ordL t o r t' o' r' = -1 ∨ ordL t o r t' o' r' = 0 ∨ ordL t o r t' o' r' = 1 := cmpL_tri _ _

theorem walk (n0 : Bool) (t0 o0 r0 d0 i0 : Int) (w0 : I64 t0 ∧ I64 o0 ∧ I64 r0 ∧ I64 d0 ∧ I64 i0) (n1 : Bool) (t1 o1 r1 d1 i1 : Int) (w1 : I64 t1 ∧ I64 o1 ∧ I64 r1 ∧ I64 d1 ∧ I64 i1) (w : World) :
    Calls Try.prog 7 #[.agg #[.bool n0, .int .i64 t0, .int .i64 o0, .int .i64 r0, .int .i64 d0, .int .i64 i0], .agg #[.bool n1, .int .i64 t1, .int .i64 o1, .int .i64 r1, .int .i64 d1, .int .i64 i1]] w fun e w' => e = .returned (.bool true) ∧ Below w.heap.size w w' := by
  by_cases hA : HtOk n0 t0 o0 r0 d0 i0
  · by_cases hB : HtOk n1 t1 o1 r1 d1 i1
    · cases n0 with
      | true => exact case_b3 t0 o0 r0 d0 i0 w0 n1 t1 o1 r1 d1 i1 w1 w (chk_ok hA) (chk_ok hB)
      | false =>
        cases n1 with
        | true => exact case_b4 t0 o0 r0 d0 i0 w0 t1 o1 r1 d1 i1 w1 w (chk_ok hA) (chk_ok hB)
        | false =>
          have ta : told false t0 o0 r0 d0 i0 = true := by simp [told, hA]
          have tb : told false t1 o1 r1 d1 i1 = true := by simp [told, hB]
          have h5 : cmp5 t0 o0 r0 d0 i0 t1 o1 r1 d1 i1 = if ordL t0 o0 r0 t1 o1 r1 = 0 then cmpL [d0, i0] [d1, i1] else ordL t0 o0 r0 t1 o1 r1 := cmpL_app [t0, o0, r0] [t1, o1, r1] [d0, i0] [d1, i1] rfl
          have hl : lessB false t0 o0 r0 d0 i0 false t1 o1 r1 d1 i1 = decide (cmp5 t0 o0 r0 d0 i0 t1 o1 r1 d1 i1 < 0) := by unfold lessB; rw [ta, tb]; rfl
          rcases ord_tri t0 o0 r0 t1 o1 r1 with h | h | h
          · exact case_l t0 o0 r0 d0 i0 w0 t1 o1 r1 d1 i1 w1 w ta tb (chk_ok hA) (chk_ok hB) hA h (by rw [hl, h5, h, if_neg (by decide)]; decide)
          · exact case_z t0 o0 r0 d0 i0 w0 t1 o1 r1 d1 i1 w1 w ta tb (chk_ok hA) (chk_ok hB) hA h
          · exact case_g t0 o0 r0 d0 i0 w0 t1 o1 r1 d1 i1 w1 w ta tb (chk_ok hA) (chk_ok hB) hA h (by rw [hl, h5, h, if_neg (by decide)]; decide)
    · exact case_b2 n0 t0 o0 r0 d0 i0 w0 n1 t1 o1 r1 d1 i1 w1 w (chk_ok hA) (chk_no hB)
  · exact case_b1 n0 t0 o0 r0 d0 i0 w0 n1 t1 o1 r1 d1 i1 w1 w (chk_no hA)

set_option maxRecDepth 100000 in
theorem lifted (os : Os) (started : os.Started) (H : Type) (enc : TypeId × Value → H) :
    ReturnsInHanded {} Try.checked os 7 .any (Rows.heightLevelsSpec.pre6 enc Try.prog Try.f7 Rows.heightLevelsRow.domain false) (Rows.heightLevelsSpec.post enc Try.prog Try.f7 false true false false) := by
  refine returnsInHanded_of_change (C := Try.checked) own started (by kernel_rfl) Try.func7
    (ChangeSpec.witness6 (enc := enc) (C := Try.checked) false ⟨#[], #[.agg #[.bool false, .int .i64 0, .int .i64 0, .int .i64 0, .int .i64 0, .int .i64 0], .agg #[.bool false, .int .i64 0, .int .i64 0, .int .i64 0, .int .i64 0, .int .i64 0]], []⟩ 16 (by kernel_rfl) (by kernel_rfl) (by kernel_rfl) (by kernel_rfl)) ?_
  intro W base args ds gs before hval0 hW hcnd _
  have hval : ∀ (j : Nat) t v, Try.f7.params[j]? = some t → args[j]? = some v → Value.okWide Try.prog W .any base t v := hval0
  have hW' := hW
  obtain ⟨p, q, hA0, hV, rfl, hfz, hnd⟩ := hW
  have hA : DataW.TrodAll enc Try.prog W 0 (fun _ => true) true Try.f7.params.toList args.toList ds p := hA0
  rw [Try.params7] at hA hval
  obtain ⟨v0, vs0, e0, ds0, p0, q0, hargs, rfl, rfl, h0, x0⟩ := trodAll_cons hA
  obtain ⟨v1, vs1, e1, ds1, p1, q1, rfl, rfl, rfl, h1, x1⟩ := trodAll_cons x0
  obtain ⟨rfl, rfl, rfl⟩ := trodAll_nil x1
  obtain rfl : args = #[v0, v1] := by cases args; simp_all
  obtain ⟨rfl, rfl⟩ := trodVars_none hV
  have k0 := h0
  have lt0 : ∀ x ∈ p0, x.block < W.heap.size := by obtain ⟨m, hm⟩ := k0; exact DataW.trod_lt m _ _ _ hm
  obtain ⟨n0, t0, o0, r0, d0, i0, rfl, w0⟩ := ht_form (hval 0 23 v0 rfl rfl) h0
  have k1 := h1
  have lt1 : ∀ x ∈ p1, x.block < W.heap.size := by obtain ⟨m, hm⟩ := k1; exact DataW.trod_lt m _ _ _ hm
  obtain ⟨n1, t1, o1, r1, d1, i1, rfl, w1⟩ := ht_form (hval 1 23 v1 rfl rfl) h1
  clear hA0 hval0
  refine (walk n0 t0 o0 r0 d0 i0 w0 n1 t1 o1 r1 d1 i1 w1 W).mono fun e W' ⟨he, bel⟩ => ?_
  subst he
  exact ⟨_, rfl, _, _, _, [], _, [], hW', trodAll_mk1 (shut_bool Try.underlying4 _), (trodAll_cons_mk (Below.trod laidOut (by kernel_rfl) (of_decide_eq_true (by kernel_rfl)) k0 bel lt0) (trodAll_cons_mk (Below.trod laidOut (by kernel_rfl) (of_decide_eq_true (by kernel_rfl)) k1 bel lt1) trodAll_mk0)), rfl, bel.frame _, fun h => by cases h⟩

theorem over : Rows.heightLevelsRow.holds Try.pinned (OpenSpec.ofChange Rows.heightLevelsSpec) :=
  OpenClaim.holds_of_wide 7 Try.f7 rfl rfl rfl rfl rfl rfl rfl ⟨rfl, rfl, rfl, rfl, rfl⟩ rfl rfl rfl rfl rfl (by kernel_rfl) Try.func7 (by kernel_rfl)
    (of_decide_eq_true (by kernel_rfl)) (by unfold Func.isWrapper; first | (rw [if_pos (by decide +kernel)]; kernel_rfl) | (rw [if_neg (by decide +kernel)]; exact ⟨rfl, rfl⟩))
    (fun os started H enc _ => lifted os started H enc)

theorem proved : Rows.HeightLevelsSaid := over
#print axioms proved
end Go.Proofs.Ytkgckmlphfafjaa.heightLevels
