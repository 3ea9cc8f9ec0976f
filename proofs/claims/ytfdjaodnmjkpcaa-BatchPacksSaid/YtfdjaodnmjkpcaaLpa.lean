/- thalweglaw05.BatchPacks: for any objects and numbers the law answers true; no condition. -/
import Derived.Test.YtfdjaodnmjkpcaaBaw
import Derived.WalkLawsBesides
import Derived.WalkKit
import Derived.ProofKit
import Derived.OpenShut
import Derived.ShutString
import Derived.ChangeOld
import Derived.Below
namespace Go.Proofs.Ytfdjaodnmjkpcaa.batchPacks
open Go.ChangeShapes Go.WideShapes Go.ChangeAt Go.RowKit
open Go.ChangeMaps (open_string shut_string)
set_option linter.unusedVariables false
set_option maxRecDepth 100000

theorem own : ownKnob Try.prog.godebug = none := by kernel_rfl
theorem laidOut : laidOutB Try.prog = true := by kernel_rfl

theorem mid (a0 : Option Addr) (cap0 : Nat) (z0 : List Ob) (a1 a2 : Int) (w : World) (h1 : (120 : Int) < (z0.length : Int)) (h2 : (z0.length : Int) ≤ 1024) :
    Calls Try.prog 4 #[.slice a0 z0.length cap0, .int .i64 a1, .int .i64 a2] w fun e w' => e = .returned (.bool true) ∧ Below w.heap.size w w' := by
  go_enter Try.func4, Try.ntmps4
  go_wp2_with fail
  go_ret
  exact ⟨rfl, Below.refl _ _⟩

theorem far (a0 : Option Addr) (cap0 : Nat) (z0 : List Ob) (a1 a2 : Int) (w : World) (h1 : (1024 : Int) < (z0.length : Int)) (h2 : (1100 : Int) < (z0.length : Int)) :
    Calls Try.prog 4 #[.slice a0 z0.length cap0, .int .i64 a1, .int .i64 a2] w fun e w' => e = .returned (.bool true) ∧ Below w.heap.size w w' := by
  have h3 : (120 : Int) < (z0.length : Int) := by omega
  go_enter Try.func4, Try.ntmps4
  go_wp2_with fail
  go_ret
  exact ⟨rfl, Below.refl _ _⟩

set_option maxHeartbeats 8000000 in
theorem short (a0 : Option Addr) (cap0 : Nat) (z0 : List Ob) (a1 a2 : Int) (w : World) (w0 : Os w (.slice a0 z0.length cap0) z0) (hl : z0.length ≤ 1100) (h1 : ¬ (120 : Int) < (z0.length : Int)) (h2 : ¬ (1100 : Int) < (z0.length : Int)) :
    Calls Try.prog 4 #[.slice a0 z0.length cap0, .int .i64 a1, .int .i64 a2] w fun e w' => e = .returned (.bool true) ∧ Below w.heap.size w w' := by
  have HY := Lib.hid w0
  have HPL := Lib.hid (packB_len z0 a1 a2)
  have HPI := Lib.hid (packB_in z0 a1 a2)
  have cP := fun W v h => ppack_any v z0 a1 a2 W h (show z0.length ≤ 3000 by omega)
  have cR := fun W v h => pack_any v z0 a1 a2 W h (show z0.length ≤ 3000 by omega)
  obtain ⟨E, hE⟩ : ∃ E, packE z0 a2 = E := ⟨_, rfl⟩
  rw [hE] at cP cR
  generalize packB z0 a1 a2 = bs at *
  clear w0 hE
  go_enter Try.func4, Try.ntmps4
  go_wp2_with fail
  refine (own_any _ z0 _ HY.out hl).mono ?_
  rintro e w1 ⟨r1, rfl, ho, hb⟩
  have O1 := Lib.hid (Os_of_own ho).1
  have HB := Lib.hid hb
  obtain ⟨x1, y1, rfl⟩ := own_form ho
  clear ho hb
  go_wp2_with fail
  refine (cP _ _ O1.out).mono ?_
  rintro e w2 ⟨r2, rfl, hr2, hb⟩
  obtain ⟨x2, y2, rfl⟩ := hr2.form
  have R2 := Lib.hid (Bts_of_row hr2)
  replace O1 := Lib.hid (O1.out.below hb)
  replace HB := Lib.hid (HB.out.trans (hb.mono HB.out.size))
  clear hr2 hb
  go_wp2_with fail
  refine (cR _ _ (HY.out.below HB.out)).mono ?_
  rintro e w3 ⟨r3, rfl, hr3, hb⟩
  obtain ⟨x3, y3, rfl⟩ := hr3.form
  have R3 := Lib.hid (Bts_of_row hr3)
  replace R2 := Lib.hid (R2.out.below hb)
  replace O1 := Lib.hid (O1.out.below hb)
  replace HB := Lib.hid (HB.out.trans (hb.mono HB.out.size))
  clear hr3 hb cP cR
  go_wp2_with fail
  refine (bawake_any _).mono ?_
  rintro e w4 ⟨rfl, hb⟩
  replace R2 := Lib.hid (R2.out.below hb)
  replace R3 := Lib.hid (R3.out.below hb)
  replace O1 := Lib.hid (O1.out.below hb)
  replace HB := Lib.hid (HB.out.trans (hb.mono HB.out.size))
  clear hb
  go_wp2_with fail
  refine (bsame_true _ _ bs _ R2.out R3.out (by have := HPL.out; omega) HPI.out).mono ?_
  rintro e w5 ⟨rfl, hb⟩
  replace O1 := Lib.hid (O1.out.below hb)
  replace HB := Lib.hid (HB.out.trans (hb.mono HB.out.size))
  clear hb
  go_wp2_with fail
  refine (same_true _ _ z0 _ O1.out (HY.out.below HB.out) (by omega)).mono ?_
  rintro e w6 ⟨rfl, hb⟩
  replace HB := Lib.hid (HB.out.trans (hb.mono HB.out.size))
  clear hb
  go_wp2_with fail
  go_ret
  exact ⟨rfl, HB.out⟩

set_option maxHeartbeats 8000000 in
theorem long (a0 : Option Addr) (cap0 : Nat) (z0 : List Ob) (a1 a2 : Int) (w : World) (w0 : Os w (.slice a0 z0.length cap0) z0) (hl : z0.length ≤ 1100) (h1 : (120 : Int) < (z0.length : Int)) (h2 : ¬ (1100 : Int) < (z0.length : Int)) (h3 : ¬ (z0.length : Int) ≤ 1024) :
    Calls Try.prog 4 #[.slice a0 z0.length cap0, .int .i64 a1, .int .i64 a2] w fun e w' => e = .returned (.bool true) ∧ Below w.heap.size w w' := by
  have HY := Lib.hid w0
  have HPL := Lib.hid (packB_len z0 a1 a2)
  have HPI := Lib.hid (packB_in z0 a1 a2)
  have cP := fun W v h => ppack_any v z0 a1 a2 W h (show z0.length ≤ 3000 by omega)
  have cR := fun W v h => pack_any v z0 a1 a2 W h (show z0.length ≤ 3000 by omega)
  obtain ⟨E, hE⟩ : ∃ E, packE z0 a2 = E := ⟨_, rfl⟩
  rw [hE] at cP cR
  generalize packB z0 a1 a2 = bs at *
  clear w0 hE
  go_enter Try.func4, Try.ntmps4
  go_wp2_with fail
  refine (own_any _ z0 _ HY.out hl).mono ?_
  rintro e w1 ⟨r1, rfl, ho, hb⟩
  have O1 := Lib.hid (Os_of_own ho).1
  have HB := Lib.hid hb
  obtain ⟨x1, y1, rfl⟩ := own_form ho
  clear ho hb
  go_wp2_with fail
  refine (cP _ _ O1.out).mono ?_
  rintro e w2 ⟨r2, rfl, hr2, hb⟩
  obtain ⟨x2, y2, rfl⟩ := hr2.form
  have R2 := Lib.hid (Bts_of_row hr2)
  replace O1 := Lib.hid (O1.out.below hb)
  replace HB := Lib.hid (HB.out.trans (hb.mono HB.out.size))
  clear hr2 hb
  go_wp2_with fail
  refine (cR _ _ (HY.out.below HB.out)).mono ?_
  rintro e w3 ⟨r3, rfl, hr3, hb⟩
  obtain ⟨x3, y3, rfl⟩ := hr3.form
  have R3 := Lib.hid (Bts_of_row hr3)
  replace R2 := Lib.hid (R2.out.below hb)
  replace O1 := Lib.hid (O1.out.below hb)
  replace HB := Lib.hid (HB.out.trans (hb.mono HB.out.size))
  clear hr3 hb cP cR
  go_wp2_with fail
  refine (bawake_any _).mono ?_
  rintro e w4 ⟨rfl, hb⟩
  replace R2 := Lib.hid (R2.out.below hb)
  replace R3 := Lib.hid (R3.out.below hb)
  replace O1 := Lib.hid (O1.out.below hb)
  replace HB := Lib.hid (HB.out.trans (hb.mono HB.out.size))
  clear hb
  go_wp2_with fail
  refine (bsame_true _ _ bs _ R2.out R3.out (by have := HPL.out; omega) HPI.out).mono ?_
  rintro e w5 ⟨rfl, hb⟩
  replace O1 := Lib.hid (O1.out.below hb)
  replace HB := Lib.hid (HB.out.trans (hb.mono HB.out.size))
  clear hb
  go_wp2_with fail
  refine (same_true _ _ z0 _ O1.out (HY.out.below HB.out) (by omega)).mono ?_
  rintro e w6 ⟨rfl, hb⟩
  replace HB := Lib.hid (HB.out.trans (hb.mono HB.out.size))
  clear hb
  go_wp2_with fail
  go_ret
  exact ⟨rfl, HB.out⟩

theorem walk (a0 : Option Addr) (cap0 : Nat) (z0 : List Ob) (a1 : Int) (w1 : I64 a1) (a2 : Int) (w2 : I64 a2) (w : World) (w0 : Os w (.slice a0 z0.length cap0) z0) :
    Calls Try.prog 4 #[.slice a0 z0.length cap0, .int .i64 a1, .int .i64 a2] w fun e w' => e = .returned (.bool true) ∧ Below w.heap.size w w' := by
  by_cases h1 : 120 < z0.length
  · by_cases h2 : z0.length ≤ 1024
    · exact mid a0 cap0 z0 a1 a2 w (by omega) (by omega)
    · by_cases h3 : 1100 < z0.length
      · exact far a0 cap0 z0 a1 a2 w (by omega) (by omega)
      · exact long a0 cap0 z0 a1 a2 w w0 (by omega) (by omega) (by omega) (by omega)
  · exact short a0 cap0 z0 a1 a2 w w0 (by omega) (by omega) (by omega)

set_option maxRecDepth 100000 in
theorem lifted (os : _root_.Go.Os) (started : os.Started) (H : Type) (enc : TypeId × Value → H) :
    ReturnsInHanded {} Try.checked os 4 .any (Rows.batchPacksSpec.pre6 enc Try.prog Try.f4 Rows.batchPacksRow.domain false) (Rows.batchPacksSpec.post enc Try.prog Try.f4 false true false false) := by
  refine returnsInHanded_of_change (C := Try.checked) own started (by kernel_rfl) Try.func4
    (ChangeSpec.witness6 (enc := enc) (C := Try.checked) false ⟨#[], #[.slice none 0 0, .int .i64 0, .int .i64 0], []⟩ 16 (by kernel_rfl) (by kernel_rfl) (by kernel_rfl) (by kernel_rfl)) ?_
  intro W base args ds gs before hval0 hW hcnd _
  have hval : ∀ (j : Nat) t v, Try.f4.params[j]? = some t → args[j]? = some v → Value.okWide Try.prog W .any base t v := hval0
  have hW' := hW
  obtain ⟨p, q, hA0, hV, rfl, hfz, hnd⟩ := hW
  have hA : DataW.TrodAll enc Try.prog W 0 (fun _ => true) true Try.f4.params.toList args.toList ds p := hA0
  rw [Try.params4] at hA hval
  obtain ⟨v0, vs0, e0, ds0, p0, q0, hargs, rfl, rfl, h0, x0⟩ := trodAll_cons hA
  obtain ⟨v1, vs1, e1, ds1, p1, q1, rfl, rfl, rfl, h1, x1⟩ := trodAll_cons x0
  obtain ⟨v2, vs2, e2, ds2, p2, q2, rfl, rfl, rfl, h2, x2⟩ := trodAll_cons x1
  obtain ⟨rfl, rfl, rfl⟩ := trodAll_nil x2
  obtain rfl : args = #[v0, v1, v2] := by cases args; simp_all
  obtain ⟨rfl, rfl⟩ := trodVars_none hV
  have k0 := h0
  have lt0 : ∀ x ∈ p0, x.block < W.heap.size := by obtain ⟨m, hm⟩ := k0; exact DataW.trod_lt m _ _ _ hm
  obtain ⟨a0, len0, cap0, rfl⟩ := okWide_slice underSL (hval 0 22 v0 rfl rfl)
  obtain ⟨z0, hz0, w0⟩ := obs_form (hval 0 22 _ rfl rfl) h0
  subst hz0
  have k1 := h1
  have lt1 : ∀ x ∈ p1, x.block < W.heap.size := by obtain ⟨m, hm⟩ := k1; exact DataW.trod_lt m _ _ _ hm
  obtain ⟨a1, rfl, _, _, w1⟩ := open_int Try.underlying3 (hval 1 3 v1 rfl rfl) h1
  have k2 := h2
  have lt2 : ∀ x ∈ p2, x.block < W.heap.size := by obtain ⟨m, hm⟩ := k2; exact DataW.trod_lt m _ _ _ hm
  obtain ⟨a2, rfl, _, _, w2⟩ := open_int Try.underlying3 (hval 2 3 v2 rfl rfl) h2
  clear hA0 hval0
  refine (walk a0 cap0 z0 a1 (i64_wf w1) a2 (i64_wf w2) W w0).mono fun e W' ⟨he, bel⟩ => ?_
  subst he
  exact ⟨_, rfl, _, _, _, [], _, [], hW', trodAll_mk1 (shut_bool Try.underlying4 _), (trodAll_cons_mk (Below.trod laidOut (by kernel_rfl) (of_decide_eq_true (by kernel_rfl)) k0 bel lt0) (trodAll_cons_mk (Below.trod laidOut (by kernel_rfl) (of_decide_eq_true (by kernel_rfl)) k1 bel lt1) (trodAll_cons_mk (Below.trod laidOut (by kernel_rfl) (of_decide_eq_true (by kernel_rfl)) k2 bel lt2) trodAll_mk0))), rfl, bel.frame _, fun h => by cases h⟩

theorem over : Rows.batchPacksRow.holds Try.pinned (OpenSpec.ofChange Rows.batchPacksSpec) :=
  OpenClaim.holds_of_wide 4 Try.f4 rfl rfl rfl rfl rfl rfl rfl ⟨rfl, rfl, rfl, rfl, rfl⟩ rfl rfl rfl rfl rfl (by kernel_rfl) Try.func4 (by kernel_rfl)
    (of_decide_eq_true (by kernel_rfl)) (by unfold Func.isWrapper; first | (rw [if_pos (by decide +kernel)]; kernel_rfl) | (rw [if_neg (by decide +kernel)]; exact ⟨rfl, rfl⟩))
    (fun os started H enc _ => lifted os started H enc)

theorem proved : Rows.BatchPacksSaid := over
#print axioms proved
end Go.Proofs.Ytfdjaodnmjkpcaa.batchPacks
