/- thalweglaw13.SenseNil: for any numbers and beacon the law answers true; no condition. -/
import Derived.Test.YtcddicaebecneaaSaw
import Derived.Test.YtcddicaebecneaaPom
import Derived.WalkLawsBesides
import Derived.WalkKit
import Derived.ProofKit
import Derived.OpenShut
import Derived.ShutString
import Derived.ChangeOld
import Derived.Below
namespace Go.Proofs.Ytcddicaebecneaa.senseNil
open Go.ChangeShapes Go.WideShapes Go.ChangeAt Go.RowKit
open Go.ChangeMaps (open_string shut_string)
set_option linter.unusedVariables false
set_option maxRecDepth 100000

theorem own : ownKnob Try.prog.godebug = none := by kernel_rfl
theorem laidOut : laidOutB Try.prog = true := by kernel_rfl
set_option maxHeartbeats 8000000 in
theorem walk0 (a0 a1 b2 : Int) (a2 : Option Addr) (cap2 : Nat) (z2 : List (Int × Int)) (w : World) : Calls Try.prog 7 #[.int .i64 a0, .int .i64 a1, .agg #[.int .i64 b2, .slice a2 z2.length cap2]] w fun e w' => e = .returned (.bool true) ∧ Below w.heap.size w w' := by
  have hb1 : Below w.heap.size w (w.alloc (.cells #[.int .i64 b2, .slice a2 z2.length cap2] 34)) := (Below.refl _ w).alloc (Nat.le_refl _) _
  by_cases hl : 80 < z2.length
  · have hl' : (80 : Int) < (z2.length : Int) := by omega
    have HB := Lib.hid hb1
    clear hb1 hl
    go_enter Try.func7, Try.ntmps7
    go_wp2_with fail
    go_ret
    exact ⟨rfl, HB.out⟩
  · have hl' : ¬ (80 : Int) < (z2.length : Int) := by omega
    have ob := ownb2_alloc w b2 (.slice a2 z2.length cap2) 34 w.heap.size rfl
    obtain ⟨W1, hW1⟩ : ∃ W1, w.alloc (.cells #[.int .i64 b2, .slice a2 z2.length cap2] 34) = W1 := ⟨_, rfl⟩
    rw [hW1] at hb1 ob
    obtain ⟨⟨o0, o1⟩, _⟩ := ob
    have HB1 := Lib.hid hb1
    have HW1 := Lib.hid hW1
    clear hb1 hl hW1
    go_enter Try.func7, Try.ntmps7
    go_upto_region 1 with (fail)
    rw [HW1.out]
    go_wp2_with fail
    refine (phear_nil a0 a1 b2 _ W1 a2 z2.length cap2 rfl).mono ?_
    rintro e W2 ⟨r1, rfl, -, hb⟩
    have HB2 := Lib.hid (HB1.out.trans (hb.mono HB1.out.size))
    clear hb o0 o1 hl'
    go_wp2_with fail
    refine (tick_nil a0 W2).mono ?_
    rintro e W3 ⟨r2, rfl, -, hb⟩
    have HB3 := Lib.hid (HB2.out.trans (hb.mono HB2.out.size))
    clear hb
    go_wp2_with fail
    refine (awake13 sc W3).mono ?_
    rintro e W4 ⟨rfl, hb⟩
    have HB4 := Lib.hid (HB3.out.trans (hb.mono HB3.out.size))
    clear hb
    go_wp2_with fail
    refine (links_nil W4).mono ?_
    rintro e W5 ⟨v, rfl, he, hb⟩
    obtain ⟨a5, c5, rfl⟩ := he.form
    have HB5 := Lib.hid (HB4.out.trans (hb.mono HB4.out.size))
    clear hb he
    go_wp2_with fail
    refine (beacon_nil W5).mono ?_
    rintro e W6 ⟨v, rfl, he, hb⟩
    have C6 := Lib.hid (rsame_true 0 v (.slice none 0 0) [] W6 he.1 (Es_nil _) (by decide))
    obtain ⟨a6, c6, rfl⟩ := he.1.form
    have HB6 := Lib.hid (HB5.out.trans (hb.mono HB5.out.size))
    clear hb he
    go_wp2_with fail
    refine C6.out.mono ?_
    rintro e W7 ⟨rfl, hb⟩
    have HB7 := Lib.hid (HB6.out.trans (hb.mono HB6.out.size))
    clear hb C6
    go_wp2_with fail
    go_ret
    exact ⟨rfl, HB7.out⟩
theorem walk (a0 : Int) (w0 : I64 a0) (a1 : Int) (w1 : I64 a1) (b2 : Int) (a2 : Option Addr) (cap2 : Nat) (z2 : List (Int × Int)) (w : World) (r2 : Es w (.slice a2 z2.length cap2) z2) : Calls Try.prog 7 #[.int .i64 a0, .int .i64 a1, .agg #[.int .i64 b2, .slice a2 z2.length cap2]] w fun e w' => e = .returned (.bool true) ∧ Below w.heap.size w w' := walk0 a0 a1 b2 a2 cap2 z2 w

set_option maxRecDepth 100000 in
theorem lifted (os : _root_.Go.Os) (started : os.Started) (H : Type) (enc : TypeId × Value → H) :
    ReturnsInHanded {} Try.checked os 7 .any (Rows.senseNilSpec.pre6 enc Try.prog Try.f7 Rows.senseNilRow.domain false) (Rows.senseNilSpec.post enc Try.prog Try.f7 false true false false) := by
  refine returnsInHanded_of_change (C := Try.checked) own started (by kernel_rfl) Try.func7
    (ChangeSpec.witness6 (enc := enc) (C := Try.checked) false ⟨#[], #[.int .i64 0, .int .i64 0, .agg #[.int .i64 0, .slice none 0 0]], []⟩ 16 (by kernel_rfl) (by kernel_rfl) (by kernel_rfl) (by kernel_rfl)) ?_
  intro W base args ds gs before hval0 hW hcnd _
  have hval : ∀ (j : Nat) t v, Try.f7.params[j]? = some t → args[j]? = some v → Value.okWide Try.prog W .any base t v := hval0
  have hW' := hW
  obtain ⟨p, q, hA0, hV, rfl, hfz, hnd⟩ := hW
  have hA : DataW.TrodAll enc Try.prog W 0 (fun _ => true) true Try.f7.params.toList args.toList ds p := hA0
  rw [Try.params7] at hA hval
  obtain ⟨v0, vs0, e0, ds0, p0, q0, hargs, rfl, rfl, h0, x0⟩ := trodAll_cons hA
  obtain ⟨v1, vs1, e1, ds1, p1, q1, rfl, rfl, rfl, h1, x1⟩ := trodAll_cons x0
  obtain ⟨v2, vs2, e2, ds2, p2, q2, rfl, rfl, rfl, h2, x2⟩ := trodAll_cons x1
  obtain ⟨rfl, rfl, rfl⟩ := trodAll_nil x2
  obtain rfl : args = #[v0, v1, v2] := by cases args; simp_all
  obtain ⟨rfl, rfl⟩ := trodVars_none hV
  have k0 := h0
  have lt0 : ∀ x ∈ p0, x.block < W.heap.size := by obtain ⟨m, hm⟩ := k0; exact DataW.trod_lt m _ _ _ hm
  obtain ⟨a0, rfl, _, _, w0⟩ := open_int Try.underlying3 (hval 0 3 v0 rfl rfl) h0
  have k1 := h1
  have lt1 : ∀ x ∈ p1, x.block < W.heap.size := by obtain ⟨m, hm⟩ := k1; exact DataW.trod_lt m _ _ _ hm
  obtain ⟨a1, rfl, _, _, w1⟩ := open_int Try.underlying3 (hval 1 3 v1 rfl rfl) h1
  have k2 := h2
  have lt2 : ∀ x ∈ p2, x.block < W.heap.size := by obtain ⟨m, hm⟩ := k2; exact DataW.trod_lt m _ _ _ hm
  obtain ⟨b2, a2, cap2, z2, rfl, _, w2⟩ := bea_form (hval 2 34 _ rfl rfl) h2
  clear hA0 hval0
  refine (walk a0 (i64_wf w0) a1 (i64_wf w1) b2 a2 cap2 z2 W w2).mono fun e W' ⟨he, bel⟩ => ?_
  subst he
  exact ⟨_, rfl, _, _, _, [], _, [], hW', trodAll_mk1 (shut_bool Try.underlying4 _), (trodAll_cons_mk (Below.trod laidOut (by kernel_rfl) (of_decide_eq_true (by kernel_rfl)) k0 bel lt0) (trodAll_cons_mk (Below.trod laidOut (by kernel_rfl) (of_decide_eq_true (by kernel_rfl)) k1 bel lt1) (trodAll_cons_mk (Below.trod laidOut (by kernel_rfl) (of_decide_eq_true (by kernel_rfl)) k2 bel lt2) trodAll_mk0))), rfl, bel.frame _, fun h => by cases h⟩

theorem over : Rows.senseNilRow.holds Try.pinned (OpenSpec.ofChange Rows.senseNilSpec) :=
  OpenClaim.holds_of_wide 7 Try.f7 rfl rfl rfl rfl rfl rfl rfl ⟨rfl, rfl, rfl, rfl, rfl⟩ rfl rfl rfl rfl rfl (by kernel_rfl) Try.func7 (by kernel_rfl)
    (of_decide_eq_true (by kernel_rfl)) (by unfold Func.isWrapper; first | (rw [if_pos (by decide +kernel)]; kernel_rfl) | (rw [if_neg (by decide +kernel)]; exact ⟨rfl, rfl⟩))
    (fun os started H enc _ => lifted os started H enc)

theorem proved : Rows.SenseNilSaid := over
#print axioms proved
end Go.Proofs.Ytcddicaebecneaa.senseNil
