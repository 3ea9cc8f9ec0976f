/- thalweglaw10.QueueNil: for any packet and node the law answers true; no condition. -/
import Derived.Test.YtgcjmnjepnmaeaaQaw
import Derived.Test.YtgcjmnjepnmaeaaQpg
import Derived.WalkLawsBesides
import Derived.WalkKit
import Derived.ProofKit
import Derived.OpenShut
import Derived.ShutString
import Derived.ChangeOld
import Derived.Below
namespace Go.Proofs.Ytgcjmnjepnmaeaa.queueNil
open Go.ChangeShapes Go.WideShapes Go.ChangeAt Go.RowKit
open Go.ChangeMaps (open_string shut_string)
set_option linter.unusedVariables false
set_option maxRecDepth 100000

theorem own : ownKnob Try.prog.godebug = none := by kernel_rfl
theorem laidOut : laidOutB Try.prog = true := by kernel_rfl
set_option maxHeartbeats 16000000 in
theorem walk {QSt : World → (Nat → Prop) → Nat → Int → List Pk → Prop} (hc : Qc QSt) (ps0 pd0 pt0 pn0 : Int) (px0 : ByteArray) (a1 : Int) (w1 : I64 a1) (w : World) :
    Calls Try.prog 6 #[.agg #[.int .i64 ps0, .int .i64 pd0, .int .i64 pt0, .int .i64 pn0, .string px0], .int .i64 a1] w fun e w' => e = .returned (.bool true) ∧ Below w.heap.size w w' := by
  obtain ⟨w1, hw1⟩ : ∃ w1, w.alloc (.cells #[.int .i64 ps0, .int .i64 pd0, .int .i64 pt0, .int .i64 pn0, .string px0] 34) = w1 := ⟨_, rfl⟩
  have OV : Hid (OwnP w1 w.heap.size ps0 pd0 pt0 pn0 px0) := hw1 ▸ ownp_alloc w ps0 pd0 pt0 pn0 px0 34 w.heap.size rfl
  have HB : Hid (Below w.heap.size w w1) := hw1 ▸ (Below.refl _ w).alloc (Nat.le_refl _) _
  have C1 := Lib.hid (hc.takeN a1 w1)
  go_enter Try.func6, Try.ntmps6
  go_wp2_with fail
  refine C1.out.mono ?_
  rintro e W2 ⟨rfl, hb⟩
  clear hw1 C1
  replace OV := Lib.hid (OV.out.below hb)
  replace HB := Lib.hid (HB.out.trans (hb.mono HB.out.size))
  clear hb
  obtain ⟨w3, hw3⟩ : ∃ w3, W2.alloc (.cells #[.int .i64 zPk.1, .int .i64 zPk.2.1, .int .i64 zPk.2.2.1, .int .i64 zPk.2.2.2.1, .string zPk.2.2.2.2] 34) = w3 := ⟨_, rfl⟩
  have hb : Below W2.heap.size W2 w3 := hw3 ▸ (Below.refl _ W2).alloc (Nat.le_refl _) _
  replace OV := Lib.hid (OV.out.below hb)
  replace HB := Lib.hid (HB.out.trans (hb.mono HB.out.size))
  clear hb
  have C1 := Lib.hid (hc.firstN w3)
  go_wp2_with fail
  refine C1.out.mono ?_
  rintro e W4 ⟨rfl, hb⟩
  clear hw3 C1
  replace OV := Lib.hid (OV.out.below hb)
  replace HB := Lib.hid (HB.out.trans (hb.mono HB.out.size))
  clear hb
  obtain ⟨w5, hw5⟩ : ∃ w5, W4.alloc (.cells #[.int .i64 zPk.1, .int .i64 zPk.2.1, .int .i64 zPk.2.2.1, .int .i64 zPk.2.2.2.1, .string zPk.2.2.2.2] 34) = w5 := ⟨_, rfl⟩
  have hb : Below W4.heap.size W4 w5 := hw5 ▸ (Below.refl _ W4).alloc (Nat.le_refl _) _
  replace OV := Lib.hid (OV.out.below hb)
  replace HB := Lib.hid (HB.out.trans (hb.mono HB.out.size))
  clear hb
  have C1 := Lib.hid (awake10 hc w5)
  go_wp2_with fail
  refine C1.out.mono ?_
  rintro e W6 ⟨rfl, hb⟩
  clear hw5 C1
  replace OV := Lib.hid (OV.out.below hb)
  replace HB := Lib.hid (HB.out.trans (hb.mono HB.out.size))
  clear hb
  obtain ⟨⟨u0, u1, u2, u3, u4⟩, uf⟩ := OV.out
  have C1 := Lib.hid (hc.putN (ps0, pd0, pt0, pn0, px0) W6)
  go_wp2_with fail
  refine C1.out.mono ?_
  rintro e W7 ⟨rfl, hb⟩
  clear C1
  clear u0 u1 u2 u3 u4 uf
  replace OV := Lib.hid (OV.out.below hb)
  replace HB := Lib.hid (HB.out.trans (hb.mono HB.out.size))
  clear hb
  have C1 := Lib.hid (hc.countN a1 W7)
  go_wp2_with fail
  refine C1.out.mono ?_
  rintro e W8 ⟨rfl, hb⟩
  clear C1
  replace OV := Lib.hid (OV.out.below hb)
  replace HB := Lib.hid (HB.out.trans (hb.mono HB.out.size))
  clear hb
  have C1 := Lib.hid (hc.clearN a1 W8)
  go_wp2_with fail
  refine C1.out.mono ?_
  rintro e W9 ⟨rfl, hb⟩
  clear C1
  replace OV := Lib.hid (OV.out.below hb)
  replace HB := Lib.hid (HB.out.trans (hb.mono HB.out.size))
  clear hb
  have C1 := Lib.hid (hc.allN W9)
  go_wp2_with fail
  refine C1.out.mono ?_
  rintro e Wa ⟨⟨aa, ca, rfl⟩, hb⟩
  clear C1
  replace OV := Lib.hid (OV.out.below hb)
  replace HB := Lib.hid (HB.out.trans (hb.mono HB.out.size))
  clear hb
  go_wp2_with fail
  go_ret
  exact ⟨rfl, HB.out⟩

set_option maxRecDepth 100000 in
theorem lifted (os : _root_.Go.Os) (started : os.Started) (H : Type) (enc : TypeId × Value → H) :
    ReturnsInHanded {} Try.checked os 6 .any (Rows.queueNilSpec.pre6 enc Try.prog Try.f6 Rows.queueNilRow.domain false) (Rows.queueNilSpec.post enc Try.prog Try.f6 false true false false) := by
  refine returnsInHanded_of_change (C := Try.checked) own started (by kernel_rfl) Try.func6
    (ChangeSpec.witness6 (enc := enc) (C := Try.checked) false ⟨#[], #[.agg #[.int .i64 0, .int .i64 0, .int .i64 0, .int .i64 0, .string ⟨#[]⟩], .int .i64 0], []⟩ 16 (by kernel_rfl) (by kernel_rfl) (by kernel_rfl) (by kernel_rfl)) ?_
  intro W base args ds gs before hval0 hW hcnd _
  have hval : ∀ (j : Nat) t v, Try.f6.params[j]? = some t → args[j]? = some v → Value.okWide Try.prog W .any base t v := hval0
  have hW' := hW
  obtain ⟨p, q, hA0, hV, rfl, hfz, hnd⟩ := hW
  have hA : DataW.TrodAll enc Try.prog W 0 (fun _ => true) true Try.f6.params.toList args.toList ds p := hA0
  rw [Try.params6] at hA hval
  obtain ⟨v0, vs0, e0, ds0, p0, q0, hargs, rfl, rfl, h0, x0⟩ := trodAll_cons hA
  obtain ⟨v1, vs1, e1, ds1, p1, q1, rfl, rfl, rfl, h1, x1⟩ := trodAll_cons x0
  obtain ⟨rfl, rfl, rfl⟩ := trodAll_nil x1
  obtain rfl : args = #[v0, v1] := by cases args; simp_all
  obtain ⟨rfl, rfl⟩ := trodVars_none hV
  have k0 := h0
  have lt0 : ∀ x ∈ p0, x.block < W.heap.size := by obtain ⟨m, hm⟩ := k0; exact DataW.trod_lt m _ _ _ hm
  have k1 := h1
  have lt1 : ∀ x ∈ p1, x.block < W.heap.size := by obtain ⟨m, hm⟩ := k1; exact DataW.trod_lt m _ _ _ hm
  obtain ⟨a1, rfl, _, _, w1⟩ := open_int Try.underlying3 (hval 1 3 v1 rfl rfl) h1
  obtain ⟨ps0, pd0, pt0, pn0, px0, rfl, _, _⟩ := pk_form (hval 0 34 v0 rfl rfl) h0
  clear hA0 hval0
  refine (walk qc ps0 pd0 pt0 pn0 px0 a1 (i64_wf w1) W).mono fun e W' ⟨he, bel⟩ => ?_
  subst he
  exact ⟨_, rfl, _, _, _, [], _, [], hW', trodAll_mk1 (shut_bool Try.underlying4 _), (trodAll_cons_mk (Below.trod laidOut (by kernel_rfl) (of_decide_eq_true (by kernel_rfl)) k0 bel lt0) (trodAll_cons_mk (Below.trod laidOut (by kernel_rfl) (of_decide_eq_true (by kernel_rfl)) k1 bel lt1) trodAll_mk0)), rfl, bel.frame _, fun h => by cases h⟩

theorem over : Rows.queueNilRow.holds Try.pinned (OpenSpec.ofChange Rows.queueNilSpec) :=
  OpenClaim.holds_of_wide 6 Try.f6 rfl rfl rfl rfl rfl rfl rfl ⟨rfl, rfl, rfl, rfl, rfl⟩ rfl rfl rfl rfl rfl (by kernel_rfl) Try.func6 (by kernel_rfl)
    (of_decide_eq_true (by kernel_rfl)) (by unfold Func.isWrapper; first | (rw [if_pos (by decide +kernel)]; kernel_rfl) | (rw [if_neg (by decide +kernel)]; exact ⟨rfl, rfl⟩))
    (fun os started H enc _ => lifted os started H enc)

theorem proved : Rows.QueueNilSaid := over
#print axioms proved
end Go.Proofs.Ytgcjmnjepnmaeaa.queueNil
