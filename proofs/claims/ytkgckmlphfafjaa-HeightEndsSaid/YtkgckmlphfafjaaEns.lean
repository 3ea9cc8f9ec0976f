/- thalweglaw02.HeightEnds: for any row of heights the law answers true; no condition. -/
import Derived.Test.YtkgckmlphfafjaaHts
import Derived.Test.YtkgckmlphfafjaaRen
import Derived.Test.YtkgckmlphfafjaaAwk
import Derived.WalkLawsBesides
import Derived.WalkKit
import Derived.ProofKit
import Derived.OpenShut
import Derived.ShutString
import Derived.ChangeOld
import Derived.Below
namespace Go.Proofs.Ytkgckmlphfafjaa.heightEnds
open Go.ChangeShapes Go.WideShapes Go.ChangeAt Go.RowKit
open Go.ChangeMaps (open_string shut_string)
set_option linter.unusedVariables false

theorem own : ownKnob Try.prog.godebug = none := by kernel_rfl
theorem laidOut : laidOutB Try.prog = true := by kernel_rfl

set_option maxHeartbeats 8000000 in
theorem walk (a0 : Option Addr) (cap0 : Nat) (hs : List H6) (w : World) (w0 : Hs w a0 hs) :
    Calls Try.prog 4 #[.slice a0 hs.length cap0] w fun e w' => e = .returned (.bool true) ∧ Below w.heap.size w w' := by
  by_cases hbig : 100 < hs.length
  · go_enter Try.func4, Try.ntmps4
    go_wp2
    go_ret
    exact ⟨rfl, Below.refl _ _⟩
  have h9 : hs.length ≤ 100 := by omega
  have hbig' : ¬ (100 : Int) < (hs.length : Int) := by omega
  have L1 := fun W h => ends_any a0 cap0 hs W h h9
  have L2 := fun W h => rends_any a0 cap0 hs W h h9
  have HH := Lib.hid w0
  clear hbig w0
  generalize bv lss hs hs.length = x at *
  generalize bv mor hs hs.length = y at *
  generalize bany lss hs hs.length = p at *
  obtain ⟨n, t, o, r, d, i⟩ := x
  obtain ⟨n', t', o', r', d', i'⟩ := y
  have M1 : Hid (∀ W, Hs W a0 hs → Calls Try.prog 25 #[.slice a0 hs.length cap0] W fun e w' => e = .returned (.tuple #[.agg #[.bool n, .int .i64 t, .int .i64 o, .int .i64 r, .int .i64 d, .int .i64 i], .agg #[.bool n', .int .i64 t', .int .i64 o', .int .i64 r', .int .i64 d', .int .i64 i'], .bool p]) ∧ Below W.heap.size W w') := L1
  have M2 : Hid (∀ W, Hs W a0 hs → Calls Try.prog 26 #[.slice a0 hs.length cap0] W fun e w' => e = .returned (.tuple #[.agg #[.bool n, .int .i64 t, .int .i64 o, .int .i64 r, .int .i64 d, .int .i64 i], .agg #[.bool n', .int .i64 t', .int .i64 o', .int .i64 r', .int .i64 d', .int .i64 i'], .bool p]) ∧ Below W.heap.size W w') := L2
  clear L1 L2
  have eqX := eql23 n n t o r d i t o r d i
  have eqY := eql23 n' n' t' o' r' d' i' t' o' r' d' i'
  rw [show eqH n t o r d i n t o r d i = true from by unfold eqH; simp] at eqX
  rw [show eqH n' t' o' r' d' i' n' t' o' r' d' i' = true from by unfold eqH; simp] at eqY
  go_enter Try.func4, Try.ntmps4
  go_wp2_with fail
  refine (M1.out _ HH.out).mono ?_
  rintro e w1 ⟨rfl, hb⟩
  have HB1 := Lib.hid hb
  clear hb
  have KX : Hid (Cells6 ((w1.alloc (.cells #[.bool n, .int .i64 t, .int .i64 o, .int .i64 r, .int .i64 d, .int .i64 i] 23)).alloc (.cells #[.bool n', .int .i64 t', .int .i64 o', .int .i64 r', .int .i64 d', .int .i64 i'] 23)) w1.heap.size n t o r d i) := (cells6_alloc w1 n t o r d i 23).below ((Below.refl _ _).alloc (Nat.le_refl _) _)
  have KY : Hid (Cells6 ((w1.alloc (.cells #[.bool n, .int .i64 t, .int .i64 o, .int .i64 r, .int .i64 d, .int .i64 i] 23)).alloc (.cells #[.bool n', .int .i64 t', .int .i64 o', .int .i64 r', .int .i64 d', .int .i64 i'] 23)) (w1.heap.size + 1) n' t' o' r' d' i') := (own6_alloc (w1.alloc (.cells #[.bool n, .int .i64 t, .int .i64 o, .int .i64 r, .int .i64 d, .int .i64 i] 23)) n' t' o' r' d' i' 23 (w1.heap.size + 1) (by simp)).1
  have b1 : Below w1.heap.size w1 ((w1.alloc (.cells #[.bool n, .int .i64 t, .int .i64 o, .int .i64 r, .int .i64 d, .int .i64 i] 23)).alloc (.cells #[.bool n', .int .i64 t', .int .i64 o', .int .i64 r', .int .i64 d', .int .i64 i'] 23)) := ((Below.refl _ w1).alloc (Nat.le_refl _) _).alloc (by simp) _
  have H2 := Lib.hid ((HH.out.below HB1.out).below b1)
  have HB2 := Lib.hid (HB1.out.trans (b1.mono HB1.out.size))
  clear b1
  go_wp2_with fail
  refine (M2.out _ H2.out).mono ?_
  rintro e w2 ⟨rfl, hb⟩
  have JX := Lib.hid (KX.out.below hb)
  have JY := Lib.hid (KY.out.below hb)
  have HB3 := Lib.hid (HB2.out.trans (hb.mono HB2.out.size))
  have HS : Hid (w1.heap.size + 1 < w2.heap.size) := Nat.lt_of_lt_of_le (by simp) hb.size
  clear hb KX KY
  have b2 : Below w2.heap.size w2 ((w2.alloc (.cells #[.bool n, .int .i64 t, .int .i64 o, .int .i64 r, .int .i64 d, .int .i64 i] 23)).alloc (.cells #[.bool n', .int .i64 t', .int .i64 o', .int .i64 r', .int .i64 d', .int .i64 i'] 23)) := ((Below.refl _ w2).alloc (Nat.le_refl _) _).alloc (by simp) _
  have GX := Lib.hid (JX.out.below b2)
  have GY := Lib.hid (JY.out.below b2)
  have PX : Hid (Cells6 ((w2.alloc (.cells #[.bool n, .int .i64 t, .int .i64 o, .int .i64 r, .int .i64 d, .int .i64 i] 23)).alloc (.cells #[.bool n', .int .i64 t', .int .i64 o', .int .i64 r', .int .i64 d', .int .i64 i'] 23)) w2.heap.size n t o r d i) := (cells6_alloc w2 n t o r d i 23).below ((Below.refl _ _).alloc (Nat.le_refl _) _)
  have PY : Hid (Cells6 ((w2.alloc (.cells #[.bool n, .int .i64 t, .int .i64 o, .int .i64 r, .int .i64 d, .int .i64 i] 23)).alloc (.cells #[.bool n', .int .i64 t', .int .i64 o', .int .i64 r', .int .i64 d', .int .i64 i'] 23)) (w2.heap.size + 1) n' t' o' r' d' i') := (own6_alloc (w2.alloc (.cells #[.bool n, .int .i64 t, .int .i64 o, .int .i64 r, .int .i64 d, .int .i64 i] 23)) n' t' o' r' d' i' 23 (w2.heap.size + 1) (by simp)).1
  have HB4 := Lib.hid (HB3.out.trans (b2.mono HB3.out.size))
  clear b2 JX JY
  go_wp2_with fail
  refine (awake_any _).mono ?_
  rintro e w3 ⟨rfl, hb⟩
  have FX := Lib.hid (GX.out.below hb)
  have FY := Lib.hid (GY.out.below hb)
  have QX := Lib.hid (PX.out.below hb)
  have QY := Lib.hid (PY.out.below hb)
  have HB5 := Lib.hid (HB4.out.trans (hb.mono HB4.out.size))
  clear hb GX GY PX PY
  obtain ⟨a0', a1', a2', a3', a4', a5'⟩ := FX.out
  obtain ⟨b0', b1', b2', b3', b4', b5'⟩ := FY.out
  obtain ⟨c0', c1', c2', c3', c4', c5'⟩ := QX.out
  obtain ⟨d0', d1', d2', d3', d4', d5'⟩ := QY.out
  go_wp2_with fail
  go_ret
  exact ⟨rfl, HB5.out⟩

set_option maxRecDepth 100000 in
theorem lifted (os : Os) (started : os.Started) (H : Type) (enc : TypeId × Value → H) :
    ReturnsInHanded {} Try.checked os 4 .any (Rows.heightEndsSpec.pre6 enc Try.prog Try.f4 Rows.heightEndsRow.domain false) (Rows.heightEndsSpec.post enc Try.prog Try.f4 false true false false) := by
  refine returnsInHanded_of_change (C := Try.checked) own started (by kernel_rfl) Try.func4
    (ChangeSpec.witness6 (enc := enc) (C := Try.checked) false ⟨#[], #[.slice none 0 0], []⟩ 16 (by kernel_rfl) (by kernel_rfl) (by kernel_rfl) (by kernel_rfl)) ?_
  intro W base args ds gs before hval0 hW hcnd _
  have hval : ∀ (j : Nat) t v, Try.f4.params[j]? = some t → args[j]? = some v → Value.okWide Try.prog W .any base t v := hval0
  have hW' := hW
  obtain ⟨p, q, hA0, hV, rfl, hfz, hnd⟩ := hW
  have hA : DataW.TrodAll enc Try.prog W 0 (fun _ => true) true Try.f4.params.toList args.toList ds p := hA0
  rw [Try.params4] at hA hval
  obtain ⟨v0, vs0, e0, ds0, p0, q0, hargs, rfl, rfl, h0, x0⟩ := trodAll_cons hA
  obtain ⟨rfl, rfl, rfl⟩ := trodAll_nil x0
  obtain rfl : args = #[v0] := by cases args; simp_all
  obtain ⟨rfl, rfl⟩ := trodVars_none hV
  have k0 := h0
  have lt0 : ∀ x ∈ p0, x.block < W.heap.size := by obtain ⟨m, hm⟩ := k0; exact DataW.trod_lt m _ _ _ hm
  obtain ⟨a0, len0, cap0, rfl⟩ := okWide_slice under40 (hval 0 40 v0 rfl rfl)
  obtain ⟨z0, hz, w0⟩ := hts_form (hval 0 40 _ rfl rfl) h0
  subst hz
  clear hA0 hval0
  refine (walk a0 cap0 z0 W w0).mono fun e W' ⟨he, bel⟩ => ?_
  subst he
  exact ⟨_, rfl, _, _, _, [], _, [], hW', trodAll_mk1 (shut_bool Try.underlying4 _), (trodAll_cons_mk (Below.trod laidOut (by kernel_rfl) (of_decide_eq_true (by kernel_rfl)) k0 bel lt0) trodAll_mk0), rfl, bel.frame _, fun h => by cases h⟩

theorem over : Rows.heightEndsRow.holds Try.pinned (OpenSpec.ofChange Rows.heightEndsSpec) :=
  OpenClaim.holds_of_wide 4 Try.f4 rfl rfl rfl rfl rfl rfl rfl ⟨rfl, rfl, rfl, rfl, rfl⟩ rfl rfl rfl rfl rfl (by kernel_rfl) Try.func4 (by kernel_rfl)
    (of_decide_eq_true (by kernel_rfl)) (by unfold Func.isWrapper; first | (rw [if_pos (by decide +kernel)]; kernel_rfl) | (rw [if_neg (by decide +kernel)]; exact ⟨rfl, rfl⟩))
    (fun os started H enc _ => lifted os started H enc)

theorem proved : Rows.HeightEndsSaid := over
#print axioms proved
end Go.Proofs.Ytkgckmlphfafjaa.heightEnds
