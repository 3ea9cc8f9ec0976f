/- thalweglaw14.SenderNil: for any object and ack the law answers true; no condition. -/
import Derived.Test.YticjeknadddhoaaSm
import Derived.Test.YticjeknadddhoaaPn
import Derived.WalkLawsBesides
import Derived.WalkKit
import Derived.ProofKit
import Derived.OpenShut
import Derived.ShutString
import Derived.ChangeOld
import Derived.Below
namespace Go.Proofs.Yticjeknadddhoaa.senderNil
open Go.ChangeShapes Go.WideShapes Go.ChangeAt Go.RowKit
open Go.ChangeMaps (open_string shut_string)
set_option linter.unusedVariables false
set_option maxRecDepth 100000

theorem own : ownKnob Try.prog.godebug = none := by kernel_rfl
theorem laidOut : laidOutB Try.prog = true := by kernel_rfl
set_option maxHeartbeats 4000000 in
theorem walk0 {PS : World → (Nat → Prop) → Nat → Sd → Prop} (dc : Dc PS) (y0 : Ob) (k1 : Ak) (w : World) :
    Calls Try.prog 7 #[.agg #[.int .i64 y0.k, .int .i64 y0.x, .bool y0.n, .int .i64 y0.t, .int .i64 y0.o, .int .i64 y0.r, .int .i64 y0.d, .int .i64 y0.i, .int .i64 y0.p, .int .i64 y0.q, .int .i64 y0.s, .int .i64 y0.m], .agg #[.int .i64 k1.1, .int .i64 k1.2.1, .int .i64 k1.2.2.1, .int .i64 k1.2.2.2]] w fun e w' => e = .returned (.bool true) ∧ Below w.heap.size w w' := by
  obtain ⟨W1, hW1⟩ : ∃ W1, w.alloc (.cells #[.int .i64 y0.k, .int .i64 y0.x, .bool y0.n, .int .i64 y0.t, .int .i64 y0.o, .int .i64 y0.r, .int .i64 y0.d, .int .i64 y0.i, .int .i64 y0.p, .int .i64 y0.q, .int .i64 y0.s, .int .i64 y0.m] 39) = W1 := ⟨_, rfl⟩
  obtain ⟨W2, hW2⟩ : ∃ W2, W1.alloc (.cells #[.int .i64 k1.1, .int .i64 k1.2.1, .int .i64 k1.2.2.1, .int .i64 k1.2.2.2] 42) = W2 := ⟨_, rfl⟩
  have hb1 : Below w.heap.size w W1 := hW1 ▸ (Below.refl _ w).alloc (Nat.le_refl _) _
  have hb2 : Below W1.heap.size W1 W2 := hW2 ▸ (Below.refl _ W1).alloc (Nat.le_refl _) _
  obtain ⟨p, hp⟩ : ∃ p, w.heap.size = p := ⟨_, rfl⟩
  obtain ⟨q, hq⟩ : ∃ q, p + 1 = q := ⟨_, rfl⟩
  have hq1 : W1.heap.size = q := by rw [← hq, ← hp, ← hW1]; simp
  have hy : C12 W2 p 0 y0 := fun j hj => by
    rw [hb2.cell (p := ⟨p, 0 + j, none⟩) (by show p < _; omega), ← hW1, ← hp]
    have h12 : j = 0 ∨ j = 1 ∨ j = 2 ∨ j = 3 ∨ j = 4 ∨ j = 5 ∨ j = 6 ∨ j = 7 ∨ j = 8 ∨ j = 9 ∨ j = 10 ∨ j = 11 := by omega
    rcases h12 with rfl | rfl | rfl | rfl | rfl | rfl | rfl | rfl | rfl | rfl | rfl | rfl <;> simp [Ob.cl]
  have hk : ∀ j, j < 4 → W2.cell? ⟨q, j, none⟩ = (akc k1)[j]? := fun j hj => by
    rw [← hW2, ← hq1]
    have h4 : j = 0 ∨ j = 1 ∨ j = 2 ∨ j = 3 := by omega
    rcases h4 with rfl | rfl | rfl | rfl <;> simp [akc]
  have HB : Hid (Below w.heap.size w W2) := hb1.trans (hb2.mono hb1.size)
  have HLT : Hid (p < W2.heap.size ∧ q < W2.heap.size) := by
    have h3 : W2.heap.size = q + 1 := by rw [← hq1, ← hW2]; simp
    exact ⟨by omega, by omega⟩
  have HY : Hid (C12 W2 p 0 y0) := hy
  have HK := Lib.hid hk
  have HW1 := Lib.hid hW1
  have HW2 := Lib.hid hW2
  have HP := Lib.hid hp
  have HQ := Lib.hid hq
  clear hW1 hW2 hb1 hb2 hp hq hq1 hy hk
  go_enter Try.func7, Try.ntmps7
  go_upto_region 1 with (fail)
  rw [HW1.out]
  rw [HW2.out]
  try simp only [HP.out, HQ.out]
  go_wp2_with fail
  refine (dc.againN W2).mono ?_
  rintro e W3 ⟨r1, rfl, h1, hb⟩
  obtain ⟨a1, c1, rfl⟩ := h1.form
  have HB3 := Lib.hid hb
  clear hb h1
  go_wp2_with fail
  refine (awake14 dc W3).mono ?_
  rintro e W4 ⟨rfl, hb⟩
  have HB4 := Lib.hid (HB3.out.trans (hb.mono HB3.out.size))
  obtain ⟨u0, u1, u2, u3, u4, u5, u6, u7, u8, u9, u10, u11⟩ : _ := C12.all (w := W4) (b := p) (o := 0) (y := y0) (fun j hj => (HB4.out.cell (p := ⟨p, 0 + j, none⟩) HLT.out.1).trans (HY.out j hj))
  simp only [Nat.zero_add] at u0 u1 u2 u3 u4 u5 u6 u7 u8 u9 u10 u11
  clear hb
  go_wp2_with fail
  refine (dc.pushN y0 W4).mono ?_
  rintro e W5 ⟨rfl, hb⟩
  have HB5 := Lib.hid (HB4.out.trans (hb.mono HB4.out.size))
  clear hb u0 u1 u2 u3 u4 u5 u6 u7 u8 u9 u10 u11
  go_wp2_with fail
  refine (dc.sendN W5).mono ?_
  rintro e W6 ⟨r2, rfl, h2, hb⟩
  obtain ⟨a2, c2, rfl⟩ := h2.form
  have HB6 := Lib.hid (HB5.out.trans (hb.mono HB5.out.size))
  clear hb h2
  go_wp2_with fail
  refine (dc.waitN W6).mono ?_
  rintro e W7 ⟨r3, rfl, h3, hb⟩
  obtain ⟨a3, c3, rfl⟩ := h3.form
  have HB7 := Lib.hid (HB6.out.trans (hb.mono HB6.out.size))
  clear hb h3
  go_wp2_with fail
  refine (dc.outN W7).mono ?_
  rintro e W8 ⟨r4, rfl, h4, hb⟩
  obtain ⟨a4, c4, rfl⟩ := h4.form
  have HB8 := Lib.hid (HB7.out.trans (hb.mono HB7.out.size))
  have k0 := (HB8.out.cell (p := ⟨q, 0, none⟩) HLT.out.2).trans (HK.out 0 (by decide))
  have k1' := (HB8.out.cell (p := ⟨q, 1, none⟩) HLT.out.2).trans (HK.out 1 (by decide))
  have k2' := (HB8.out.cell (p := ⟨q, 2, none⟩) HLT.out.2).trans (HK.out 2 (by decide))
  have k3' := (HB8.out.cell (p := ⟨q, 3, none⟩) HLT.out.2).trans (HK.out 3 (by decide))
  simp only [akc, List.getElem?_cons_zero, List.getElem?_cons_succ] at k0 k1' k2' k3'
  clear hb h4
  go_wp2_with fail
  refine (dc.gotN k1 W8).mono ?_
  rintro e W9 ⟨rfl, hb⟩
  have HB9 := Lib.hid (HB8.out.trans (hb.mono HB8.out.size))
  clear hb k0 k1' k2' k3'
  go_wp2_with fail
  go_ret
  exact ⟨rfl, HB.out.trans (HB9.out.mono HB.out.size)⟩
theorem walk {PS : World → (Nat → Prop) → Nat → Sd → Prop} (dc : Dc PS) (kd0 ds0 : Int) (hn0 : Bool) (ht0 ho0 hr0 hd0 hi0 lx0 ly0 lz0 nm0 : Int) (k1 : Ak) (w : World) :
    Calls Try.prog 7 #[.agg #[.int .i64 kd0, .int .i64 ds0, .bool hn0, .int .i64 ht0, .int .i64 ho0, .int .i64 hr0, .int .i64 hd0, .int .i64 hi0, .int .i64 lx0, .int .i64 ly0, .int .i64 lz0, .int .i64 nm0], .agg #[.int .i64 k1.1, .int .i64 k1.2.1, .int .i64 k1.2.2.1, .int .i64 k1.2.2.2]] w fun e w' => e = .returned (.bool true) ∧ Below w.heap.size w w' := walk0 dc ⟨kd0, ds0, hn0, ht0, ho0, hr0, hd0, hi0, lx0, ly0, lz0, nm0⟩ k1 w

set_option maxRecDepth 100000 in
theorem lifted (os : _root_.Go.Os) (started : os.Started) (H : Type) (enc : TypeId × Value → H) :
    ReturnsInHanded {} Try.checked os 7 .any (Rows.senderNilSpec.pre6 enc Try.prog Try.f7 Rows.senderNilRow.domain false) (Rows.senderNilSpec.post enc Try.prog Try.f7 false true false false) := by
  refine returnsInHanded_of_change (C := Try.checked) own started (by kernel_rfl) Try.func7
    (ChangeSpec.witness6 (enc := enc) (C := Try.checked) false ⟨#[], #[.agg #[.int .i64 0, .int .i64 0, .bool false, .int .i64 0, .int .i64 0, .int .i64 0, .int .i64 0, .int .i64 0, .int .i64 0, .int .i64 0, .int .i64 0, .int .i64 0], .agg #[.int .i64 0, .int .i64 0, .int .i64 0, .int .i64 0]], []⟩ 16 (by kernel_rfl) (by kernel_rfl) (by kernel_rfl) (by kernel_rfl)) ?_
  intro W base args ds gs before hval0 hW hcnd _
  have hval : ∀ (j : Nat) t v, Try.f7.params[j]? = some t → args[j]? = some v → Value.okWide Try.prog W .any base t v := hval0
  have hW' := hW
  obtain ⟨p, q, hA0, hV, rfl, hfz, hnd⟩ := hW
  have hA : DataW.TrodAll enc Try.prog W 0 (fun _ => true) true Try.f7.params.toList args.toList ds p := hA0
  rw [Try.params7] at hA hval
  obtain ⟨v0, vs0, e0, ds0, p0, q0, hargs, rfl, rfl, h0, x0⟩ := trodAll_cons hA
  obtain ⟨v1, vs1, e1, ds1, p1, q1, rfl, rfl, rfl, h1, x1⟩ := trodAll_cons x0
  obtain ⟨rfl, rfl, rfl⟩ := trodAll_nil x1
  obtain rfl : args = #[v0, v1] := by cases args; simp_all
  obtain ⟨rfl, rfl⟩ := trodVars_none hV
  have k0 := h0
  have lt0 : ∀ x ∈ p0, x.block < W.heap.size := by obtain ⟨m, hm⟩ := k0; exact DataW.trod_lt m _ _ _ hm
  obtain ⟨kd0, ds0, hn0, ht0, ho0, hr0, hd0, hi0, lx0, ly0, lz0, nm0, rfl⟩ := ob_form (hval 0 39 v0 rfl rfl) h0
  have k1 := h1
  have lt1 : ∀ x ∈ p1, x.block < W.heap.size := by obtain ⟨m, hm⟩ := k1; exact DataW.trod_lt m _ _ _ hm
  obtain ⟨k1', rfl⟩ := ak_form (hval 1 42 v1 rfl rfl) h1
  clear hA0 hval0
  refine (walk dc kd0 ds0 hn0 ht0 ho0 hr0 hd0 hi0 lx0 ly0 lz0 nm0 k1' W).mono fun e W' ⟨he, bel⟩ => ?_
  subst he
  exact ⟨_, rfl, _, _, _, [], _, [], hW', trodAll_mk1 (shut_bool Try.underlying4 _), (trodAll_cons_mk (Below.trod laidOut (by kernel_rfl) (of_decide_eq_true (by kernel_rfl)) k0 bel lt0) (trodAll_cons_mk (Below.trod laidOut (by kernel_rfl) (of_decide_eq_true (by kernel_rfl)) k1 bel lt1) trodAll_mk0)), rfl, bel.frame _, fun h => by cases h⟩

theorem over : Rows.senderNilRow.holds Try.pinned (OpenSpec.ofChange Rows.senderNilSpec) :=
  OpenClaim.holds_of_wide 7 Try.f7 rfl rfl rfl rfl rfl rfl rfl ⟨rfl, rfl, rfl, rfl, rfl⟩ rfl rfl rfl rfl rfl (by kernel_rfl) Try.func7 (by kernel_rfl)
    (of_decide_eq_true (by kernel_rfl)) (by unfold Func.isWrapper; first | (rw [if_pos (by decide +kernel)]; kernel_rfl) | (rw [if_neg (by decide +kernel)]; exact ⟨rfl, rfl⟩))
    (fun os started H enc _ => lifted os started H enc)

theorem proved : Rows.SenderNilSaid := over
#print axioms proved
end Go.Proofs.Yticjeknadddhoaa.senderNil
