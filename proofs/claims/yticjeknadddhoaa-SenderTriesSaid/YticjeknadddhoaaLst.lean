/- thalweglaw14.SenderTries: for any numbers and object the law answers true; no condition. -/
import Derived.Test.YticjeknadddhoaaSm
import Derived.Test.YticjeknadddhoaaPn
import Derived.WalkLawsBesides
import Derived.WalkKit
import Derived.ProofKit
import Derived.OpenShut
import Derived.ShutString
import Derived.ChangeOld
import Derived.Below
namespace Go.Proofs.Yticjeknadddhoaa.senderTries
open Go.ChangeShapes Go.WideShapes Go.ChangeAt Go.RowKit
open Go.ChangeMaps (open_string shut_string)
set_option linter.unusedVariables false
set_option maxRecDepth 100000

theorem own : ownKnob Try.prog.godebug = none := by kernel_rfl
theorem laidOut : laidOutB Try.prog = true := by kernel_rfl
set_option maxHeartbeats 8000000 in
theorem walk0 {PS : World → (Nat → Prop) → Nat → Sd → Prop} (dc : Dc PS) (a0 : Int) (a1 : Int) (y2 : Ob) (w : World) :
    Calls Try.prog 6 #[.int .i64 a0, .int .i64 a1, .agg #[.int .i64 y2.k, .int .i64 y2.x, .bool y2.n, .int .i64 y2.t, .int .i64 y2.o, .int .i64 y2.r, .int .i64 y2.d, .int .i64 y2.i, .int .i64 y2.p, .int .i64 y2.q, .int .i64 y2.s, .int .i64 y2.m]] w fun e w' => e = .returned (.bool true) ∧ Below w.heap.size w w' := by
  obtain ⟨W1, hW1⟩ : ∃ W1, w.alloc (.cells #[.int .i64 y2.k, .int .i64 y2.x, .bool y2.n, .int .i64 y2.t, .int .i64 y2.o, .int .i64 y2.r, .int .i64 y2.d, .int .i64 y2.i, .int .i64 y2.p, .int .i64 y2.q, .int .i64 y2.s, .int .i64 y2.m] 39) = W1 := ⟨_, rfl⟩
  have hb1 : Below w.heap.size w W1 := hW1 ▸ (Below.refl _ w).alloc (Nat.le_refl _) _
  obtain ⟨p, hp⟩ : ∃ p, w.heap.size = p := ⟨_, rfl⟩
  have hy : C12 W1 p 0 y2 := fun j hj => by
    rw [← hW1, ← hp]
    have h12 : j = 0 ∨ j = 1 ∨ j = 2 ∨ j = 3 ∨ j = 4 ∨ j = 5 ∨ j = 6 ∨ j = 7 ∨ j = 8 ∨ j = 9 ∨ j = 10 ∨ j = 11 := by omega
    rcases h12 with rfl | rfl | rfl | rfl | rfl | rfl | rfl | rfl | rfl | rfl | rfl | rfl <;> simp [Ob.cl]
  have HB : Hid (Below w.heap.size w W1) := hb1
  have HLT : Hid (p < W1.heap.size) := by show p < _; rw [← hp, ← hW1]; simp
  have HY : Hid (C12 W1 p 0 y2) := hy
  have C1 := Lib.hid (dc.new a0 a1 W1)
  have HW1 := Lib.hid hW1
  have HP := Lib.hid hp
  clear hW1 hb1 hp hy
  go_enter Try.func6, Try.ntmps6
  go_upto_region 1 with (fail)
  rw [HW1.out]
  try simp only [HP.out]
  go_wp2_with fail
  refine C1.out.mono ?_
  rintro e W2 ⟨hb2, h2⟩
  have HB2 := Lib.hid (HB.out.trans (hb2.mono HB.out.size))
  rcases h2 with ⟨hn, rfl⟩ | ⟨hn, b, F2, rfl, hp2, hF2⟩
  · clear hn hb2 C1
    go_wp2_with fail
    refine (awake14 dc _).mono ?_
    rintro e W9 ⟨rfl, hb9⟩
    have HB9 := Lib.hid (HB2.out.trans (hb9.mono HB2.out.size))
    clear hb9
    go_wp2_with fail
    go_ret
    exact ⟨rfl, HB9.out⟩
  · have HN := Lib.hid hn
    have X2 : Hid (One PS w W2 F2 b (sd0 a0 a1)) := ⟨hp2, fun k hk => Nat.le_trans HB.out.size (hF2 k hk), HB2.out⟩
    have C2 := Lib.hid (dc.push y2 hp2)
    obtain ⟨u0, u1, u2, u3, u4, u5, u6, u7, u8, u9, u10, u11⟩ : _ := C12.all (w := W2) (b := p) (o := 0) (y := y2) (fun j hj => (hb2.cell (p := ⟨p, 0 + j, none⟩) HLT.out).trans (HY.out j hj))
    simp only [Nat.zero_add] at u0 u1 u2 u3 u4 u5 u6 u7 u8 u9 u10 u11
    clear hn hb2 hp2 hF2 C1
    by_cases hok' : ¬ y2.Ok
    · have hpr : pushR (sd0 a0 a1) y2 = (1, sd0 a0 a1) := by unfold pushR; rw [if_neg hok']
      rw [hpr] at C2
      clear hpr hok'
      go_wp2_with fail
      refine C2.out.mono ?_
      rintro e W3 ⟨rfl, hc3, F3, hp3, hF3⟩
      have HB3 := Lib.hid (X2.out.next hc3 hp3 hF3).bel
      clear hc3 hp3 hF3 C2 u0 u1 u2 u3 u4 u5 u6 u7 u8 u9 u10 u11
      go_wp2_with fail
      refine (awake14 dc _).mono ?_
      rintro e W9 ⟨rfl, hb9⟩
      have HB9 := Lib.hid (HB3.out.trans (hb9.mono HB3.out.size))
      clear hb9
      go_wp2_with fail
      go_ret
      exact ⟨rfl, HB9.out⟩
    have hok : y2.Ok := Classical.not_not.1 hok'
    rw [o1_push hok] at C2
    clear hok' hok
    go_wp2_with fail
    refine C2.out.mono ?_
    rintro e W3 ⟨rfl, hc3, F3, hp3, hF3⟩
    have X3 := Lib.hid (X2.out.next hc3 hp3 hF3)
    have C3 := Lib.hid (dc.send hp3)
    rw [(o1_send HN.out.1.1).1, (o1_send HN.out.1.1).2] at C3
    clear hc3 hp3 hF3 C2 X2 u0 u1 u2 u3 u4 u5 u6 u7 u8 u9 u10 u11
    go_wp2_with fail
    refine C3.out.mono ?_
    rintro e W4 ⟨rl, rfl, hc4, F4, hp4, hF4, hl4'⟩
    have hl4 := hl4'.mono (F := F4) (fun k h => .inl h)
    clear hl4'
    obtain ⟨al, cl, rfl⟩ := hl4.form
    have X4 := Lib.hid (X3.out.next hc4 hp4 hF4)
    have HL4 := Lib.hid hl4
    clear hc4 hp4 hF4 hl4 C3 X3
    go_wp2_with fail
    go_loopw [10] (fun iv wr => ∃ (k : Nat) (F : Nat → Prop), 1 ≤ k ∧ (k : Int) ≤ a1 ∧ iv = .int .i64 k ∧ Hid (One PS w wr F b (o1 a0 a1 y2 k)) ∧ Hid (BtsO wr F (.slice al [((0 : Int), [y2])].length cl) [(0, [y2])])) (fun i _ => a1.toNat - (intOf i).toNat)
    case atStart => exact ⟨1, F4, Nat.le_refl _, HN.out.2.1, rfl, X4.out, HL4.out⟩
    case round =>
      obtain ⟨k, F, hk1, hk2, rfl, X, HL⟩ := hrel
      have HK2 := Lib.hid (And.intro hk1 hk2)
      by_cases hlt : (k : Int) < a1
      · have C5 := Lib.hid (dc.again X.out.ps)
        rw [(o1_more hlt).1, (o1_more hlt).2.1, (o1_more hlt).2.2] at C5
        go_wp2_with fail
        refine C5.out.mono ?_
        rintro e W5 ⟨rm, rfl, hc5, F5, hp5, hF5, hm5⟩
        obtain ⟨am, cm, rfl⟩ := hm5.form
        have X5 := Lib.hid (X.out.next hc5 hp5 hF5)
        have HL5 := Lib.hid (HL.out.step hc5 hF5)
        have C6 := Lib.hid (bsame_any _ _ _ _ W5 HL5.out.bts hm5.bts (show 1 ≤ 3000 by decide) (fun i hi => by
          have hi' : i < 1 := hi
          obtain rfl : i = 0 := by omega
          show 1 ≤ 3000
          decide))
        clear hc5 hp5 hF5 hm5 C5 X HL
        go_wp2_with fail
        refine C6.out.mono ?_
        rintro e W6 ⟨⟨bb, rfl, hbb⟩, hb6⟩
        obtain rfl : bb = true := hbb.2 trivial
        have X6 := Lib.hid (X5.out.below dc hb6)
        have HL6 := Lib.hid (HL5.out.below hb6)
        have hwk : IntKind.i64.wrap ((k : Int) + 1) = (k : Int) + 1 := by have := HN.out.2.2; rw [IntKind.wrap_i64]; omega
        clear hbb hb6 C6 X5 HL5
        go_wp2_with fail
        go_roundw
        case rel => exact ⟨k + 1, F5, by omega, by omega, by go_num, by have h := X6.out; exact_mod_cast h, HL6.out⟩
        case measure => simp [intOf]; omega
      · obtain rfl : a1 = (k : Int) := by omega
        have C5 := Lib.hid (dc.again X.out.ps)
        rw [(o1_end hlt).1, (o1_end hlt).2.1, (o1_end hlt).2.2] at C5
        go_wp2_with fail
        refine C5.out.mono ?_
        rintro e W5 ⟨rm, rfl, hc5, F5, hp5, hF5, hm5⟩
        obtain ⟨am, cm, rfl⟩ := hm5.form
        have X5 := Lib.hid (X.out.next hc5 hp5 hF5)
        have C6 := Lib.hid (dc.got (0, 0, 2, 0) hp5)
        rw [(o1_far a0 (k : Int) y2 _).1, (o1_far a0 (k : Int) y2 _).2] at C6
        clear hc5 hp5 hF5 hm5 C5 X HL
        go_wp2_with fail
        refine C6.out.mono ?_
        rintro e W6 ⟨rfl, hc6, F6, hp6, hF6⟩
        have X6 := Lib.hid (X5.out.next hc6 hp6 hF6)
        have C7 := Lib.hid (dc.got (0, 0, 1, 0) hp6)
        rw [(o1_got a0 (k : Int) y2 _).1, (o1_got a0 (k : Int) y2 _).2] at C7
        clear hc6 hp6 hF6 C6 X5
        go_wp2_with fail
        refine C7.out.mono ?_
        rintro e W7 ⟨rfl, hc7, F7, hp7, hF7⟩
        have X7 := Lib.hid (X6.out.next hc7 hp7 hF7)
        have C8 := Lib.hid (dc.again hp7)
        rw [(o0_again a0 (k : Int)).1, (o0_again a0 (k : Int)).2.2] at C8
        clear hc7 hp7 hF7 C7 X6
        go_wp2_with fail
        refine C8.out.mono ?_
        rintro e W8 ⟨rf, rfl, hc8, F8, hp8, hF8, -⟩
        have X8 := Lib.hid (X7.out.next hc8 hp8 hF8)
        clear hc8 hp8 hF8 C8 X7
        go_wp2_with fail
        refine (awake14 dc W8).mono ?_
        rintro e W9 ⟨rfl, hb9⟩
        have X9 := Lib.hid (X8.out.below dc hb9)
        have C10 := Lib.hid (dc.out X9.out.ps)
        rw [show (o0 a0 (k : Int)).out = [] from rfl] at C10
        clear hb9 X8
        go_wp2_with fail
        refine C10.out.mono ?_
        rintro e W10 ⟨ro, rfl, hc10, F10, hp10, hF10, ho10⟩
        obtain ⟨ao, co, rfl⟩ := ho10.form
        have HB10 := Lib.hid (X9.out.next hc10 hp10 hF10).bel
        clear hc10 hp10 hF10 ho10 C10 X9
        go_wp2_with fail
        go_ret
        exact ⟨rfl, HB10.out⟩
theorem walk {PS : World → (Nat → Prop) → Nat → Sd → Prop} (dc : Dc PS) (a0 : Int) (w0 : I64 a0) (a1 : Int) (w1 : I64 a1) (kd2 ds2 : Int) (hn2 : Bool) (ht2 ho2 hr2 hd2 hi2 lx2 ly2 lz2 nm2 : Int) (w : World) :
    Calls Try.prog 6 #[.int .i64 a0, .int .i64 a1, .agg #[.int .i64 kd2, .int .i64 ds2, .bool hn2, .int .i64 ht2, .int .i64 ho2, .int .i64 hr2, .int .i64 hd2, .int .i64 hi2, .int .i64 lx2, .int .i64 ly2, .int .i64 lz2, .int .i64 nm2]] w fun e w' => e = .returned (.bool true) ∧ Below w.heap.size w w' := walk0 dc a0 a1 ⟨kd2, ds2, hn2, ht2, ho2, hr2, hd2, hi2, lx2, ly2, lz2, nm2⟩ w

set_option maxRecDepth 100000 in
theorem lifted (os : _root_.Go.Os) (started : os.Started) (H : Type) (enc : TypeId × Value → H) :
    ReturnsInHanded {} Try.checked os 6 .any (Rows.senderTriesSpec.pre6 enc Try.prog Try.f6 Rows.senderTriesRow.domain false) (Rows.senderTriesSpec.post enc Try.prog Try.f6 false true false false) := by
  refine returnsInHanded_of_change (C := Try.checked) own started (by kernel_rfl) Try.func6
    (ChangeSpec.witness6 (enc := enc) (C := Try.checked) false ⟨#[], #[.int .i64 0, .int .i64 0, .agg #[.int .i64 0, .int .i64 0, .bool false, .int .i64 0, .int .i64 0, .int .i64 0, .int .i64 0, .int .i64 0, .int .i64 0, .int .i64 0, .int .i64 0, .int .i64 0]], []⟩ 16 (by kernel_rfl) (by kernel_rfl) (by kernel_rfl) (by kernel_rfl)) ?_
  intro W base args ds gs before hval0 hW hcnd _
  have hval : ∀ (j : Nat) t v, Try.f6.params[j]? = some t → args[j]? = some v → Value.okWide Try.prog W .any base t v := hval0
  have hW' := hW
  obtain ⟨p, q, hA0, hV, rfl, hfz, hnd⟩ := hW
  have hA : DataW.TrodAll enc Try.prog W 0 (fun _ => true) true Try.f6.params.toList args.toList ds p := hA0
  rw [Try.params6] at hA hval
  obtain ⟨v0, vs0, e0, ds0, p0, q0, hargs, rfl, rfl, h0, x0⟩ := trodAll_cons hA
  obtain ⟨v1, vs1, e1, ds1, p1, q1, rfl, rfl, rfl, h1, x1⟩ := trodAll_cons x0
  obtain ⟨v2, vs2, e2, ds2, p2, q2, rfl, rfl, rfl, h2, x2⟩ := trodAll_cons x1
  obtain ⟨rfl, rfl, rfl⟩ := trodAll_nil x2
  obtain rfl : args = #[v0, v1, v2] := by cases args; simp_all
  obtain ⟨rfl, rfl⟩ := trodVars_none hV
  have k0 := h0
  have lt0 : ∀ x ∈ p0, x.block < W.heap.size := by obtain ⟨m, hm⟩ := k0; exact DataW.trod_lt m _ _ _ hm
  obtain ⟨a0, rfl, _, _, w0⟩ := open_int Try.underlying3 (hval 0 3 v0 rfl rfl) h0
  have k1 := h1
  have lt1 : ∀ x ∈ p1, x.block < W.heap.size := by obtain ⟨m, hm⟩ := k1; exact DataW.trod_lt m _ _ _ hm
  obtain ⟨a1, rfl, _, _, w1⟩ := open_int Try.underlying3 (hval 1 3 v1 rfl rfl) h1
  have k2 := h2
  have lt2 : ∀ x ∈ p2, x.block < W.heap.size := by obtain ⟨m, hm⟩ := k2; exact DataW.trod_lt m _ _ _ hm
  obtain ⟨kd2, ds2, hn2, ht2, ho2, hr2, hd2, hi2, lx2, ly2, lz2, nm2, rfl⟩ := ob_form (hval 2 39 v2 rfl rfl) h2
  clear hA0 hval0
  refine (walk dc a0 (i64_wf w0) a1 (i64_wf w1) kd2 ds2 hn2 ht2 ho2 hr2 hd2 hi2 lx2 ly2 lz2 nm2 W).mono fun e W' ⟨he, bel⟩ => ?_
  subst he
  exact ⟨_, rfl, _, _, _, [], _, [], hW', trodAll_mk1 (shut_bool Try.underlying4 _), (trodAll_cons_mk (Below.trod laidOut (by kernel_rfl) (of_decide_eq_true (by kernel_rfl)) k0 bel lt0) (trodAll_cons_mk (Below.trod laidOut (by kernel_rfl) (of_decide_eq_true (by kernel_rfl)) k1 bel lt1) (trodAll_cons_mk (Below.trod laidOut (by kernel_rfl) (of_decide_eq_true (by kernel_rfl)) k2 bel lt2) trodAll_mk0))), rfl, bel.frame _, fun h => by cases h⟩

theorem over : Rows.senderTriesRow.holds Try.pinned (OpenSpec.ofChange Rows.senderTriesSpec) :=
  OpenClaim.holds_of_wide 6 Try.f6 rfl rfl rfl rfl rfl rfl rfl ⟨rfl, rfl, rfl, rfl, rfl⟩ rfl rfl rfl rfl rfl (by kernel_rfl) Try.func6 (by kernel_rfl)
    (of_decide_eq_true (by kernel_rfl)) (by unfold Func.isWrapper; first | (rw [if_pos (by decide +kernel)]; kernel_rfl) | (rw [if_neg (by decide +kernel)]; exact ⟨rfl, rfl⟩))
    (fun os started H enc _ => lifted os started H enc)

theorem proved : Rows.SenderTriesSaid := over
#print axioms proved
end Go.Proofs.Yticjeknadddhoaa.senderTries
