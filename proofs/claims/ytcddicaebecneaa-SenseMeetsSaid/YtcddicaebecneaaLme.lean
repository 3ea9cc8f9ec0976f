/- thalweglaw13.SenseMeets: for any numbers the law answers true; no condition. -/
import Derived.Test.YtcddicaebecneaaSaw
import Derived.Test.YtcddicaebecneaaPom
import Derived.WalkLawsBesides
import Derived.WalkKit
import Derived.ProofKit
import Derived.OpenShut
import Derived.ShutString
import Derived.ChangeOld
import Derived.Below
namespace Go.Proofs.Ytcddicaebecneaa.senseMeets
open Go.ChangeShapes Go.WideShapes Go.ChangeAt Go.RowKit
open Go.ChangeMaps (open_string shut_string)
set_option linter.unusedVariables false
set_option maxRecDepth 100000

theorem own : ownKnob Try.prog.godebug = none := by kernel_rfl
theorem laidOut : laidOutB Try.prog = true := by kernel_rfl
theorem off_of {F G : Nat → Prop} {w : World} {v : Value} {l : List Ev} (he : Evs w v l) (hl : l ≠ []) (h : ∀ g, v.ownBlock = some g → ¬ F g ∧ ¬ G g) : ∀ g, v.ownBlock = some g → g < w.heap.size ∧ ¬ F g ∧ ¬ G g := fun g hg => by
  refine ⟨?_, h g hg⟩
  rcases he with ⟨a, cap, -, -, e⟩ | ⟨b, off, cap, rfl, -, h3, -⟩
  · exact absurd e hl
  · cases hg
    exact h3
set_option maxHeartbeats 16000000 in
theorem walk0 (a0 a1 a2 a3 a4 a5 : Int) (w : World) : Calls Try.prog 5 #[.int .i64 a0, .int .i64 a1, .int .i64 a2, .int .i64 a3, .int .i64 a4, .int .i64 a5] w fun e w' => e = .returned (.bool true) ∧ Below w.heap.size w w' := by
  have C1 := Lib.hid (sc.new a0 a2 a4 w)
  go_enter Try.func5, Try.ntmps5
  go_wp2_with fail
  refine C1.out.mono ?_
  rintro e W1 ⟨hb1, h1⟩
  have HB1 := Lib.hid hb1
  have C2 := Lib.hid (sc.new a1 a3 a5 W1)
  clear hb1 C1
  rcases h1 with ⟨hn, rfl⟩ | ⟨hs, b, F1, rfl, hp1, hF1⟩
  · clear hn
    go_wp2_with fail
    refine C2.out.mono ?_
    rintro e W2 ⟨hb2, h2⟩
    have HB2 := Lib.hid (HB1.out.trans (hb2.mono HB1.out.size))
    clear hb2 C2
    rcases h2 with ⟨hn, rfl⟩ | ⟨ht, c, G1, rfl, hp2, hG1⟩
    · clear hn
      go_wp2_with fail
      refine (awake13 sc _).mono ?_
      rintro e W9 ⟨rfl, hb9⟩
      have HB9 := Lib.hid (HB2.out.trans (hb9.mono HB2.out.size))
      clear hb9
      go_wp2_with fail
      go_ret
      exact ⟨rfl, HB9.out⟩
    · clear ht hp2 hG1
      go_wp2_with fail
      refine (awake13 sc _).mono ?_
      rintro e W9 ⟨rfl, hb9⟩
      have HB9 := Lib.hid (HB2.out.trans (hb9.mono HB2.out.size))
      clear hb9
      go_wp2_with fail
      go_ret
      exact ⟨rfl, HB9.out⟩
  · have HS := Lib.hid hs
    have HP1 := Lib.hid (And.intro hp1 hF1)
    clear hs hp1 hF1
    go_wp2_with fail
    refine C2.out.mono ?_
    rintro e W2 ⟨hb2, h2⟩
    have HB2 := Lib.hid (HB1.out.trans (hb2.mono HB1.out.size))
    rcases h2 with ⟨hn, rfl⟩ | ⟨ht, c, G1, rfl, hp2, hG1⟩
    · clear hn hb2 C2
      go_wp2_with fail
      refine (awake13 sc _).mono ?_
      rintro e W9 ⟨rfl, hb9⟩
      have HB9 := Lib.hid (HB2.out.trans (hb9.mono HB2.out.size))
      clear hb9
      go_wp2_with fail
      go_ret
      exact ⟨rfl, HB9.out⟩
    have HT := Lib.hid ht
    have X1 : Hid (Two PS w W2 F1 b (sn0 a0 a2 a4) G1 c (sn0 a1 a3 a5)) := ⟨sc.keep HP1.out.1 (G := fun _ => False) (chg0 hb2) (fun _ _ g => g), hp2, fun k hk hg => by have h1 := sc.lt HP1.out.1 k hk; have h2 := hG1 k hg; omega, HP1.out.2, fun k hk => by have h1 := hG1 k hk; have h2 := HB1.out.size; omega, HB2.out⟩
    clear ht hp2 hG1 hb2 C2
    by_cases hab : a0 = a1
    · subst hab
      go_wp2_with fail
      refine (awake13 sc _).mono ?_
      rintro e W9 ⟨rfl, hb9⟩
      have HB9 := Lib.hid (HB2.out.trans (hb9.mono HB2.out.size))
      clear hb9
      go_wp2_with fail
      go_ret
      exact ⟨rfl, HB9.out⟩
    obtain ⟨m1, m2, m3, m4, m5, m6, ⟨m7, m8, m9⟩, ⟨n1, n2, n3⟩, n4, n5⟩ := meets HS.out HT.out hab
    have HWW : Hid (IntKind.i64.wrap (a4 + 1) = a4 + 1) := by
      show IntKind.i64.wrap (a4 + 1) = a4 + 1
      have h1 := HS.out.2.2.2.1; have h2 := HS.out.2.2.2.2; rw [IntKind.wrap_i64]; omega
    have hab2 : (a0 == a1) = false := by simpa using hab
    have M1 := Lib.hid m1
    have M2 := Lib.hid m2
    have M3 := Lib.hid m3
    have M4 := Lib.hid m4
    have M5 := Lib.hid m5
    have M6 := Lib.hid m6
    have M7 := Lib.hid (And.intro m7 (And.intro m8 m9))
    have M8 := Lib.hid (And.intro n1 (And.intro n2 n3))
    have M9 := Lib.hid (And.intro n4 n5)
    clear m1 m2 m3 m4 m5 m6 m7 m8 m9 n1 n2 n3 n4 n5 hab
    go_wp2_with fail
    refine (sc.beacon X1.out.l).mono ?_
    rintro e W3 ⟨vW3, rfl, he, hc, F2, hp, hF, -⟩
    rw [M1.out] at he
    obtain ⟨avW3, cvW3, rfl⟩ := he.1.form
    have X2 := Lib.hid (X1.out.next sc hc hp hF)
    have HEW3 := Lib.hid he
    clear hc hp hF he
    clear hab2
    have C3 := Lib.hid (sc.hear 0 a0 a2 _ [] X2.out.swap.l HEW3.out (by decide))
    rw [M2.out] at C3
    go_wp2_with fail
    refine C3.out.mono ?_
    rintro e W4 ⟨r4, rfl, -, hc, G2, hp, hF, -⟩
    have X3 := Lib.hid (X2.out.swap.next sc hc hp hF)
    clear hc hp hF C3 X1 X2 HEW3
    go_wp2_with fail
    refine (sc.beacon X3.out.l).mono ?_
    rintro e W5 ⟨v5, rfl, he, hc, G3, hp, hF, -⟩
    rw [M3.out] at he
    obtain ⟨av5, cv5, rfl⟩ := he.1.form
    have X4 := Lib.hid (X3.out.next sc hc hp hF)
    have C5 := Lib.hid (sc.hear 0 a1 a3 _ [(a0, a2)] X4.out.swap.l he (show 1 ≤ 1000 by decide))
    rw [M4.out] at C5
    clear hc hp hF he
    go_wp2_with fail
    refine C5.out.mono ?_
    rintro e W6 ⟨rx, rfl, hex, hc, F3, hp, hF, hox⟩
    obtain ⟨ax, cx, rfl⟩ := hex.form
    have X5 := Lib.hid (X4.out.swap.next sc hc hp hF)
    have HOX := Lib.hid (off_of (F := F3) (G := G3) hex (List.cons_ne_nil _ _) (fun g hg => ⟨(hox g hg).2, fun h2 => by have h3 := sc.lt X4.out.l g h2; have h4 := (hox g hg).1; omega⟩))
    have HEX := Lib.hid hex
    clear hc hp hF hex hox C5 X3 X4
    go_wp2_with fail
    refine (sc.beacon X5.out.l).mono ?_
    rintro e W7 ⟨v7, rfl, he, hc, F4, hp, hF, -⟩
    rw [M5.out] at he
    obtain ⟨av7, cv7, rfl⟩ := he.1.form
    have X6 := Lib.hid (X5.out.next sc hc hp hF)
    have HEX7 := Lib.hid (evs_off HEX.out hc (fun g hg => (HOX.out g hg).2.1))
    have HOX7 : Hid (∀ g, (Value.slice ax [((1 : Int), a1, a3)].length cx).ownBlock = some g → ¬ G3 g) := fun g hg => (HOX.out g hg).2.2
    have C7 := Lib.hid (sc.hear 0 a0 a2 _ [(a1, a3)] X6.out.swap.l he (show 1 ≤ 1000 by decide))
    rw [M6.out] at C7
    clear hc hp hF he HEX HOX
    go_wp2_with fail
    refine C7.out.mono ?_
    rintro e W8 ⟨ry, rfl, hey, hc, G4, hp, hF, -⟩
    obtain ⟨ay, cy, rfl⟩ := hey.form
    have X7 := Lib.hid (X6.out.swap.next sc hc hp hF)
    have HEX8 := Lib.hid (evs_off HEX7.out hc HOX7.out)
    have HEY := Lib.hid hey
    clear hc hp hF hey C7 X5 X6 HEX7 HOX7
    obtain ⟨U1, hU1⟩ : ∃ U1, W8.alloc (.cells #[.int .i64 1, .int .i64 a1, .int .i64 a3] 49) = U1 := ⟨_, rfl⟩
    have hbu : Below W8.heap.size W8 U1 := hU1 ▸ (Below.refl _ W8).alloc (Nat.le_refl _) _
    have hnu : Evs U1 (.slice (some ⟨W8.heap.size, 0, none⟩) 1 1) [(1, a1, a3)] := hU1 ▸ ev_new W8 (1, a1, a3)
    have C8 := Lib.hid (revs_any _ _ _ _ U1 (HEX8.out.below hbu) hnu (show 1 ≤ 3000 by decide))
    have HEY1 := Lib.hid (HEY.out.below hbu)
    have X8 := Lib.hid (X7.out.below sc hbu)
    rw [decide_eq_true rfl] at C8
    clear hbu hnu HEX8 HEY X7
    go_wp2_with fail
    refine C8.out.mono ?_
    rintro e W9 ⟨rfl, hb9⟩
    have HEY2 := Lib.hid (HEY1.out.below hb9)
    have X9 := Lib.hid (X8.out.below sc hb9)
    clear hb9 hU1 C8 X8 HEY1
    obtain ⟨U2, hU2⟩ : ∃ U2, W9.alloc (.cells #[.int .i64 1, .int .i64 a0, .int .i64 a2] 49) = U2 := ⟨_, rfl⟩
    have hbu : Below W9.heap.size W9 U2 := hU2 ▸ (Below.refl _ W9).alloc (Nat.le_refl _) _
    have hnu : Evs U2 (.slice (some ⟨W9.heap.size, 0, none⟩) 1 1) [(1, a0, a2)] := hU2 ▸ ev_new W9 (1, a0, a2)
    have C9 := Lib.hid (revs_any _ _ _ _ U2 (HEY2.out.below hbu) hnu (show 1 ≤ 3000 by decide))
    have X10 := Lib.hid (X9.out.below sc hbu)
    rw [decide_eq_true rfl] at C9
    clear hbu hnu HEY2 X9
    go_wp2_with fail
    refine C9.out.mono ?_
    rintro e W10 ⟨rfl, hb10⟩
    have X11 := Lib.hid (X10.out.below sc hb10)
    clear hb10 hU2 C9 X10
    have C10 := Lib.hid (sc.tick a4 X11.out.swap.l)
    rw [M7.out.1, M7.out.2.1, M7.out.2.2] at C10
    go_wp2_with fail
    refine C10.out.mono ?_
    rintro e W11 ⟨ru, rfl, heu, hc, F5, hp, hF, -⟩
    obtain ⟨au, cu, rfl⟩ := heu.form
    have X12 := Lib.hid (X11.out.swap.next sc hc hp hF)
    clear hc hp hF heu C10 X11
    have hww := HWW.out
    have C11 := Lib.hid (sc.tick (a4 + 1) X12.out.l)
    rw [M8.out.1, M8.out.2.1, M8.out.2.2] at C11
    go_wp2_with fail
    refine C11.out.mono ?_
    rintro e W12 ⟨rv, rfl, hev, hc, F6, hp, hF, -⟩
    obtain ⟨av, cv, rfl⟩ := hev.form
    have X13 := Lib.hid (X12.out.next sc hc hp hF)
    have HEV := Lib.hid hev
    clear hc hp hF hev C11 X12 hww
    go_wp2_with fail
    refine (awake13 sc W12).mono ?_
    rintro e W13 ⟨rfl, hb13⟩
    have X14 := Lib.hid (X13.out.below sc hb13)
    have HEV1 := Lib.hid (HEV.out.below hb13)
    clear hb13 X13 HEV
    obtain ⟨U3, hU3⟩ : ∃ U3, W13.alloc (.cells #[.int .i64 2, .int .i64 a1, .int .i64 a3] 49) = U3 := ⟨_, rfl⟩
    have hbu : Below W13.heap.size W13 U3 := hU3 ▸ (Below.refl _ W13).alloc (Nat.le_refl _) _
    have hnu : Evs U3 (.slice (some ⟨W13.heap.size, 0, none⟩) 1 1) [(2, a1, a3)] := hU3 ▸ ev_new W13 (2, a1, a3)
    have C12 := Lib.hid (revs_any _ _ _ _ U3 (HEV1.out.below hbu) hnu (show 1 ≤ 3000 by decide))
    have X15 := Lib.hid (X14.out.below sc hbu)
    rw [decide_eq_true rfl] at C12
    clear hbu hnu HEV1 X14
    go_wp2_with fail
    refine C12.out.mono ?_
    rintro e W14 ⟨rfl, hb14⟩
    have X16 := Lib.hid (X15.out.below sc hb14)
    clear hb14 hU3 C12 X15
    have C13 := Lib.hid (sc.links X16.out.l)
    rw [M9.out.1] at C13
    go_wp2_with fail
    refine C13.out.mono ?_
    rintro e W15 ⟨rl, rfl, hel, hc, F7, hp, hF, -⟩
    obtain ⟨al, cl, rfl⟩ := hel.form
    have X17 := Lib.hid (X16.out.next sc hc hp hF)
    clear hc hp hF hel C13 X16
    have C14 := Lib.hid (sc.links X17.out.swap.l)
    rw [M9.out.2] at C14
    go_wp2_with fail
    refine C14.out.mono ?_
    rintro e W16 ⟨rm, rfl, hem, hc, G5, hp, hF, -⟩
    obtain ⟨am, cm, rfl⟩ := hem.form
    have X18 := Lib.hid (X17.out.swap.next sc hc hp hF)
    clear hc hp hF hem C14 X17
    go_wp2_with fail
    go_ret
    exact ⟨rfl, X18.out.bel⟩
theorem walk (a0 : Int) (w0 : I64 a0) (a1 : Int) (w1 : I64 a1) (a2 : Int) (w2 : I64 a2) (a3 : Int) (w3 : I64 a3) (a4 : Int) (w4 : I64 a4) (a5 : Int) (w5 : I64 a5) (w : World) : Calls Try.prog 5 #[.int .i64 a0, .int .i64 a1, .int .i64 a2, .int .i64 a3, .int .i64 a4, .int .i64 a5] w fun e w' => e = .returned (.bool true) ∧ Below w.heap.size w w' := walk0 a0 a1 a2 a3 a4 a5 w

set_option maxRecDepth 100000 in
theorem lifted (os : _root_.Go.Os) (started : os.Started) (H : Type) (enc : TypeId × Value → H) :
    ReturnsInHanded {} Try.checked os 5 .any (Rows.senseMeetsSpec.pre6 enc Try.prog Try.f5 Rows.senseMeetsRow.domain false) (Rows.senseMeetsSpec.post enc Try.prog Try.f5 false true false false) := by
  refine returnsInHanded_of_change (C := Try.checked) own started (by kernel_rfl) Try.func5
    (ChangeSpec.witness6 (enc := enc) (C := Try.checked) false ⟨#[], #[.int .i64 0, .int .i64 0, .int .i64 0, .int .i64 0, .int .i64 0, .int .i64 0], []⟩ 16 (by kernel_rfl) (by kernel_rfl) (by kernel_rfl) (by kernel_rfl)) ?_
  intro W base args ds gs before hval0 hW hcnd _
  have hval : ∀ (j : Nat) t v, Try.f5.params[j]? = some t → args[j]? = some v → Value.okWide Try.prog W .any base t v := hval0
  have hW' := hW
  obtain ⟨p, q, hA0, hV, rfl, hfz, hnd⟩ := hW
  have hA : DataW.TrodAll enc Try.prog W 0 (fun _ => true) true Try.f5.params.toList args.toList ds p := hA0
  rw [Try.params5] at hA hval
  obtain ⟨v0, vs0, e0, ds0, p0, q0, hargs, rfl, rfl, h0, x0⟩ := trodAll_cons hA
  obtain ⟨v1, vs1, e1, ds1, p1, q1, rfl, rfl, rfl, h1, x1⟩ := trodAll_cons x0
  obtain ⟨v2, vs2, e2, ds2, p2, q2, rfl, rfl, rfl, h2, x2⟩ := trodAll_cons x1
  obtain ⟨v3, vs3, e3, ds3, p3, q3, rfl, rfl, rfl, h3, x3⟩ := trodAll_cons x2
  obtain ⟨v4, vs4, e4, ds4, p4, q4, rfl, rfl, rfl, h4, x4⟩ := trodAll_cons x3
  obtain ⟨v5, vs5, e5, ds5, p5, q5, rfl, rfl, rfl, h5, x5⟩ := trodAll_cons x4
  obtain ⟨rfl, rfl, rfl⟩ := trodAll_nil x5
  obtain rfl : args = #[v0, v1, v2, v3, v4, v5] := by cases args; simp_all
  obtain ⟨rfl, rfl⟩ := trodVars_none hV
  have k0 := h0
  have lt0 : ∀ x ∈ p0, x.block < W.heap.size := by obtain ⟨m, hm⟩ := k0; exact DataW.trod_lt m _ _ _ hm
  obtain ⟨a0, rfl, _, _, w0⟩ := open_int Try.underlying3 (hval 0 3 v0 rfl rfl) h0
  have k1 := h1
  have lt1 : ∀ x ∈ p1, x.block < W.heap.size := by obtain ⟨m, hm⟩ := k1; exact DataW.trod_lt m _ _ _ hm
  obtain ⟨a1, rfl, _, _, w1⟩ := open_int Try.underlying3 (hval 1 3 v1 rfl rfl) h1
  have k2 := h2
  have lt2 : ∀ x ∈ p2, x.block < W.heap.size := by obtain ⟨m, hm⟩ := k2; exact DataW.trod_lt m _ _ _ hm
  obtain ⟨a2, rfl, _, _, w2⟩ := open_int Try.underlying3 (hval 2 3 v2 rfl rfl) h2
  have k3 := h3
  have lt3 : ∀ x ∈ p3, x.block < W.heap.size := by obtain ⟨m, hm⟩ := k3; exact DataW.trod_lt m _ _ _ hm
  obtain ⟨a3, rfl, _, _, w3⟩ := open_int Try.underlying3 (hval 3 3 v3 rfl rfl) h3
  have k4 := h4
  have lt4 : ∀ x ∈ p4, x.block < W.heap.size := by obtain ⟨m, hm⟩ := k4; exact DataW.trod_lt m _ _ _ hm
  obtain ⟨a4, rfl, _, _, w4⟩ := open_int Try.underlying3 (hval 4 3 v4 rfl rfl) h4
  have k5 := h5
  have lt5 : ∀ x ∈ p5, x.block < W.heap.size := by obtain ⟨m, hm⟩ := k5; exact DataW.trod_lt m _ _ _ hm
  obtain ⟨a5, rfl, _, _, w5⟩ := open_int Try.underlying3 (hval 5 3 v5 rfl rfl) h5
  clear hA0 hval0
  refine (walk a0 (i64_wf w0) a1 (i64_wf w1) a2 (i64_wf w2) a3 (i64_wf w3) a4 (i64_wf w4) a5 (i64_wf w5) W).mono fun e W' ⟨he, bel⟩ => ?_
  subst he
  exact ⟨_, rfl, _, _, _, [], _, [], hW', trodAll_mk1 (shut_bool Try.underlying4 _), (trodAll_cons_mk (Below.trod laidOut (by kernel_rfl) (of_decide_eq_true (by kernel_rfl)) k0 bel lt0) (trodAll_cons_mk (Below.trod laidOut (by kernel_rfl) (of_decide_eq_true (by kernel_rfl)) k1 bel lt1) (trodAll_cons_mk (Below.trod laidOut (by kernel_rfl) (of_decide_eq_true (by kernel_rfl)) k2 bel lt2) (trodAll_cons_mk (Below.trod laidOut (by kernel_rfl) (of_decide_eq_true (by kernel_rfl)) k3 bel lt3) (trodAll_cons_mk (Below.trod laidOut (by kernel_rfl) (of_decide_eq_true (by kernel_rfl)) k4 bel lt4) (trodAll_cons_mk (Below.trod laidOut (by kernel_rfl) (of_decide_eq_true (by kernel_rfl)) k5 bel lt5) trodAll_mk0)))))), rfl, bel.frame _, fun h => by cases h⟩

theorem over : Rows.senseMeetsRow.holds Try.pinned (OpenSpec.ofChange Rows.senseMeetsSpec) :=
  OpenClaim.holds_of_wide 5 Try.f5 rfl rfl rfl rfl rfl rfl rfl ⟨rfl, rfl, rfl, rfl, rfl⟩ rfl rfl rfl rfl rfl (by kernel_rfl) Try.func5 (by kernel_rfl)
    (of_decide_eq_true (by kernel_rfl)) (by unfold Func.isWrapper; first | (rw [if_pos (by decide +kernel)]; kernel_rfl) | (rw [if_neg (by decide +kernel)]; exact ⟨rfl, rfl⟩))
    (fun os started H enc _ => lifted os started H enc)

theorem proved : Rows.SenseMeetsSaid := over
#print axioms proved
end Go.Proofs.Ytcddicaebecneaa.senseMeets
