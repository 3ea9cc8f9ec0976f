/- thalweglaw11.WheelLast: for any script of calls, a key and two times the law answers true; no condition. -/
import Derived.Test.YtmgipedpggpkoaaWmt
import Derived.Test.YtmgipedpggpkoaaWpg
import Derived.WalkLawsBesides
import Derived.WalkKit
import Derived.ProofKit
import Derived.OpenShut
import Derived.ShutString
import Derived.ChangeOld
import Derived.Below
namespace Go.Proofs.Ytmgipedpggpkoaa.wheelLast
open Go.ChangeShapes Go.WideShapes Go.ChangeAt Go.RowKit
open Go.ChangeMaps (open_string shut_string)
set_option linter.unusedVariables false
set_option maxRecDepth 100000

theorem own : ownKnob Try.prog.godebug = none := by kernel_rfl
theorem laidOut : laidOutB Try.prog = true := by kernel_rfl
set_option maxHeartbeats 16000000 in
theorem walk {WSt : World → (Nat → Prop) → Nat → List Tm → Prop} (hc : Wc WSt) (a0 : Option Addr) (cap0 : Nat) (z0 : List OpT) (a1 : Int) (w1 : I64 a1) (a2 : Int) (w2 : I64 a2) (a3 : Int) (w3 : I64 a3) (w : World) (w0 : Sc w (.slice a0 z0.length cap0) z0) (q0 : OpsW z0):
    Calls Try.prog 5 #[.slice a0 z0.length cap0, .int .i64 a1, .int .i64 a2, .int .i64 a3] w fun e w' => e = .returned (.bool true) ∧ Below w.heap.size w w' := by
  have C1 := Lib.hid (hc.news w)
  have HK := Lib.hid w0
  have HOW := Lib.hid q0
  clear w0 q0
  go_enter Try.func5, Try.ntmps5
  go_wp2_with fail
  refine C1.out.mono ?_
  rintro e W1 ⟨b, rfl, hq, -⟩
  have HQ := Lib.hid hq
  clear hq C1
  by_cases hl : (100 : Int) < (z0.length : Int)
  · have hd : decide ((100 : Int) < (z0.length : Int)) = true := decide_eq_true hl
    have C9 := Lib.hid (awake11 hc W1)
    go_wp2_with fail
    refine C9.out.mono ?_
    rintro e W9 ⟨rfl, hb⟩
    have HB9 := Lib.hid (HQ.out.bel.trans (hb.mono HQ.out.bel.size))
    clear hb C9
    go_wp2_with fail
    go_ret
    exact ⟨rfl, HB9.out⟩
  · have hd : decide ((100 : Int) < (z0.length : Int)) = false := decide_eq_false hl
    have hl2 : z0.length ≤ 100 := by omega
    clear hl
    go_wp2_with fail
    clear hd
    go_loopw [10] (fun i wr => ∃ (k : Nat) (L : List Tm), k ≤ z0.length ∧ i = .int .i64 k ∧ WS WSt w wr (fun _ => False) b L) (fun i _ => z0.length - (intOf i).toNat)
    case atStart => exact ⟨0, [], Nat.zero_le _, rfl, HQ.out⟩
    case round =>
      obtain ⟨k, L, hk, rfl, hq⟩ := hrel
      have HR := Lib.hid hq
      clear hq
      by_cases hlt : k < z0.length
      · obtain ⟨b2, off, rfl, hB, p0, p1, p2⟩ := (HK.out.below (HR.out.bel.mono (Nat.le_refl _))).at hlt
        obtain ⟨y, hy⟩ : ∃ y, z0.getD k zOp = y := ⟨_, rfl⟩
        have HYW : Hid (OpW y) := hy ▸ HOW.out.at hlt
        rw [hy] at p0 p1 p2
        clear hy
        have C2 := Lib.hid (hc.sets (HR.out.drew hc) y.2.1 y.2.2 HYW.out.2.1)
        go_upto_region 7 with (fail)
        go_region_with (go_at_call 9; refine C2.out.mono ?_; rintro e W3 ⟨rfl, hq, -⟩; have HR3 := Lib.hid hq; clear hq)
        all_goals
          go_wp2_with fail
          go_roundw
          case rel => exact ⟨k + 1, _, by omega, by go_num, HR3.out⟩
          case measure => simp [intOf]; omega
      · obtain rfl : k = z0.length := by omega
        have C1 := Lib.hid (hc.sets HR.out a1 a2 w1)
        clear hk hlt hl2
        go_wp2_with fail
        refine C1.out.mono ?_
        rintro e W3 ⟨rfl, hq, -⟩
        have C2 := Lib.hid (hc.sets hq a1 a3 w1)
        clear hq C1
        go_wp2_with fail
        refine C2.out.mono ?_
        rintro e W4 ⟨rfl, hq, -⟩
        have HR4 := Lib.hid hq
        clear hq C2 HR
        by_cases he : setE L a1 a2 = 0
        · have he2 : (setE L a1 a2 != 0) = false := by simpa using he
          by_cases hf : setE (setL L a1 a2) a1 a3 = 0
          · have hf2 : (setE (setL L a1 a2) a1 a3 != 0) = false := by simpa using hf
            obtain ⟨-, m1, m2, m3, m4, m5⟩ := set_ok hf
            have M1 := Lib.hid m1
            have M2 := Lib.hid m2
            have M3 := Lib.hid m3
            have M4 := Lib.hid m4
            have M5 := Lib.hid m5
            have C5 := Lib.hid (hc.lists HR4.out)
            have HOK := Lib.hid (HR4.out.ok hc)
            clear m1 m2 m3 m4 m5 he hf
            go_wp2_with fail
            clear he2 hf2
            generalize setL (setL L a1 a2) a1 a3 = L at *
            refine C5.out.mono ?_
            rintro e W5 ⟨⟨aa, ca, rfl, ho, hq⟩, -⟩
            have HO := Lib.hid (ho.mono HR4.out.bel.size)
            have HR5 := Lib.hid hq
            have hLl : L.length ≤ 1024 := HOK.out.len
            clear ho hq C5 HR4
            go_wp2_with fail
            go_loopw [13, 15] (fun n i wr => ∃ k : Nat, k ≤ L.length ∧ i = .int .i64 k ∧ n = .int .i64 ((L.take k).countP (isKey a1)) ∧ Hid (WS WSt w wr (fun g => False ∨ (Value.slice aa L.length ca).ownBlock = some g) b L) ∧ Hid (OwM wr w.heap.size (.slice aa L.length ca) L)) (fun _ i _ => L.length - (intOf i).toNat)
            case atStart => exact ⟨0, Nat.zero_le _, rfl, rfl, HR5.out, HO.out⟩
            case round =>
              clear HR5 HO
              obtain ⟨k, hk, rfl, rfl, HR5, HO5⟩ := hrel
              by_cases hlt : k < L.length
              · obtain ⟨b2, off, rfl, hB, p0, p1⟩ := HO5.out.ms.at hlt
                have hcn := cnt_stepM L a1 k hlt
                have hcl : (L.take k).countP (isKey a1) ≤ 1024 := Nat.le_trans List.countP_le_length (by rw [List.length_take]; omega)
                have hmem : L.getD k zTm ∈ L := by simp [List.getD, hlt]
                obtain ⟨y, hy⟩ : ∃ y, L.getD k zTm = y := ⟨_, rfl⟩
                rw [hy] at p0 p1 hcn hmem
                have HY := Lib.hid hy
                have HCN := Lib.hid hcn
                obtain ⟨n0, hn0⟩ : ∃ n0, (L.take k).countP (isKey a1) = n0 := ⟨_, rfl⟩
                rw [hn0] at hcl HCN ⊢
                clear hy hcn hn0
                by_cases hkey : y.2 = a1
                · have q1 : (y.2 == a1) = true := by simpa using hkey
                  have q2 : (y.1 != a3) = false := by simpa using M2.out y hmem hkey
                  have HD := Lib.hid hkey
                  clear hkey hmem
                  rcases Nat.eq_zero_or_pos k with hk0 | hk0
                  · subst hk0
                    simp only [Nat.zero_mul, Nat.add_zero] at p0 p1
                    go_wp2_with fail
                    go_quiet (fail)
                    go_wp2_with fail
                    go_roundw
                    case rel =>
                      refine ⟨0 + 1, by omega, by go_num, ?_, HR5.out.dn hc _, HO5.out⟩
                      rw [HCN.out, if_pos HD.out]
                      go_num
                    case measure => simp [intOf]; omega
                  · obtain ⟨j, rfl⟩ : ∃ j, k = j + 1 := ⟨k - 1, by omega⟩
                    have hlt3 := tok_next HOK.out hlt
                    obtain ⟨b3, off3, hab, hB3, r0, r1⟩ := HO5.out.ms.at (i := j) (by omega)
                    cases hab
                    obtain ⟨x, hx⟩ : ∃ x, L.getD j zTm = x := ⟨_, rfl⟩
                    rw [hx] at r0 r1 hlt3
                    rw [HY.out] at hlt3
                    have hj0 : (0 : Int) < (j : Int) + 1 := by omega
                    have hj1 : ¬ (j : Int) + 1 ≤ 0 := by omega
                    have hj2 : (j : Int) < (L.length : Int) := by omega
                    have hj3 : j < L.length := by omega
                    have hj64 : IntKind.i64.wrap ((j : Int) + 1 - 1) = (j : Int) := by rw [IntKind.wrap_i64]; omega
                    have hj65 : IntKind.i64.wrap (j : Int) = (j : Int) := by rw [IntKind.wrap_i64]; omega
                    by_cases hxe : x.1 = y.1
                    · have g1 : decide (y.1 < x.1) = false := decide_eq_false (by omega)
                      have g2 : (x.1 == y.1) = true := by simpa using hxe
                      have g3 : decide (y.2 ≤ x.2) = false := decide_eq_false (fun h => by rcases hlt3 with h | h <;> omega)
                      clear hlt3 hxe hx
                      go_wp2_with fail
                      go_quiet (fail)
                      go_wp2_with fail
                      go_roundw
                      case rel =>
                        refine ⟨j + 1 + 1, by omega, by go_num, ?_, HR5.out.dn hc _, HO5.out⟩
                        rw [HCN.out, if_pos HD.out]
                        go_num
                      case measure => simp [intOf]; omega
                    · have g1 : decide (y.1 < x.1) = false := decide_eq_false (fun h => by rcases hlt3 with h | h <;> omega)
                      have g2 : (x.1 == y.1) = false := by simpa using hxe
                      clear hlt3 hxe hx
                      go_wp2_with fail
                      go_quiet (fail)
                      go_wp2_with fail
                      go_roundw
                      case rel =>
                        refine ⟨j + 1 + 1, by omega, by go_num, ?_, HR5.out.dn hc _, HO5.out⟩
                        rw [HCN.out, if_pos HD.out]
                        go_num
                      case measure => simp [intOf]; omega
                · have q1 : (y.2 == a1) = false := by simpa using hkey
                  have HD := Lib.hid hkey
                  clear hkey hmem
                  rcases Nat.eq_zero_or_pos k with hk0 | hk0
                  · subst hk0
                    simp only [Nat.zero_mul, Nat.add_zero] at p0 p1
                    go_wp2_with fail
                    go_quiet (fail)
                    go_wp2_with fail
                    go_roundw
                    case rel =>
                      refine ⟨0 + 1, by omega, by go_num, ?_, HR5.out.dn hc _, HO5.out⟩
                      rw [HCN.out, if_neg HD.out]
                      go_num
                    case measure => simp [intOf]; omega
                  · obtain ⟨j, rfl⟩ : ∃ j, k = j + 1 := ⟨k - 1, by omega⟩
                    have hlt3 := tok_next HOK.out hlt
                    obtain ⟨b3, off3, hab, hB3, r0, r1⟩ := HO5.out.ms.at (i := j) (by omega)
                    cases hab
                    obtain ⟨x, hx⟩ : ∃ x, L.getD j zTm = x := ⟨_, rfl⟩
                    rw [hx] at r0 r1 hlt3
                    rw [HY.out] at hlt3
                    have hj0 : (0 : Int) < (j : Int) + 1 := by omega
                    have hj1 : ¬ (j : Int) + 1 ≤ 0 := by omega
                    have hj2 : (j : Int) < (L.length : Int) := by omega
                    have hj3 : j < L.length := by omega
                    have hj64 : IntKind.i64.wrap ((j : Int) + 1 - 1) = (j : Int) := by rw [IntKind.wrap_i64]; omega
                    have hj65 : IntKind.i64.wrap (j : Int) = (j : Int) := by rw [IntKind.wrap_i64]; omega
                    by_cases hxe : x.1 = y.1
                    · have g1 : decide (y.1 < x.1) = false := decide_eq_false (by omega)
                      have g2 : (x.1 == y.1) = true := by simpa using hxe
                      have g3 : decide (y.2 ≤ x.2) = false := decide_eq_false (fun h => by rcases hlt3 with h | h <;> omega)
                      clear hlt3 hxe hx
                      go_wp2_with fail
                      go_quiet (fail)
                      go_wp2_with fail
                      go_roundw
                      case rel =>
                        refine ⟨j + 1 + 1, by omega, by go_num, ?_, HR5.out.dn hc _, HO5.out⟩
                        rw [HCN.out, if_neg HD.out]
                        go_num
                      case measure => simp [intOf]; omega
                    · have g1 : decide (y.1 < x.1) = false := decide_eq_false (fun h => by rcases hlt3 with h | h <;> omega)
                      have g2 : (x.1 == y.1) = false := by simpa using hxe
                      clear hlt3 hxe hx
                      go_wp2_with fail
                      go_quiet (fail)
                      go_wp2_with fail
                      go_roundw
                      case rel =>
                        refine ⟨j + 1 + 1, by omega, by go_num, ?_, HR5.out.dn hc _, HO5.out⟩
                        rw [HCN.out, if_neg HD.out]
                        go_num
                      case measure => simp [intOf]; omega
              · obtain rfl : k = L.length := by omega
                rw [List.take_length, M1.out]
                have C6 := Lib.hid (hc.stops HR5.out a1 w1)
                rw [M3.out] at C6
                go_wp2_with fail
                refine C6.out.mono ?_
                rintro e W6 ⟨rfl, hq, hch⟩
                have C7 := Lib.hid (hc.stops hq a1 w1)
                rw [M5.out] at C7
                clear hq hch C6
                go_wp2_with fail
                refine C7.out.mono ?_
                rintro e W7 ⟨rfl, hq, hch⟩
                have HR7 := Lib.hid hq
                have C8 := Lib.hid (awake11 hc W7)
                clear hq hch C7
                go_wp2_with fail
                refine C8.out.mono ?_
                rintro e W8 ⟨rfl, hb⟩
                have C9 := Lib.hid (hc.lists (HR7.out.under hc hb))
                clear hb C8
                go_wp2_with fail
                refine C9.out.mono ?_
                rintro e W9 ⟨⟨a9, c9, rfl, -, hq⟩, -⟩
                have HB9 := Lib.hid hq.bel
                have hln : ((stopL (stopL L a1) a1).length : Int) = (L.length : Int) - 1 := by
                  have e1 : (stopL (stopL L a1) a1).length = (stopL L a1).length := by have := stop_len (stopL L a1) a1; rw [stop_count] at this; omega
                  have := M4.out
                  omega
                have hwr : IntKind.i64.wrap ((L.length : Int) - 1) = (L.length : Int) - 1 := by rw [IntKind.wrap_i64]; omega
                clear hq C9
                go_wp2_with fail
                go_ret
                exact ⟨rfl, HB9.out⟩
          · have hf2 : (setE (setL L a1 a2) a1 a3 != 0) = true := by simpa using hf
            clear he hf
            have C9 := Lib.hid (awake11 hc W4)
            go_wp2_with fail
            refine C9.out.mono ?_
            rintro e W9 ⟨rfl, hb⟩
            have HB9 := Lib.hid (HR4.out.bel.trans (hb.mono HR4.out.bel.size))
            clear hb C9
            go_wp2_with fail
            go_ret
            exact ⟨rfl, HB9.out⟩
        · have he2 : (setE L a1 a2 != 0) = true := by simpa using he
          clear he
          have C9 := Lib.hid (awake11 hc W4)
          go_wp2_with fail
          refine C9.out.mono ?_
          rintro e W9 ⟨rfl, hb⟩
          have HB9 := Lib.hid (HR4.out.bel.trans (hb.mono HR4.out.bel.size))
          clear hb C9
          go_wp2_with fail
          go_ret
          exact ⟨rfl, HB9.out⟩

set_option maxRecDepth 100000 in
theorem lifted (os : _root_.Go.Os) (started : os.Started) (H : Type) (enc : TypeId × Value → H) :
    ReturnsInHanded {} Try.checked os 5 .any (Rows.wheelLastSpec.pre6 enc Try.prog Try.f5 Rows.wheelLastRow.domain false) (Rows.wheelLastSpec.post enc Try.prog Try.f5 false true false false) := by
  refine returnsInHanded_of_change (C := Try.checked) own started (by kernel_rfl) Try.func5
    (ChangeSpec.witness6 (enc := enc) (C := Try.checked) false ⟨#[], #[.slice none 0 0, .int .i64 0, .int .i64 0, .int .i64 0], []⟩ 16 (by kernel_rfl) (by kernel_rfl) (by kernel_rfl) (by kernel_rfl)) ?_
  intro W base args ds gs before hval0 hW hcnd _
  have hval : ∀ (j : Nat) t v, Try.f5.params[j]? = some t → args[j]? = some v → Value.okWide Try.prog W .any base t v := hval0
  have hW' := hW
  obtain ⟨p, q, hA0, hV, rfl, hfz, hnd⟩ := hW
  have hA : DataW.TrodAll enc Try.prog W 0 (fun _ => true) true Try.f5.params.toList args.toList ds p := hA0
  rw [Try.params5] at hA hval
  obtain ⟨v0, vs0, e0, ds0, p0, q0, hargs, rfl, rfl, h0, x0⟩ := trodAll_cons hA
  obtain ⟨v1, vs1, e1, ds1, p1, q1, rfl, rfl, rfl, h1, x1⟩ := trodAll_cons x0
  obtain ⟨v2, vs2, e2, ds2, p2, q2, rfl, rfl, rfl, h2, x2⟩ := trodAll_cons x1
  obtain ⟨v3, vs3, e3, ds3, p3, q3, rfl, rfl, rfl, h3, x3⟩ := trodAll_cons x2
  obtain ⟨rfl, rfl, rfl⟩ := trodAll_nil x3
  obtain rfl : args = #[v0, v1, v2, v3] := by cases args; simp_all
  obtain ⟨rfl, rfl⟩ := trodVars_none hV
  have k0 := h0
  have lt0 : ∀ x ∈ p0, x.block < W.heap.size := by obtain ⟨m, hm⟩ := k0; exact DataW.trod_lt m _ _ _ hm
  have k1 := h1
  have lt1 : ∀ x ∈ p1, x.block < W.heap.size := by obtain ⟨m, hm⟩ := k1; exact DataW.trod_lt m _ _ _ hm
  obtain ⟨a1, rfl, _, _, w1⟩ := open_int Try.underlying3 (hval 1 3 v1 rfl rfl) h1
  have k2 := h2
  have lt2 : ∀ x ∈ p2, x.block < W.heap.size := by obtain ⟨m, hm⟩ := k2; exact DataW.trod_lt m _ _ _ hm
  obtain ⟨a2, rfl, _, _, w2⟩ := open_int Try.underlying3 (hval 2 3 v2 rfl rfl) h2
  have k3 := h3
  have lt3 : ∀ x ∈ p3, x.block < W.heap.size := by obtain ⟨m, hm⟩ := k3; exact DataW.trod_lt m _ _ _ hm
  obtain ⟨a3, rfl, _, _, w3⟩ := open_int Try.underlying3 (hval 3 3 v3 rfl rfl) h3
  obtain ⟨a0, len0, cap0, rfl⟩ := okWide_slice underOPS (hval 0 22 v0 rfl rfl)
  obtain ⟨z0, hz0, w0, q0⟩ := sc_form h0
  subst hz0
  clear hA0 hval0
  refine (walk wc a0 cap0 z0 a1 (i64_wf w1) a2 (i64_wf w2) a3 (i64_wf w3) W w0 q0).mono fun e W' ⟨he, bel⟩ => ?_
  subst he
  exact ⟨_, rfl, _, _, _, [], _, [], hW', trodAll_mk1 (shut_bool Try.underlying4 _), (trodAll_cons_mk (Below.trod laidOut (by kernel_rfl) (of_decide_eq_true (by kernel_rfl)) k0 bel lt0) (trodAll_cons_mk (Below.trod laidOut (by kernel_rfl) (of_decide_eq_true (by kernel_rfl)) k1 bel lt1) (trodAll_cons_mk (Below.trod laidOut (by kernel_rfl) (of_decide_eq_true (by kernel_rfl)) k2 bel lt2) (trodAll_cons_mk (Below.trod laidOut (by kernel_rfl) (of_decide_eq_true (by kernel_rfl)) k3 bel lt3) trodAll_mk0)))), rfl, bel.frame _, fun h => by cases h⟩

theorem over : Rows.wheelLastRow.holds Try.pinned (OpenSpec.ofChange Rows.wheelLastSpec) :=
  OpenClaim.holds_of_wide 5 Try.f5 rfl rfl rfl rfl rfl rfl rfl ⟨rfl, rfl, rfl, rfl, rfl⟩ rfl rfl rfl rfl rfl (by kernel_rfl) Try.func5 (by kernel_rfl)
    (of_decide_eq_true (by kernel_rfl)) (by unfold Func.isWrapper; first | (rw [if_pos (by decide +kernel)]; kernel_rfl) | (rw [if_neg (by decide +kernel)]; exact ⟨rfl, rfl⟩))
    (fun os started H enc _ => lifted os started H enc)

theorem proved : Rows.WheelLastSaid := over
#print axioms proved
end Go.Proofs.Ytmgipedpggpkoaa.wheelLast
