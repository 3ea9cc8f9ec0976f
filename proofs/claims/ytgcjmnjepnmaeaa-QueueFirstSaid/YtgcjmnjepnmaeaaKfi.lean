/- thalweglaw10.QueueFirst: for any number and packets the law answers true; no condition. -/
import Derived.Test.YtgcjmnjepnmaeaaQaw
import Derived.Test.YtgcjmnjepnmaeaaQpg
import Derived.WalkLawsBesides
import Derived.WalkKit
import Derived.ProofKit
import Derived.OpenShut
import Derived.ShutString
import Derived.ChangeOld
import Derived.Below
namespace Go.Proofs.Ytgcjmnjepnmaeaa.queueFirst
open Go.ChangeShapes Go.WideShapes Go.ChangeAt Go.RowKit
open Go.ChangeMaps (open_string shut_string)
set_option linter.unusedVariables false
set_option maxRecDepth 100000

theorem own : ownKnob Try.prog.godebug = none := by kernel_rfl
theorem laidOut : laidOutB Try.prog = true := by kernel_rfl

theorem drop_at {l : List Pk} {k : Nat} (h : k < l.length) : l.drop k = l.getD k zPk :: l.drop (k + 1) := by
  rw [List.drop_eq_getElem_cons h]
  simp [List.getD, h]
theorem first_at {l : List Pk} {k : Nat} (h : k < l.length) : firstV (l.drop k) = l.getD k zPk ∧ firstE (l.drop k) = 0 := by
  rw [drop_at h]
  exact ⟨rfl, rfl⟩
theorem take_first {l : List Pk} {k : Nat} (h : k < l.length) : takeV (l.drop k) (l.getD k zPk).2.1 = l.getD k zPk ∧ takeE (l.drop k) (l.getD k zPk).2.1 = 0 ∧ takeL (l.drop k) (l.getD k zPk).2.1 = l.drop (k + 1) := by
  rw [drop_at h]
  generalize l.getD k zPk = y
  have hy : isTo y.2.1 y = true := by simp [isTo]
  exact ⟨by simp [takeV, hy], by simp [takeE, hy], by simp [takeL, hy]⟩
set_option maxHeartbeats 16000000 in
theorem walk {QSt : World → (Nat → Prop) → Nat → Int → List Pk → Prop} (hc : Qc QSt) (a0 : Int) (w0 : I64 a0) (a1 : Option Addr) (cap1 : Nat) (z1 : List Pk) (w : World) (w1 : Ks w (.slice a1 z1.length cap1) z1):
    Calls Try.prog 7 #[.int .i64 a0, .slice a1 z1.length cap1] w fun e w' => e = .returned (.bool true) ∧ Below w.heap.size w w' := by
  by_cases hm : 1 ≤ a0 ∧ a0 ≤ 64
  · have C1 := Lib.hid (hc.news hm w)
    have HM := Lib.hid hm
    have HK := Lib.hid w1
    clear hm w1
    go_enter Try.func7, Try.ntmps7
    go_wp2_with fail
    refine C1.out.mono ?_
    rintro e W1 ⟨b, rfl, hq⟩
    have HQ := Lib.hid hq
    clear hq C1
    by_cases hl : (100 : Int) < (z1.length : Int)
    · have hd : decide ((100 : Int) < (z1.length : Int)) = true := decide_eq_true hl
      have C9 := Lib.hid (awake10 hc W1)
      go_wp2_with fail
      refine C9.out.mono ?_
      rintro e W9 ⟨rfl, hb⟩
      have HB9 := Lib.hid (HQ.out.bel.trans (hb.mono HQ.out.bel.size))
      clear hb C9
      go_wp2_with fail
      go_ret
      exact ⟨rfl, HB9.out⟩
    · have hd : decide ((100 : Int) < (z1.length : Int)) = false := decide_eq_false hl
      have HL : Hid (z1.length ≤ 100) := by show _ ≤ _; omega
      have hl2 : z1.length ≤ 100 := HL.out
      clear hl
      go_wp2_with fail
      clear hd
      go_loopw [7] (fun i wr => ∃ (k : Nat) (L : List Pk), k ≤ z1.length ∧ i = .int .i64 k ∧ QS QSt w wr (fun _ => False) b a0 L) (fun i _ => z1.length - (intOf i).toNat)
      case atStart => exact ⟨0, [], Nat.zero_le _, rfl, HQ.out⟩
      case round =>
        obtain ⟨k, L, hk, rfl, hq⟩ := hrel
        have HR := Lib.hid hq
        clear hq
        by_cases hlt : k < z1.length
        · obtain ⟨b2, off, rfl, hB, p0, p1, p2, p3, p4⟩ := (HK.out.below (HR.out.bel.mono (Nat.le_refl _))).at hlt
          obtain ⟨y, hy⟩ : ∃ y, z1.getD k zPk = y := ⟨_, rfl⟩
          rw [hy] at p0 p1 p2 p3 p4
          clear hy
          by_cases hx : (600 : Int) < (y.2.2.2.2.size : Int)
          · have hd2 : decide ((600 : Int) < (y.2.2.2.2.size : Int)) = true := decide_eq_true hx
            clear hx
            go_wp2_with fail
            go_ret
            exact ⟨rfl, HR.out.bel⟩
          · have hd2 : decide ((600 : Int) < (y.2.2.2.2.size : Int)) = false := decide_eq_false hx
            clear hx
            have C1 := Lib.hid (hc.puts HR.out y)
            go_wp2_with fail
            refine C1.out.mono ?_
            rintro e W3 ⟨rfl, hq, -⟩
            have HR3 := Lib.hid hq
            clear hq C1 p0 p1 p2 p3 p4
            go_wp2_with fail
            go_roundw
            case rel => exact ⟨k + 1, _, by omega, by go_num, HR3.out⟩
            case measure => simp [intOf]; omega
        · obtain rfl : k = z1.length := by omega
          have C1 := Lib.hid (hc.alls HR.out)
          have HLN := Lib.hid (HR.out.len hc)
          go_wp2_with fail
          refine C1.out.mono ?_
          rintro e W3 ⟨⟨aa, ca, rfl, ho, hq⟩, hch⟩
          have HO := Lib.hid ho
          have HR3 := Lib.hid hq
          have hLl : L.length ≤ 64 := by have := HLN.out; omega
          have HLL := Lib.hid hLl
          have HSZ := Lib.hid HR.out.bel.size
          clear ho hq hch C1 HR HL hk hlt
          clear hl2
          go_wp2_with fail
          go_loopw [9] (fun i wr => ∃ k : Nat, k ≤ L.length ∧ i = .int .i64 k ∧ QS QSt w wr (fun g => False ∨ (Value.slice aa L.length ca).ownBlock = some g) b a0 (L.drop k) ∧ OwK wr w.heap.size (.slice aa L.length ca) L) (fun i _ => L.length - (intOf i).toNat)
          case atStart => exact ⟨0, Nat.zero_le _, rfl, HR3.out, HO.out.mono HSZ.out⟩
          case round =>
            obtain ⟨k, hk, rfl, hq, ho⟩ := hrel
            have HR4 := Lib.hid hq
            have HO4 := Lib.hid ho
            clear hq ho
            by_cases hlt : k < L.length
            · obtain ⟨e1, e2⟩ := first_at hlt
              obtain ⟨e3, e4, e5⟩ := take_first hlt
              obtain ⟨y, hy⟩ : ∃ y, L.getD k zPk = y := ⟨_, rfl⟩
              rw [hy] at e1 e3 e4 e5
              have HY := Lib.hid hy
              have E1 := Lib.hid e1
              have E2 := Lib.hid e2
              have E3 := Lib.hid e3
              have E4 := Lib.hid e4
              have E5 := Lib.hid e5
              clear hy e1 e2 e3 e4 e5
              have C5 := Lib.hid (hc.firsts HR4.out)
              go_wp2_with fail
              refine C5.out.mono ?_
              rintro e W5 ⟨rfl, hq, hch⟩
              rw [E1.out, E2.out]
              have ho5 := HO4.out.chg hch (fun g hg => off_no (.inr hg))
              obtain ⟨W6, hW6⟩ : ∃ W6, W5.alloc (.cells #[.int .i64 y.1, .int .i64 y.2.1, .int .i64 y.2.2.1, .int .i64 y.2.2.2.1, .string y.2.2.2.2] 34) = W6 := ⟨_, rfl⟩
              have hb6 : Below W5.heap.size W5 W6 := hW6 ▸ (Below.refl _ W5).alloc (Nat.le_refl _) _
              have HO6 := Lib.hid (ho5.below hb6)
              have HV6 : Hid (OwnP W6 W5.heap.size y.1 y.2.1 y.2.2.1 y.2.2.2.1 y.2.2.2.2) := hW6 ▸ ownp_alloc W5 _ _ _ _ _ 34 W5.heap.size rfl
              have hq6 := hq.alloc hc (.cells #[.int .i64 y.1, .int .i64 y.2.1, .int .i64 y.2.2.1, .int .i64 y.2.2.2.1, .string y.2.2.2.2] 34)
              rw [hW6] at hq6
              have C6 := Lib.hid (hc.takes hq6 y.2.1)
              clear hq hch ho5 hb6 hq6 C5
              obtain ⟨⟨u0, u1, u2, u3, u4⟩, uf⟩ := HV6.out
              go_wp2_with fail
              refine C6.out.mono ?_
              rintro e W7 ⟨rfl, hq, hch⟩
              rw [E3.out, E4.out]
              rw [E5.out] at hq
              have ho7 := HO6.out.chg hch (fun g hg => off_no (.inl (.inr hg)))
              have hv7 := HV6.out.chg hch (off_no (.inr rfl))
              clear hW6 u0 u1 u2 u3 u4 uf C6
              obtain ⟨g1, hg1⟩ : ∃ g1, W5.heap.size = g1 := ⟨_, rfl⟩
              rw [hg1] at hv7 hq hch
              obtain ⟨W8, hW8⟩ : ∃ W8, W7.alloc (.cells #[.int .i64 y.1, .int .i64 y.2.1, .int .i64 y.2.2.1, .int .i64 y.2.2.2.1, .string y.2.2.2.2] 34) = W8 := ⟨_, rfl⟩
              have hb8 : Below W7.heap.size W7 W8 := hW8 ▸ (Below.refl _ W7).alloc (Nat.le_refl _) _
              have HO8 := Lib.hid (ho7.below hb8)
              have HV8 := Lib.hid (hv7.below hb8)
              have HX8 : Hid (OwnP W8 W7.heap.size y.1 y.2.1 y.2.2.1 y.2.2.2.1 y.2.2.2.2) := hW8 ▸ ownp_alloc W7 _ _ _ _ _ 34 W7.heap.size rfl
              have hq8 := hq.alloc hc (.cells #[.int .i64 y.1, .int .i64 y.2.1, .int .i64 y.2.2.1, .int .i64 y.2.2.2.1, .string y.2.2.2.2] 34)
              rw [hW8] at hq8
              have HQ8 : Hid (QS QSt w W8 (fun g => False ∨ (Value.slice aa L.length ca).ownBlock = some g) b a0 (L.drop (k + 1))) := hq8.less (fun g hg => .inl (.inl hg))
              clear hq hch ho7 hb8 hv7 hq8 HO6 HV6
              obtain ⟨⟨u0, u1, u2, u3, u4⟩, uf⟩ := HV8.out
              obtain ⟨⟨x0, x1, x2, x3, x4⟩, xf⟩ := HX8.out
              obtain ⟨b2, off, rfl, hB, p0, p1, p2, p3, p4⟩ := HO8.out.ks.at hlt
              rw [HY.out] at p0 p1 p2 p3 p4
              obtain ⟨y1, y2, y3, y4, y5⟩ := y
              simp only at u0 u1 u2 u3 u4 x0 x1 x2 x3 x4 p0 p1 p2 p3 p4
              have G1 := guardPK
              have G2 := neqPK
              have G3 : eqK y1 y2 y3 y4 y5 y1 y2 y3 y4 y5 = true := eqK_iff.2 rfl
              go_wp2_with fail
              go_quiet (fail)
              go_wp2_with fail
              go_roundw
              case rel => exact ⟨k + 1, by omega, by go_num, HQ8.out.dn hc _, HO8.out.dn _⟩
              case measure => simp [intOf]; omega
            · obtain rfl : k = L.length := by omega
              have e1 : firstE (L.drop L.length) = 7 := by rw [List.drop_length]; rfl
              have e2 : firstV (L.drop L.length) = zPk := by rw [List.drop_length]; rfl
              have E1 := Lib.hid e1
              have E2 := Lib.hid e2
              clear e1 e2
              have C5 := Lib.hid (hc.firsts HR4.out)
              go_wp2_with fail
              refine C5.out.mono ?_
              rintro e W5 ⟨rfl, hq, hch⟩
              rw [E1.out, E2.out]
              obtain ⟨W6, hW6⟩ : ∃ W6, W5.alloc (.cells #[.int .i64 zPk.1, .int .i64 zPk.2.1, .int .i64 zPk.2.2.1, .int .i64 zPk.2.2.2.1, .string zPk.2.2.2.2] 34) = W6 := ⟨_, rfl⟩
              have hq6 := hq.alloc hc (.cells #[.int .i64 zPk.1, .int .i64 zPk.2.1, .int .i64 zPk.2.2.1, .int .i64 zPk.2.2.2.1, .string zPk.2.2.2.2] 34)
              rw [hW6] at hq6
              have HB6 := Lib.hid hq6.bel
              clear hq hch hq6 C5
              have C9 := Lib.hid (awake10 hc W6)
              go_wp2_with fail
              refine C9.out.mono ?_
              rintro e W9 ⟨rfl, hb⟩
              have HB9 := Lib.hid (HB6.out.trans (hb.mono HB6.out.size))
              clear hb C9
              go_wp2_with fail
              go_ret
              exact ⟨rfl, HB9.out⟩
  · have C1 := Lib.hid (hc.new_no hm w)
    go_enter Try.func7, Try.ntmps7
    go_wp2_with fail
    refine C1.out.mono ?_
    rintro e W1 ⟨rfl, hb⟩
    have HB := Lib.hid hb
    clear hb C1
    have C9 := Lib.hid (awake10 hc W1)
    go_wp2_with fail
    refine C9.out.mono ?_
    rintro e W9 ⟨rfl, hb⟩
    have HB9 := Lib.hid (HB.out.trans (hb.mono HB.out.size))
    clear hb C9
    go_wp2_with fail
    go_ret
    exact ⟨rfl, HB9.out⟩

set_option maxRecDepth 100000 in
theorem lifted (os : _root_.Go.Os) (started : os.Started) (H : Type) (enc : TypeId × Value → H) :
    ReturnsInHanded {} Try.checked os 7 .any (Rows.queueFirstSpec.pre6 enc Try.prog Try.f7 Rows.queueFirstRow.domain false) (Rows.queueFirstSpec.post enc Try.prog Try.f7 false true false false) := by
  refine returnsInHanded_of_change (C := Try.checked) own started (by kernel_rfl) Try.func7
    (ChangeSpec.witness6 (enc := enc) (C := Try.checked) false ⟨#[], #[.int .i64 0, .slice none 0 0], []⟩ 16 (by kernel_rfl) (by kernel_rfl) (by kernel_rfl) (by kernel_rfl)) ?_
  intro W base args ds gs before hval0 hW hcnd _
  have hval : ∀ (j : Nat) t v, Try.f7.params[j]? = some t → args[j]? = some v → Value.okWide Try.prog W .any base t v := hval0
  have hW' := hW
  obtain ⟨p, q, hA0, hV, rfl, hfz, hnd⟩ := hW
  have hA : DataW.TrodAll enc Try.prog W 0 (fun _ => true) true Try.f7.params.toList args.toList ds p := hA0
  rw [Try.params7] at hA hval
  obtain ⟨v0, vs0, e0, ds0, p0, q0, hargs, rfl, rfl, h0, x0⟩ := trodAll_cons hA
  obtain ⟨v1, vs1, e1, ds1, p1, q1, rfl, rfl, rfl, h1, x1⟩ := trodAll_cons x0
  obtain ⟨rfl, rfl, rfl⟩ := trodAll_nil x1
  obtain rfl : args = #[v0, v1] := by cases args; simp_all
  obtain ⟨rfl, rfl⟩ := trodVars_none hV
  have k0 := h0
  have lt0 : ∀ x ∈ p0, x.block < W.heap.size := by obtain ⟨m, hm⟩ := k0; exact DataW.trod_lt m _ _ _ hm
  obtain ⟨a0, rfl, _, _, w0⟩ := open_int Try.underlying3 (hval 0 3 v0 rfl rfl) h0
  have k1 := h1
  have lt1 : ∀ x ∈ p1, x.block < W.heap.size := by obtain ⟨m, hm⟩ := k1; exact DataW.trod_lt m _ _ _ hm
  obtain ⟨a1, len1, cap1, rfl⟩ := okWide_slice underKS (hval 1 30 v1 rfl rfl)
  obtain ⟨z1, hz1, w1⟩ := ks_form h1
  subst hz1
  clear hA0 hval0
  refine (walk qc a0 (i64_wf w0) a1 cap1 z1 W w1).mono fun e W' ⟨he, bel⟩ => ?_
  subst he
  exact ⟨_, rfl, _, _, _, [], _, [], hW', trodAll_mk1 (shut_bool Try.underlying4 _), (trodAll_cons_mk (Below.trod laidOut (by kernel_rfl) (of_decide_eq_true (by kernel_rfl)) k0 bel lt0) (trodAll_cons_mk (Below.trod laidOut (by kernel_rfl) (of_decide_eq_true (by kernel_rfl)) k1 bel lt1) trodAll_mk0)), rfl, bel.frame _, fun h => by cases h⟩

theorem over : Rows.queueFirstRow.holds Try.pinned (OpenSpec.ofChange Rows.queueFirstSpec) :=
  OpenClaim.holds_of_wide 7 Try.f7 rfl rfl rfl rfl rfl rfl rfl ⟨rfl, rfl, rfl, rfl, rfl⟩ rfl rfl rfl rfl rfl (by kernel_rfl) Try.func7 (by kernel_rfl)
    (of_decide_eq_true (by kernel_rfl)) (by unfold Func.isWrapper; first | (rw [if_pos (by decide +kernel)]; kernel_rfl) | (rw [if_neg (by decide +kernel)]; exact ⟨rfl, rfl⟩))
    (fun os started H enc _ => lifted os started H enc)

theorem proved : Rows.QueueFirstSaid := over
#print axioms proved
end Go.Proofs.Ytgcjmnjepnmaeaa.queueFirst
