/- thalweglaw10.QueueClears: for any number, packets and node the law answers true; no condition. -/
import Derived.Test.YtgcjmnjepnmaeaaQaw
import Derived.Test.YtgcjmnjepnmaeaaQpg
import Derived.WalkLawsBesides
import Derived.WalkKit
import Derived.ProofKit
import Derived.OpenShut
import Derived.ShutString
import Derived.ChangeOld
import Derived.Below
namespace Go.Proofs.Ytgcjmnjepnmaeaa.queueClears
open Go.ChangeShapes Go.WideShapes Go.ChangeAt Go.RowKit
open Go.ChangeMaps (open_string shut_string)
set_option linter.unusedVariables false
set_option maxRecDepth 100000

theorem own : ownKnob Try.prog.godebug = none := by kernel_rfl
theorem laidOut : laidOutB Try.prog = true := by kernel_rfl

theorem clr_len : ∀ (l : List Pk) (d : Int), (clrL l d).length + cntN l d = l.length
  | [], _ => rfl
  | y :: l, d => by
    have ih := clr_len l d
    unfold clrL cntN at *
    cases h : isTo d y with
    | true => rw [List.filter_cons_of_neg (by simp [h]), List.countP_cons_of_pos h, List.length_cons]; omega
    | false => rw [List.filter_cons_of_pos (by simp [h]), List.countP_cons_of_neg (by simp [h]), List.length_cons, List.length_cons]; omega
theorem cnt_clr (l : List Pk) (d : Int) : cntN (clrL l d) d = 0 := by
  unfold cntN clrL
  rw [List.countP_eq_zero]
  intro y hy
  have := (List.mem_filter.1 hy).2
  simpa using this
theorem clr_clr (l : List Pk) (d : Int) : clrL (clrL l d) d = clrL l d := by
  unfold clrL
  rw [List.filter_filter]
  simp
theorem num_ok {k : Int} (h : 0 ≤ k) (h2 : k ≤ 65535) : Pk.Ok (0, 0, 0, k, ⟨#[]⟩) := show PkOk 0 0 0 k ⟨#[]⟩ from ⟨⟨by decide, by decide⟩, ⟨by decide, by decide⟩, ⟨by decide, by decide⟩, ⟨h, h2⟩, by decide⟩
theorem put_room {m : Int} {l : List Pk} {y : Pk} (ho : y.Ok) (h : (l.length : Int) < m) : putE m l y = 0 ∧ putL m l y = l ++ [y] := by
  refine ⟨?_, ?_⟩
  · unfold putE; rw [if_neg (fun h => h ho), if_neg (by omega)]
  · unfold putL; rw [if_pos ⟨ho, h⟩]
theorem put_full {m : Int} {l : List Pk} {y : Pk} (ho : y.Ok) (h : m ≤ (l.length : Int)) : putE m l y = 8 ∧ putL m l y = l := by
  refine ⟨?_, ?_⟩
  · unfold putE; rw [if_neg (fun h => h ho), if_pos h]
  · unfold putL; rw [if_neg (fun h => absurd h.2 (by omega))]
set_option maxHeartbeats 16000000 in
theorem walk {QSt : World → (Nat → Prop) → Nat → Int → List Pk → Prop} (hc : Qc QSt) (a0 : Int) (w0 : I64 a0) (a1 : Option Addr) (cap1 : Nat) (z1 : List Pk) (a2 : Int) (w2 : I64 a2) (w : World) (w1 : Ks w (.slice a1 z1.length cap1) z1):
    Calls Try.prog 5 #[.int .i64 a0, .slice a1 z1.length cap1, .int .i64 a2] w fun e w' => e = .returned (.bool true) ∧ Below w.heap.size w w' := by
  by_cases hm : 1 ≤ a0 ∧ a0 ≤ 64
  · have C1 := Lib.hid (hc.news hm w)
    have HM := Lib.hid hm
    have HK := Lib.hid w1
    clear hm w1
    go_enter Try.func5, Try.ntmps5
    go_wp2_with fail
    refine C1.out.mono ?_
    rintro e W1 ⟨b, rfl, hq⟩
    have HQ := Lib.hid hq
    clear hq C1
    by_cases hl : (100 : Int) < (z1.length : Int)
    · have hd : decide ((100 : Int) < (z1.length : Int)) = true := decide_eq_true hl
      have C9 := Lib.hid (awake10 hc W1)
      go_wp2_with fail
      refine C9.out.mono ?_
      rintro e W9 ⟨rfl, hb⟩
      have HB9 := Lib.hid (HQ.out.bel.trans (hb.mono HQ.out.bel.size))
      clear hb C9
      go_wp2_with fail
      go_ret
      exact ⟨rfl, HB9.out⟩
    · have hd : decide ((100 : Int) < (z1.length : Int)) = false := decide_eq_false hl
      have HL : Hid (z1.length ≤ 100) := by show _ ≤ _; omega
      have hl2 : z1.length ≤ 100 := HL.out
      clear hl
      go_wp2_with fail
      clear hd
      go_loopw [9] (fun i wr => ∃ (k : Nat) (L : List Pk), k ≤ z1.length ∧ i = .int .i64 k ∧ QS QSt w wr (fun _ => False) b a0 L) (fun i _ => z1.length - (intOf i).toNat)
      case atStart => exact ⟨0, [], Nat.zero_le _, rfl, HQ.out⟩
      case round =>
        obtain ⟨k, L, hk, rfl, hq⟩ := hrel
        have HR := Lib.hid hq
        clear hq
        by_cases hlt : k < z1.length
        · obtain ⟨b2, off, rfl, hB, p0, p1, p2, p3, p4⟩ := (HK.out.below (HR.out.bel.mono (Nat.le_refl _))).at hlt
          obtain ⟨y, hy⟩ : ∃ y, z1.getD k zPk = y := ⟨_, rfl⟩
          rw [hy] at p0 p1 p2 p3 p4
          clear hy
          by_cases hx : (600 : Int) < (y.2.2.2.2.size : Int)
          · have hd2 : decide ((600 : Int) < (y.2.2.2.2.size : Int)) = true := decide_eq_true hx
            clear hx
            go_wp2_with fail
            go_ret
            exact ⟨rfl, HR.out.bel⟩
          · have hd2 : decide ((600 : Int) < (y.2.2.2.2.size : Int)) = false := decide_eq_false hx
            clear hx
            have C1 := Lib.hid (hc.puts HR.out y)
            go_wp2_with fail
            refine C1.out.mono ?_
            rintro e W3 ⟨rfl, hq, -⟩
            have HR3 := Lib.hid hq
            clear hq C1 p0 p1 p2 p3 p4
            go_wp2_with fail
            go_roundw
            case rel => exact ⟨k + 1, _, by omega, by go_num, HR3.out⟩
            case measure => simp [intOf]; omega
        · obtain rfl : k = z1.length := by omega
          have hLl : L.length ≤ 64 := by have := HR.out.len hc; omega
          have HLL := Lib.hid hLl
          have HCL := Lib.hid (clr_len L a2)
          clear hLl hk hlt hl2
          have C1 := Lib.hid (hc.alls HR.out)
          go_wp2_with fail
          refine C1.out.mono ?_
          rintro e W3 ⟨⟨aa, ca, rfl, ho, hq⟩, hch⟩
          clear C1
          have HR3 := Lib.hid (hq.less (K' := fun _ => False) (fun _ h => h.elim))
          clear ho hq hch HR
          have C1 := Lib.hid (hc.counts HR3.out a2)
          go_wp2_with fail
          refine C1.out.mono ?_
          rintro e W4 ⟨rfl, hq, hch⟩
          clear C1
          have HR4 := Lib.hid hq
          clear hq hch HR3
          have C1 := Lib.hid (hc.clears HR4.out a2)
          go_wp2_with fail
          refine C1.out.mono ?_
          rintro e W5 ⟨rfl, hq, hch⟩
          clear C1
          have HR5 := Lib.hid hq
          clear hq hch HR4
          have C1 := Lib.hid (hc.counts HR5.out a2)
          go_wp2_with fail
          refine C1.out.mono ?_
          rintro e W6 ⟨rfl, hq, hch⟩
          clear C1
          have HR6 := Lib.hid hq
          clear hq hch HR5
          rw [cnt_clr]
          have C1 := Lib.hid (hc.clears HR6.out a2)
          go_wp2_with fail
          refine C1.out.mono ?_
          rintro e W7 ⟨rfl, hq, hch⟩
          clear C1
          rw [clr_clr] at hq
          have HR7 := Lib.hid hq
          clear hq hch HR6
          rw [cnt_clr]
          have C1 := Lib.hid (hc.alls HR7.out)
          go_wp2_with fail
          refine C1.out.mono ?_
          rintro e W8 ⟨⟨ab, cb, rfl, ho, hq⟩, hch⟩
          clear C1
          have HR8 := Lib.hid (hq.less (K' := fun _ => False) (fun _ h => h.elim))
          clear ho hq hch HR7
          obtain ⟨L2, hL2⟩ : ∃ L2, clrL L a2 = L2 := ⟨_, rfl⟩
          rw [hL2] at HR8 HCL ⊢
          obtain ⟨n, hn⟩ : ∃ n, cntN L a2 = n := ⟨_, rfl⟩
          rw [hn] at HCL ⊢
          clear hn hL2
          have h64 : L.length ≤ 64 := HLL.out
          have hsum : (L.length : Int) = (L2.length : Int) + (n : Int) := by have := HCL.out; omega
          have hL64 : L2.length ≤ 64 := by have := HCL.out; omega
          have hn64 : n ≤ 64 := by have := HCL.out; omega
          go_wp2_with fail
          clear hsum hL64 hn64 h64
          go_loopw [12] (fun i wr => ∃ (k : Nat) (L' : List Pk), L'.length = k ∧ i = .int .i64 k ∧ QS QSt w wr (fun _ => False) b a0 L') (fun i _ => (a0 - intOf i).toNat)
          case atStart => exact ⟨_, L2, rfl, rfl, HR8.out⟩
          case round =>
            obtain ⟨k, L', hk, rfl, hq⟩ := hrel
            have HR := Lib.hid hq
            have hlen := hq.len hc
            rw [hk] at hlen
            have HKK := Lib.hid hk
            have HLN := Lib.hid hlen
            clear hq hk hlen
            have h64 : (k : Int) ≤ 64 := by have := HLN.out; omega
            by_cases hlt : (k : Int) < a0
            · have hd : decide ((k : Int) < a0) = true := decide_eq_true hlt
              have HLT := Lib.hid hlt
              clear hlt
              have P1 := Lib.hid (put_room (m := a0) (l := L') (y := (0, 0, 0, (k : Int), ⟨#[]⟩)) (num_ok (by omega) (by omega)) (by have := HLT.out; have := HKK.out; omega))
              have C1 := Lib.hid (hc.puts HR.out (0, 0, 0, (k : Int), ⟨#[]⟩))
              go_wp2_with fail
              refine C1.out.mono ?_
              rintro e W3 ⟨rfl, hq, -⟩
              rw [P1.out.2] at hq
              rw [P1.out.1]
              have HR3 := Lib.hid hq
              clear hq C1
              go_wp2_with fail
              go_roundw
              case rel => exact ⟨k + 1, _, by rw [List.length_append, HKK.out]; rfl, by go_num, HR3.out⟩
              case measure => have := HLT.out; simp [intOf]; omega
            · have hd : decide ((k : Int) < a0) = false := decide_eq_false hlt
              have hka : (k : Int) = a0 := by have := HLN.out; omega
              have HKA := Lib.hid hka
              clear hlt hka
              have C1 := Lib.hid (awake10 hc wr)
              go_wp2_with fail
              refine C1.out.mono ?_
              rintro e W3 ⟨rfl, hb⟩
              have HR3 := Lib.hid (HR.out.under hc hb)
              clear hb C1
              have P1 := Lib.hid (put_full (m := a0) (l := L') (y := (0, 0, 0, 0, ⟨#[]⟩)) (num_ok (by decide) (by decide)) (by have := HKA.out; have := HKK.out; omega))
              have C1 := Lib.hid (hc.puts HR3.out (0, 0, 0, 0, ⟨#[]⟩))
              go_wp2_with fail
              refine C1.out.mono ?_
              rintro e W4 ⟨rfl, hq, -⟩
              rw [P1.out.2] at hq
              rw [P1.out.1]
              have HR4 := Lib.hid hq
              clear hq C1
              have C1 := Lib.hid (hc.alls HR4.out)
              go_wp2_with fail
              refine C1.out.mono ?_
              rintro e W5 ⟨⟨ab, cb, rfl, ho, hq⟩, hch⟩
              have HB5 := Lib.hid hq.bel
              clear hq ho hch C1
              have hfin : ((L'.length : Int) == a0) = true := by rw [HKK.out, HKA.out]; simp
              go_wp2_with fail
              go_ret
              exact ⟨rfl, HB5.out⟩
  · have C1 := Lib.hid (hc.new_no hm w)
    go_enter Try.func5, Try.ntmps5
    go_wp2_with fail
    refine C1.out.mono ?_
    rintro e W1 ⟨rfl, hb⟩
    have HB := Lib.hid hb
    clear hb C1
    have C9 := Lib.hid (awake10 hc W1)
    go_wp2_with fail
    refine C9.out.mono ?_
    rintro e W9 ⟨rfl, hb⟩
    have HB9 := Lib.hid (HB.out.trans (hb.mono HB.out.size))
    clear hb C9
    go_wp2_with fail
    go_ret
    exact ⟨rfl, HB9.out⟩

set_option maxRecDepth 100000 in
theorem lifted (os : _root_.Go.Os) (started : os.Started) (H : Type) (enc : TypeId × Value → H) :
    ReturnsInHanded {} Try.checked os 5 .any (Rows.queueClearsSpec.pre6 enc Try.prog Try.f5 Rows.queueClearsRow.domain false) (Rows.queueClearsSpec.post enc Try.prog Try.f5 false true false false) := by
  refine returnsInHanded_of_change (C := Try.checked) own started (by kernel_rfl) Try.func5
    (ChangeSpec.witness6 (enc := enc) (C := Try.checked) false ⟨#[], #[.int .i64 0, .slice none 0 0, .int .i64 0], []⟩ 16 (by kernel_rfl) (by kernel_rfl) (by kernel_rfl) (by kernel_rfl)) ?_
  intro W base args ds gs before hval0 hW hcnd _
  have hval : ∀ (j : Nat) t v, Try.f5.params[j]? = some t → args[j]? = some v → Value.okWide Try.prog W .any base t v := hval0
  have hW' := hW
  obtain ⟨p, q, hA0, hV, rfl, hfz, hnd⟩ := hW
  have hA : DataW.TrodAll enc Try.prog W 0 (fun _ => true) true Try.f5.params.toList args.toList ds p := hA0
  rw [Try.params5] at hA hval
  obtain ⟨v0, vs0, e0, ds0, p0, q0, hargs, rfl, rfl, h0, x0⟩ := trodAll_cons hA
  obtain ⟨v1, vs1, e1, ds1, p1, q1, rfl, rfl, rfl, h1, x1⟩ := trodAll_cons x0
  obtain ⟨v2, vs2, e2, ds2, p2, q2, rfl, rfl, rfl, h2, x2⟩ := trodAll_cons x1
  obtain ⟨rfl, rfl, rfl⟩ := trodAll_nil x2
  obtain rfl : args = #[v0, v1, v2] := by cases args; simp_all
  obtain ⟨rfl, rfl⟩ := trodVars_none hV
  have k0 := h0
  have lt0 : ∀ x ∈ p0, x.block < W.heap.size := by obtain ⟨m, hm⟩ := k0; exact DataW.trod_lt m _ _ _ hm
  obtain ⟨a0, rfl, _, _, w0⟩ := open_int Try.underlying3 (hval 0 3 v0 rfl rfl) h0
  have k1 := h1
  have lt1 : ∀ x ∈ p1, x.block < W.heap.size := by obtain ⟨m, hm⟩ := k1; exact DataW.trod_lt m _ _ _ hm
  have k2 := h2
  have lt2 : ∀ x ∈ p2, x.block < W.heap.size := by obtain ⟨m, hm⟩ := k2; exact DataW.trod_lt m _ _ _ hm
  obtain ⟨a2, rfl, _, _, w2⟩ := open_int Try.underlying3 (hval 2 3 v2 rfl rfl) h2
  obtain ⟨a1, len1, cap1, rfl⟩ := okWide_slice underKS (hval 1 30 v1 rfl rfl)
  obtain ⟨z1, hz1, w1⟩ := ks_form h1
  subst hz1
  clear hA0 hval0
  refine (walk qc a0 (i64_wf w0) a1 cap1 z1 a2 (i64_wf w2) W w1).mono fun e W' ⟨he, bel⟩ => ?_
  subst he
  exact ⟨_, rfl, _, _, _, [], _, [], hW', trodAll_mk1 (shut_bool Try.underlying4 _), (trodAll_cons_mk (Below.trod laidOut (by kernel_rfl) (of_decide_eq_true (by kernel_rfl)) k0 bel lt0) (trodAll_cons_mk (Below.trod laidOut (by kernel_rfl) (of_decide_eq_true (by kernel_rfl)) k1 bel lt1) (trodAll_cons_mk (Below.trod laidOut (by kernel_rfl) (of_decide_eq_true (by kernel_rfl)) k2 bel lt2) trodAll_mk0))), rfl, bel.frame _, fun h => by cases h⟩

theorem over : Rows.queueClearsRow.holds Try.pinned (OpenSpec.ofChange Rows.queueClearsSpec) :=
  OpenClaim.holds_of_wide 5 Try.f5 rfl rfl rfl rfl rfl rfl rfl ⟨rfl, rfl, rfl, rfl, rfl⟩ rfl rfl rfl rfl rfl (by kernel_rfl) Try.func5 (by kernel_rfl)
    (of_decide_eq_true (by kernel_rfl)) (by unfold Func.isWrapper; first | (rw [if_pos (by decide +kernel)]; kernel_rfl) | (rw [if_neg (by decide +kernel)]; exact ⟨rfl, rfl⟩))
    (fun os started H enc _ => lifted os started H enc)

theorem proved : Rows.QueueClearsSaid := over
#print axioms proved
end Go.Proofs.Ytgcjmnjepnmaeaa.queueClears
