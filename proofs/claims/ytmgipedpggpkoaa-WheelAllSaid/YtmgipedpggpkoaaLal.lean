/- thalweglaw11.WheelAll: for any script of calls the law answers true; no condition. -/
import Derived.Test.YtmgipedpggpkoaaWaw
import Derived.Test.YtmgipedpggpkoaaWpg
import Derived.WalkLawsBesides
import Derived.WalkKit
import Derived.ProofKit
import Derived.OpenShut
import Derived.ShutString
import Derived.ChangeOld
import Derived.Below
namespace Go.Proofs.Ytmgipedpggpkoaa.wheelAll
open Go.ChangeShapes Go.WideShapes Go.ChangeAt Go.RowKit
open Go.ChangeMaps (open_string shut_string)
set_option linter.unusedVariables false
set_option maxRecDepth 100000

theorem own : ownKnob Try.prog.godebug = none := by kernel_rfl
theorem laidOut : laidOutB Try.prog = true := by kernel_rfl

theorem due_all {l : List Tm} (h : TOk l) : dueK l 1000000000000 = l.map (·.2) ∧ dueL l 1000000000000 = [] := by
  have h1 : ∀ i, i < l.length → (l.getD i zTm).1 ≤ 1000000000000 := fun i hi => by
    have := (h.rg (l.getD i zTm) (by simp [List.getD, hi])).2.1
    exact this
  have h2 := due_at (l := l) (now := 1000000000000) (k := l.length) (Nat.le_refl _) h1 (fun h => absurd h (Nat.lt_irrefl _))
  rw [List.take_length, List.drop_length] at h2
  exact h2
set_option maxHeartbeats 16000000 in
theorem walk {WSt : World → (Nat → Prop) → Nat → List Tm → Prop} (hc : Wc WSt) (a0 : Option Addr) (cap0 : Nat) (z0 : List OpT) (w : World) (w0 : Sc w (.slice a0 z0.length cap0) z0) (q0 : OpsW z0):
    Calls Try.prog 7 #[.slice a0 z0.length cap0] w fun e w' => e = .returned (.bool true) ∧ Below w.heap.size w w' := by
  have C1 := Lib.hid (hc.news w)
  have HK := Lib.hid w0
  have HOW := Lib.hid q0
  clear w0 q0
  go_enter Try.func7, Try.ntmps7
  go_wp2_with fail
  refine C1.out.mono ?_
  rintro e W1 ⟨b, rfl, hq, -⟩
  have HQ := Lib.hid hq
  clear hq C1
  by_cases hl : (100 : Int) < (z0.length : Int)
  · have hd : decide ((100 : Int) < (z0.length : Int)) = true := decide_eq_true hl
    have C9 := Lib.hid (awake11 hc W1)
    go_wp2_with fail
    refine C9.out.mono ?_
    rintro e W9 ⟨rfl, hb⟩
    have HB9 := Lib.hid (HQ.out.bel.trans (hb.mono HQ.out.bel.size))
    clear hb C9
    go_wp2_with fail
    go_ret
    exact ⟨rfl, HB9.out⟩
  · have hd : decide ((100 : Int) < (z0.length : Int)) = false := decide_eq_false hl
    have hl2 : z0.length ≤ 100 := by omega
    clear hl
    go_wp2_with fail
    clear hd
    go_loopw [4] (fun i wr => ∃ (k : Nat) (L : List Tm), k ≤ z0.length ∧ i = .int .i64 k ∧ WS WSt w wr (fun _ => False) b L) (fun i _ => z0.length - (intOf i).toNat)
    case atStart => exact ⟨0, [], Nat.zero_le _, rfl, HQ.out⟩
    case round =>
      obtain ⟨k, L, hk, rfl, hq⟩ := hrel
      have HR := Lib.hid hq
      clear hq
      by_cases hlt : k < z0.length
      · obtain ⟨b2, off, rfl, hB, p0, p1, p2⟩ := (HK.out.below (HR.out.bel.mono (Nat.le_refl _))).at hlt
        obtain ⟨y, hy⟩ : ∃ y, z0.getD k zOp = y := ⟨_, rfl⟩
        have HYW : Hid (OpW y) := hy ▸ HOW.out.at hlt
        rw [hy] at p0 p1 p2
        clear hy
        have C2 := Lib.hid (hc.sets (HR.out.drew hc) y.2.1 y.2.2 HYW.out.2.1)
        go_upto_region 7 with (fail)
        go_region_with (go_at_call 9; refine C2.out.mono ?_; rintro e W3 ⟨rfl, hq, -⟩; have HR3 := Lib.hid hq; clear hq)
        all_goals
          go_wp2_with fail
          go_roundw
          case rel => exact ⟨k + 1, _, by omega, by go_num, HR3.out⟩
          case measure => simp [intOf]; omega
      · obtain rfl : k = z0.length := by omega
        have C1 := Lib.hid (hc.lists HR.out)
        have HOK := Lib.hid (HR.out.ok hc)
        go_wp2_with fail
        refine C1.out.mono ?_
        rintro e W3 ⟨⟨aa, ca, rfl, ho, hq⟩, hch⟩
        have HO := Lib.hid (ho.mono HR.out.bel.size)
        have HR3 := Lib.hid hq
        have hLl : L.length ≤ 1024 := HOK.out.len
        have HLL := Lib.hid hLl
        clear ho hq hch C1 HR HK hk hlt hl2
        go_wp2_with fail
        go_loopw [6, 7] (fun wv i wr => ∃ (k : Nat) (ax : Option Addr) (cx : Nat), k ≤ L.length ∧ i = .int .i64 k ∧ wv = .slice ax k cx ∧ Hid (OwI wr W3.heap.size (.slice ax k cx) ((L.take k).map (·.2))) ∧ Hid (Below W3.heap.size W3 wr)) (fun _ i _ => L.length - (intOf i).toNat)
        case atStart => exact ⟨0, none, 0, Nat.zero_le _, rfl, rfl, OwI_nil W3 _, Below.refl _ _⟩
        case round =>
          obtain ⟨k, ax, cx, hk, rfl, rfl, HV, HB⟩ := hrel
          have HO3 := Lib.hid (HO.out.below HB.out)
          by_cases hlt : k < L.length
          · obtain ⟨b2, off, rfl, hB, p0, p1⟩ := HO3.out.ms.at hlt
            have htk := tm_take L k hlt
            obtain ⟨y, hy⟩ : ∃ y, L.getD k zTm = y := ⟨_, rfl⟩
            rw [hy] at p0 p1 htk
            have HTK := Lib.hid htk
            have hml : ((L.take k).map (·.2)).length = k := by rw [List.length_map, List.length_take]; omega
            have HML := Lib.hid hml
            have HXL : Hid (((L.take k).map (·.2)).length ≤ 3000) := by show _ ≤ _; rw [hml]; omega
            have HSW : Hid (W3.heap.size ≤ wr.heap.size) := HB.out.size
            clear hml hy htk
            go_wp2_with (at_builtin; refine iapp1_any rfl (.tmp 50) (.tmp 56) rfl wr y.2 rfl W3.heap.size (.slice ax k cx) ((L.take k).map (·.2)) rfl rfl HV.out HXL.out HSW.out ?_; intro g cap w4 ho9 hb9; rw [HML.out]; rw [HML.out] at ho9; have HV4 := Lib.hid ho9; have HB4 := Lib.hid (HB.out.trans hb9); clear ho9 hb9)
            go_roundw
            case rel =>
              refine ⟨k + 1, _, _, by omega, by go_num, rfl, ?_, HB4.out⟩
              rw [HTK.out, List.map_append]
              exact HV4.out
            case measure => simp [intOf]; omega
          · obtain rfl : k = L.length := by omega
            rw [List.take_length] at HV
            have hq4 := HR3.out.more hc HB.out (K' := fun g => (False ∨ (Value.slice aa L.length ca).ownBlock = some g) ∨ (Value.slice ax L.length cx).ownBlock = some g) (fun g hg => hg.elim (fun h => .inl h) (fun h => .inr (HV.out.lt g h)))
            have C5 := Lib.hid (hc.nexts hq4)
            clear hq4
            go_wp2_with fail
            refine C5.out.mono ?_
            rintro e W5 ⟨rfl, hq, hch⟩
            have HO5 := Lib.hid (HO3.out.chg hch (fun g hg => off_no (.inl (.inr hg))))
            have HV5 := Lib.hid (HV.out.chg hch (fun g hg => off_no (.inr hg)))
            have C6 := Lib.hid (hc.dues hq 1000000000000)
            clear hq hch C5
            go_wp2_with fail
            refine C6.out.mono ?_
            rintro e W6 ⟨⟨ag, cg, rfl, ho, hq⟩, hch⟩
            have HE := Lib.hid (due_all HOK.out)
            rw [HE.out.1, List.length_map] at ho hq
            rw [HE.out.2] at hq
            rw [HE.out.1, List.length_map]
            have ho6 := HO5.out.chg hch (fun g hg => off_no (.inl (.inr hg)))
            have hv6 := HV5.out.chg hch (fun g hg => off_no (.inr hg))
            have HG6 := Lib.hid ho
            have HQ6 := Lib.hid hq
            have HO6 := Lib.hid ho6
            have HV6 := Lib.hid hv6
            have C7 := Lib.hid (awake11 hc W6)
            clear ho hq hch ho6 hv6 C6
            go_wp2_with fail
            refine C7.out.mono ?_
            rintro e W7 ⟨rfl, hb⟩
            have hm : (L.map (·.2)).length ≤ 4000 := by rw [List.length_map]; have := HLL.out; omega
            have C8 := Lib.hid (ints_any _ _ _ _ W7 ((HG6.out.below hb).zs hm) ((HV6.out.below hb).zs hm))
            rw [decide_eq_true (rfl : L.map (fun y : Tm => y.2) = L.map (fun y : Tm => y.2))] at C8
            have HO7 := Lib.hid (HO6.out.below hb)
            have HQ7 := Lib.hid (HQ6.out.under hc hb)
            clear hb hm C7
            go_wp2_with fail
            refine C8.out.mono ?_
            rintro e W8 ⟨rfl, hb⟩
            have HO8 := Lib.hid (HO7.out.below hb)
            have C9 := Lib.hid (hc.lists (HQ7.out.under hc hb))
            clear hb C8
            go_wp2_with fail
            refine C9.out.mono ?_
            rintro e W9 ⟨⟨a9, c9, rfl, -, hq⟩, hch⟩
            have HO9 := Lib.hid (HO8.out.chg hch (fun g hg => off_no (.inl (.inl (.inr hg)))))
            have HB9 := Lib.hid hq.bel
            clear hq hch C9
            cases L with
            | nil =>
              go_wp2_with fail
              go_ret
              exact ⟨rfl, HB9.out⟩
            | cons y r =>
              obtain ⟨b2, off, rfl, hB, p0, p1⟩ := HO9.out.ms.at (i := 0) (by simp)
              simp only [List.getD_cons_zero, Nat.zero_mul, Nat.add_zero] at p0 p1
              have n1 : nextV (y :: r) = y.1 := rfl
              have n2 : nextB (y :: r) = true := rfl
              go_wp2_with fail
              go_ret
              exact ⟨rfl, HB9.out⟩

set_option maxRecDepth 100000 in
theorem lifted (os : _root_.Go.Os) (started : os.Started) (H : Type) (enc : TypeId × Value → H) :
    ReturnsInHanded {} Try.checked os 7 .any (Rows.wheelAllSpec.pre6 enc Try.prog Try.f7 Rows.wheelAllRow.domain false) (Rows.wheelAllSpec.post enc Try.prog Try.f7 false true false false) := by
  refine returnsInHanded_of_change (C := Try.checked) own started (by kernel_rfl) Try.func7
    (ChangeSpec.witness6 (enc := enc) (C := Try.checked) false ⟨#[], #[.slice none 0 0], []⟩ 16 (by kernel_rfl) (by kernel_rfl) (by kernel_rfl) (by kernel_rfl)) ?_
  intro W base args ds gs before hval0 hW hcnd _
  have hval : ∀ (j : Nat) t v, Try.f7.params[j]? = some t → args[j]? = some v → Value.okWide Try.prog W .any base t v := hval0
  have hW' := hW
  obtain ⟨p, q, hA0, hV, rfl, hfz, hnd⟩ := hW
  have hA : DataW.TrodAll enc Try.prog W 0 (fun _ => true) true Try.f7.params.toList args.toList ds p := hA0
  rw [Try.params7] at hA hval
  obtain ⟨v0, vs0, e0, ds0, p0, q0, hargs, rfl, rfl, h0, x0⟩ := trodAll_cons hA
  obtain ⟨rfl, rfl, rfl⟩ := trodAll_nil x0
  obtain rfl : args = #[v0] := by cases args; simp_all
  obtain ⟨rfl, rfl⟩ := trodVars_none hV
  have k0 := h0
  have lt0 : ∀ x ∈ p0, x.block < W.heap.size := by obtain ⟨m, hm⟩ := k0; exact DataW.trod_lt m _ _ _ hm
  obtain ⟨a0, len0, cap0, rfl⟩ := okWide_slice underOPS (hval 0 22 v0 rfl rfl)
  obtain ⟨z0, hz0, w0, q0⟩ := sc_form h0
  subst hz0
  clear hA0 hval0
  refine (walk wc a0 cap0 z0 W w0 q0).mono fun e W' ⟨he, bel⟩ => ?_
  subst he
  exact ⟨_, rfl, _, _, _, [], _, [], hW', trodAll_mk1 (shut_bool Try.underlying4 _), (trodAll_cons_mk (Below.trod laidOut (by kernel_rfl) (of_decide_eq_true (by kernel_rfl)) k0 bel lt0) trodAll_mk0), rfl, bel.frame _, fun h => by cases h⟩

theorem over : Rows.wheelAllRow.holds Try.pinned (OpenSpec.ofChange Rows.wheelAllSpec) :=
  OpenClaim.holds_of_wide 7 Try.f7 rfl rfl rfl rfl rfl rfl rfl ⟨rfl, rfl, rfl, rfl, rfl⟩ rfl rfl rfl rfl rfl (by kernel_rfl) Try.func7 (by kernel_rfl)
    (of_decide_eq_true (by kernel_rfl)) (by unfold Func.isWrapper; first | (rw [if_pos (by decide +kernel)]; kernel_rfl) | (rw [if_neg (by decide +kernel)]; exact ⟨rfl, rfl⟩))
    (fun os started H enc _ => lifted os started H enc)

theorem proved : Rows.WheelAllSaid := over
#print axioms proved
end Go.Proofs.Ytmgipedpggpkoaa.wheelAll
