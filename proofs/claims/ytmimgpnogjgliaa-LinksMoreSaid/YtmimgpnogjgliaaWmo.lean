/- thalweglaw18.LinksMore: for any views, height, number and height the law answers true; no condition. -/
import Derived.Test.YtmimgpnogjgliaaRb
import Derived.Test.YtmimgpnogjgliaaMa
import Derived.Test.YtmimgpnogjgliaaVb
import Derived.Test.YtmimgpnogjgliaaPc
import Derived.Test.YtmimgpnogjgliaaPb
import Derived.WalkLawsBesides
import Derived.WalkKit
import Derived.ProofKit
import Derived.OpenShut
import Derived.ShutString
import Derived.ChangeOld
import Derived.Below
namespace Go.Proofs.Ytmimgpnogjgliaa.linksMore
open Go.ChangeShapes Go.WideShapes Go.ChangeAt Go.RowKit
open Go.ChangeMaps (open_string shut_string)
set_option linter.unusedVariables false
set_option maxRecDepth 100000

theorem own : ownKnob Try.prog.godebug = none := by kernel_rfl
theorem laidOut : laidOutB Try.prog = true := by kernel_rfl
theorem setL_len (l : List Vw) (id : Int) (h : Hx) : (setL l id h).length ≤ l.length + 1 := by
  unfold setL
  split
  · exact raw_len id h l
  · exact Nat.zero_le _
theorem getB_mem {l : List Vw} {id : Int} (h : getB l id = false) : ∀ y ∈ l, y.1 ≠ id := fun y hy e => by
  unfold getB at h
  rw [List.any_eq_false] at h
  exact h y hy (by simp [isId, e])
theorem rest_step (B : List Int) (id : Int) (k : Nat) (h : k < B.length) : (B.take (k + 1)).filter (fun i => decide (i ≠ id)) = (B.take k).filter (fun i => decide (i ≠ id)) ++ if B.getD k 0 ≠ id then [B.getD k 0] else [] := by
  have e : B.take (k + 1) = B.take k ++ [B.getD k 0] := by
    rw [List.take_add_one]
    simp [List.getD, h]
  rw [e, List.filter_append]
  congr 1
  by_cases hd : B.getD k 0 ≠ id
  · rw [if_pos hd, List.filter_cons_of_pos (by simpa using hd)]; rfl
  · rw [if_neg hd, List.filter_cons_of_neg (by simpa using hd)]; rfl
set_option maxHeartbeats 16000000 in
theorem walk0 (a0 : Option Addr) (cap0 : Nat) (z0 : List Vw) (x1 : Hx) (a2 : Int) (x3 : Hx) (w : World) (r0 : Vs w (.slice a0 z0.length cap0) z0) (hm : z0.length ≤ maxLen) :
    Calls Try.prog 7 #[.slice a0 z0.length cap0, hxV x1, .int .i64 a2, hxV x3] w fun e w' => e = .returned (.bool true) ∧ Below w.heap.size w w' := by
  have HB : Hid (Below w.heap.size w w) := Below.refl _ _
  have H0 := Lib.hid r0
  have CG := Lib.hid (fun W h => vget_any (.slice a0 z0.length cap0) z0 a2 W h hm)
  have CS := Lib.hid (fun W h => vset_big (.slice a0 z0.length cap0) z0 a2 x3 W h hm)
  have hset := set_cases z0 a2 x3
  have hmb := getB_mem (l := z0) (id := a2)
  have hsl := setL_len z0 a2 x3
  obtain ⟨gv, hgv⟩ : ∃ gv, getV z0 a2 = gv := ⟨_, rfl⟩
  obtain ⟨gb, hgb⟩ : ∃ gb, getB z0 a2 = gb := ⟨_, rfl⟩
  obtain ⟨se, hse⟩ : ∃ se, setE z0 a2 x3 = se := ⟨_, rfl⟩
  obtain ⟨ml, hml⟩ : ∃ ml, setL z0 a2 x3 = ml := ⟨_, rfl⟩
  rw [hgv, hgb] at CG
  rw [hse, hml] at CS hset
  rw [hgb] at hmb
  rw [hml] at hsl
  have HMB := Lib.hid hmb
  have HSL := Lib.hid hsl
  have HNM : Hid (z0.length ≤ 9223372036854775807) := Nat.le_trans hm (by decide)
  clear r0 hgv hgb hse hml hmb hm hsl
  by_cases hl : 80 < z0.length
  · have hl' : (80 : Int) < (z0.length : Int) := by omega
    clear hl hset
    go_enter Try.func7, Try.ntmps7
    obtain ⟨W1, hW⟩ : ∃ W1, (w.alloc (.cells #[.bool x1.1, .int .i64 x1.2.1, .int .i64 x1.2.2.1, .int .i64 x1.2.2.2.1, .int .i64 x1.2.2.2.2.1, .int .i64 x1.2.2.2.2.2] 24)).alloc (.cells #[.bool x3.1, .int .i64 x3.2.1, .int .i64 x3.2.2.1, .int .i64 x3.2.2.2.1, .int .i64 x3.2.2.2.2.1, .int .i64 x3.2.2.2.2.2] 24) = W1 := ⟨_, rfl⟩
    have hs1 : (w.alloc (.cells #[.bool x1.1, .int .i64 x1.2.1, .int .i64 x1.2.2.1, .int .i64 x1.2.2.2.1, .int .i64 x1.2.2.2.2.1, .int .i64 x1.2.2.2.2.2] 24)).heap.size = w.heap.size + 1 := by simp
    have hb : Below w.heap.size w W1 := hW ▸ ((Below.refl _ w).alloc (Nat.le_refl _) _).alloc (by simp) _
    have X1 := Lib.hid (hW ▸ (own6_alloc w x1.1 x1.2.1 x1.2.2.1 x1.2.2.2.1 x1.2.2.2.2.1 x1.2.2.2.2.2 24 w.heap.size rfl).below ((Below.refl _ _).alloc (Nat.le_refl _) _) : Own6 W1 w.heap.size x1.1 x1.2.1 x1.2.2.1 x1.2.2.2.1 x1.2.2.2.2.1 x1.2.2.2.2.2)
    have X3 := Lib.hid (hW ▸ own6_alloc (w.alloc (.cells #[.bool x1.1, .int .i64 x1.2.1, .int .i64 x1.2.2.1, .int .i64 x1.2.2.2.1, .int .i64 x1.2.2.2.2.1, .int .i64 x1.2.2.2.2.2] 24)) x3.1 x3.2.1 x3.2.2.1 x3.2.2.2.1 x3.2.2.2.2.1 x3.2.2.2.2.2 24 (w.heap.size + 1) hs1.symm : Own6 W1 (w.heap.size + 1) x3.1 x3.2.1 x3.2.2.1 x3.2.2.2.1 x3.2.2.2.2.1 x3.2.2.2.2.2)
    have HW := Lib.hid hW
    clear hW hs1
    go_upto_region 1 with (fail)
    change Code.wp _ _ _ _ ((w.alloc (.cells #[.bool x1.1, .int .i64 x1.2.1, .int .i64 x1.2.2.1, .int .i64 x1.2.2.2.1, .int .i64 x1.2.2.2.2.1, .int .i64 x1.2.2.2.2.2] 24)).alloc (.cells #[.bool x3.1, .int .i64 x3.2.1, .int .i64 x3.2.2.1, .int .i64 x3.2.2.2.1, .int .i64 x3.2.2.2.2.1, .int .i64 x3.2.2.2.2.2] 24))
    rw [HW.out]
    replace H0 := Lib.hid (H0.out.below hb)
    replace HB := Lib.hid (HB.out.trans (hb.mono HB.out.size))
    clear hb HW
    obtain ⟨⟨u0, u1, u2, u3, u4, u5⟩, -⟩ := X1.out
    obtain ⟨⟨v0, v1, v2, v3, v4, v5⟩, -⟩ := X3.out
    go_wp2_with fail
    refine (CG.out _ H0.out).mono ?_
    rintro e W2 ⟨rfl, hb⟩
    replace H0 := Lib.hid (H0.out.below hb)
    replace X1 := Lib.hid (X1.out.below hb)
    replace X3 := Lib.hid (X3.out.below hb)
    replace HB := Lib.hid (HB.out.trans (hb.mono HB.out.size))
    clear hb
    clear u0 u1 u2 u3 u4 u5 v0 v1 v2 v3 v4 v5
    obtain ⟨⟨u0, u1, u2, u3, u4, u5⟩, -⟩ := X1.out
    obtain ⟨⟨v0, v1, v2, v3, v4, v5⟩, -⟩ := X3.out
    obtain ⟨W3, hW⟩ : ∃ W3, W2.alloc (.cells #[.bool gv.1, .int .i64 gv.2.1, .int .i64 gv.2.2.1, .int .i64 gv.2.2.2.1, .int .i64 gv.2.2.2.2.1, .int .i64 gv.2.2.2.2.2] 24) = W3 := ⟨_, rfl⟩
    have hb : Below W2.heap.size W2 W3 := hW ▸ (Below.refl _ W2).alloc (Nat.le_refl _) _
    have X9 := Lib.hid (hW ▸ own6_alloc W2 gv.1 gv.2.1 gv.2.2.1 gv.2.2.2.1 gv.2.2.2.2.1 gv.2.2.2.2.2 24 W2.heap.size rfl)
    have HW := Lib.hid hW
    clear hW
    go_upto_region 2 with (fail)
    change Code.wp _ _ _ _ (W2.alloc (.cells #[.bool gv.1, .int .i64 gv.2.1, .int .i64 gv.2.2.1, .int .i64 gv.2.2.2.1, .int .i64 gv.2.2.2.2.1, .int .i64 gv.2.2.2.2.2] 24))
    rw [HW.out]
    replace H0 := Lib.hid (H0.out.below hb)
    replace X1 := Lib.hid (X1.out.below hb)
    replace X3 := Lib.hid (X3.out.below hb)
    replace HB := Lib.hid (HB.out.trans (hb.mono HB.out.size))
    clear hb HW
    clear u0 u1 u2 u3 u4 u5 v0 v1 v2 v3 v4 v5
    obtain ⟨⟨u0, u1, u2, u3, u4, u5⟩, -⟩ := X1.out
    obtain ⟨⟨v0, v1, v2, v3, v4, v5⟩, -⟩ := X3.out
    go_wp2_with fail
    refine (CS.out _ H0.out).mono ?_
    rintro e W4 ⟨rm, rfl, hv, hb⟩
    replace H0 := Lib.hid (H0.out.below hb)
    replace X1 := Lib.hid (X1.out.below hb)
    replace X3 := Lib.hid (X3.out.below hb)
    replace HB := Lib.hid (HB.out.trans (hb.mono HB.out.size))
    have HM := Lib.hid hv
    clear hv
    clear hb
    clear u0 u1 u2 u3 u4 u5 v0 v1 v2 v3 v4 v5
    obtain ⟨⟨u0, u1, u2, u3, u4, u5⟩, -⟩ := X1.out
    obtain ⟨⟨v0, v1, v2, v3, v4, v5⟩, -⟩ := X3.out
    obtain ⟨am, cm, rfl⟩ := HM.out.form
    clear X9
    go_wp2_with fail
    refine (awake18 _).mono ?_
    rintro e W5 ⟨rfl, hb⟩
    replace H0 := Lib.hid (H0.out.below hb)
    replace HM := Lib.hid (HM.out.below hb)
    replace X1 := Lib.hid (X1.out.below hb)
    replace X3 := Lib.hid (X3.out.below hb)
    replace HB := Lib.hid (HB.out.trans (hb.mono HB.out.size))
    clear hb
    go_wp2_with fail
    go_ret
    exact ⟨rfl, HB.out⟩
  · have hl' : ¬ (80 : Int) < (z0.length : Int) := by omega
    have HL : Hid (z0.length ≤ 80) := by show _ ≤ _; omega
    clear hl
    rcases hset with ⟨rfl, hok⟩ | ⟨rfl, _⟩
    · have HOK := Lib.hid hok
      clear hok
      cases gb with
      | true =>
        go_enter Try.func7, Try.ntmps7
        obtain ⟨W1, hW⟩ : ∃ W1, (w.alloc (.cells #[.bool x1.1, .int .i64 x1.2.1, .int .i64 x1.2.2.1, .int .i64 x1.2.2.2.1, .int .i64 x1.2.2.2.2.1, .int .i64 x1.2.2.2.2.2] 24)).alloc (.cells #[.bool x3.1, .int .i64 x3.2.1, .int .i64 x3.2.2.1, .int .i64 x3.2.2.2.1, .int .i64 x3.2.2.2.2.1, .int .i64 x3.2.2.2.2.2] 24) = W1 := ⟨_, rfl⟩
        have hs1 : (w.alloc (.cells #[.bool x1.1, .int .i64 x1.2.1, .int .i64 x1.2.2.1, .int .i64 x1.2.2.2.1, .int .i64 x1.2.2.2.2.1, .int .i64 x1.2.2.2.2.2] 24)).heap.size = w.heap.size + 1 := by simp
        have hb : Below w.heap.size w W1 := hW ▸ ((Below.refl _ w).alloc (Nat.le_refl _) _).alloc (by simp) _
        have X1 := Lib.hid (hW ▸ (own6_alloc w x1.1 x1.2.1 x1.2.2.1 x1.2.2.2.1 x1.2.2.2.2.1 x1.2.2.2.2.2 24 w.heap.size rfl).below ((Below.refl _ _).alloc (Nat.le_refl _) _) : Own6 W1 w.heap.size x1.1 x1.2.1 x1.2.2.1 x1.2.2.2.1 x1.2.2.2.2.1 x1.2.2.2.2.2)
        have X3 := Lib.hid (hW ▸ own6_alloc (w.alloc (.cells #[.bool x1.1, .int .i64 x1.2.1, .int .i64 x1.2.2.1, .int .i64 x1.2.2.2.1, .int .i64 x1.2.2.2.2.1, .int .i64 x1.2.2.2.2.2] 24)) x3.1 x3.2.1 x3.2.2.1 x3.2.2.2.1 x3.2.2.2.2.1 x3.2.2.2.2.2 24 (w.heap.size + 1) hs1.symm : Own6 W1 (w.heap.size + 1) x3.1 x3.2.1 x3.2.2.1 x3.2.2.2.1 x3.2.2.2.2.1 x3.2.2.2.2.2)
        have HW := Lib.hid hW
        clear hW hs1
        go_upto_region 1 with (fail)
        change Code.wp _ _ _ _ ((w.alloc (.cells #[.bool x1.1, .int .i64 x1.2.1, .int .i64 x1.2.2.1, .int .i64 x1.2.2.2.1, .int .i64 x1.2.2.2.2.1, .int .i64 x1.2.2.2.2.2] 24)).alloc (.cells #[.bool x3.1, .int .i64 x3.2.1, .int .i64 x3.2.2.1, .int .i64 x3.2.2.2.1, .int .i64 x3.2.2.2.2.1, .int .i64 x3.2.2.2.2.2] 24))
        rw [HW.out]
        replace H0 := Lib.hid (H0.out.below hb)
        replace HB := Lib.hid (HB.out.trans (hb.mono HB.out.size))
        clear hb HW
        obtain ⟨⟨u0, u1, u2, u3, u4, u5⟩, -⟩ := X1.out
        obtain ⟨⟨v0, v1, v2, v3, v4, v5⟩, -⟩ := X3.out
        go_wp2_with fail
        refine (CG.out _ H0.out).mono ?_
        rintro e W2 ⟨rfl, hb⟩
        replace H0 := Lib.hid (H0.out.below hb)
        replace X1 := Lib.hid (X1.out.below hb)
        replace X3 := Lib.hid (X3.out.below hb)
        replace HB := Lib.hid (HB.out.trans (hb.mono HB.out.size))
        clear hb
        clear u0 u1 u2 u3 u4 u5 v0 v1 v2 v3 v4 v5
        obtain ⟨⟨u0, u1, u2, u3, u4, u5⟩, -⟩ := X1.out
        obtain ⟨⟨v0, v1, v2, v3, v4, v5⟩, -⟩ := X3.out
        obtain ⟨W3, hW⟩ : ∃ W3, W2.alloc (.cells #[.bool gv.1, .int .i64 gv.2.1, .int .i64 gv.2.2.1, .int .i64 gv.2.2.2.1, .int .i64 gv.2.2.2.2.1, .int .i64 gv.2.2.2.2.2] 24) = W3 := ⟨_, rfl⟩
        have hb : Below W2.heap.size W2 W3 := hW ▸ (Below.refl _ W2).alloc (Nat.le_refl _) _
        have X9 := Lib.hid (hW ▸ own6_alloc W2 gv.1 gv.2.1 gv.2.2.1 gv.2.2.2.1 gv.2.2.2.2.1 gv.2.2.2.2.2 24 W2.heap.size rfl)
        have HW := Lib.hid hW
        clear hW
        go_upto_region 2 with (fail)
        change Code.wp _ _ _ _ (W2.alloc (.cells #[.bool gv.1, .int .i64 gv.2.1, .int .i64 gv.2.2.1, .int .i64 gv.2.2.2.1, .int .i64 gv.2.2.2.2.1, .int .i64 gv.2.2.2.2.2] 24))
        rw [HW.out]
        replace H0 := Lib.hid (H0.out.below hb)
        replace X1 := Lib.hid (X1.out.below hb)
        replace X3 := Lib.hid (X3.out.below hb)
        replace HB := Lib.hid (HB.out.trans (hb.mono HB.out.size))
        clear hb HW
        clear u0 u1 u2 u3 u4 u5 v0 v1 v2 v3 v4 v5
        obtain ⟨⟨u0, u1, u2, u3, u4, u5⟩, -⟩ := X1.out
        obtain ⟨⟨v0, v1, v2, v3, v4, v5⟩, -⟩ := X3.out
        go_wp2_with fail
        refine (CS.out _ H0.out).mono ?_
        rintro e W4 ⟨rm, rfl, hv, hb⟩
        replace H0 := Lib.hid (H0.out.below hb)
        replace X1 := Lib.hid (X1.out.below hb)
        replace X3 := Lib.hid (X3.out.below hb)
        replace HB := Lib.hid (HB.out.trans (hb.mono HB.out.size))
        have HM := Lib.hid hv
        clear hv
        clear hb
        clear u0 u1 u2 u3 u4 u5 v0 v1 v2 v3 v4 v5
        obtain ⟨⟨u0, u1, u2, u3, u4, u5⟩, -⟩ := X1.out
        obtain ⟨⟨v0, v1, v2, v3, v4, v5⟩, -⟩ := X3.out
        obtain ⟨am, cm, rfl⟩ := HM.out.form
        clear X9
        go_wp2_with fail
        refine (awake18 _).mono ?_
        rintro e W5 ⟨rfl, hb⟩
        replace H0 := Lib.hid (H0.out.below hb)
        replace HM := Lib.hid (HM.out.below hb)
        replace X1 := Lib.hid (X1.out.below hb)
        replace X3 := Lib.hid (X3.out.below hb)
        replace HB := Lib.hid (HB.out.trans (hb.mono HB.out.size))
        clear hb
        go_wp2_with fail
        go_ret
        exact ⟨rfl, HB.out⟩
      | false =>
        by_cases ho : HtOk x1.1 x1.2.1 x1.2.2.1 x1.2.2.2.1 x1.2.2.2.2.1 x1.2.2.2.2.2
        · have CC := Lib.hid (fun W => check_any x1.1 x1.2.1 x1.2.2.1 x1.2.2.2.1 x1.2.2.2.2.1 x1.2.2.2.2.2 W)
          rw [chk_ok ho] at CC
          have HHO := Lib.hid ho
          clear ho
          cases hn0 : x1.1 with
          | true =>
            have HNO := Lib.hid hn0
            clear hn0
            go_enter Try.func7, Try.ntmps7
            obtain ⟨W1, hW⟩ : ∃ W1, (w.alloc (.cells #[.bool x1.1, .int .i64 x1.2.1, .int .i64 x1.2.2.1, .int .i64 x1.2.2.2.1, .int .i64 x1.2.2.2.2.1, .int .i64 x1.2.2.2.2.2] 24)).alloc (.cells #[.bool x3.1, .int .i64 x3.2.1, .int .i64 x3.2.2.1, .int .i64 x3.2.2.2.1, .int .i64 x3.2.2.2.2.1, .int .i64 x3.2.2.2.2.2] 24) = W1 := ⟨_, rfl⟩
            have hs1 : (w.alloc (.cells #[.bool x1.1, .int .i64 x1.2.1, .int .i64 x1.2.2.1, .int .i64 x1.2.2.2.1, .int .i64 x1.2.2.2.2.1, .int .i64 x1.2.2.2.2.2] 24)).heap.size = w.heap.size + 1 := by simp
            have hb : Below w.heap.size w W1 := hW ▸ ((Below.refl _ w).alloc (Nat.le_refl _) _).alloc (by simp) _
            have X1 := Lib.hid (hW ▸ (own6_alloc w x1.1 x1.2.1 x1.2.2.1 x1.2.2.2.1 x1.2.2.2.2.1 x1.2.2.2.2.2 24 w.heap.size rfl).below ((Below.refl _ _).alloc (Nat.le_refl _) _) : Own6 W1 w.heap.size x1.1 x1.2.1 x1.2.2.1 x1.2.2.2.1 x1.2.2.2.2.1 x1.2.2.2.2.2)
            have X3 := Lib.hid (hW ▸ own6_alloc (w.alloc (.cells #[.bool x1.1, .int .i64 x1.2.1, .int .i64 x1.2.2.1, .int .i64 x1.2.2.2.1, .int .i64 x1.2.2.2.2.1, .int .i64 x1.2.2.2.2.2] 24)) x3.1 x3.2.1 x3.2.2.1 x3.2.2.2.1 x3.2.2.2.2.1 x3.2.2.2.2.2 24 (w.heap.size + 1) hs1.symm : Own6 W1 (w.heap.size + 1) x3.1 x3.2.1 x3.2.2.1 x3.2.2.2.1 x3.2.2.2.2.1 x3.2.2.2.2.2)
            have HW := Lib.hid hW
            clear hW hs1
            go_upto_region 1 with (fail)
            change Code.wp _ _ _ _ ((w.alloc (.cells #[.bool x1.1, .int .i64 x1.2.1, .int .i64 x1.2.2.1, .int .i64 x1.2.2.2.1, .int .i64 x1.2.2.2.2.1, .int .i64 x1.2.2.2.2.2] 24)).alloc (.cells #[.bool x3.1, .int .i64 x3.2.1, .int .i64 x3.2.2.1, .int .i64 x3.2.2.2.1, .int .i64 x3.2.2.2.2.1, .int .i64 x3.2.2.2.2.2] 24))
            rw [HW.out]
            replace H0 := Lib.hid (H0.out.below hb)
            replace HB := Lib.hid (HB.out.trans (hb.mono HB.out.size))
            clear hb HW
            obtain ⟨⟨u0, u1, u2, u3, u4, u5⟩, -⟩ := X1.out
            obtain ⟨⟨v0, v1, v2, v3, v4, v5⟩, -⟩ := X3.out
            go_wp2_with fail
            refine (CG.out _ H0.out).mono ?_
            rintro e W2 ⟨rfl, hb⟩
            replace H0 := Lib.hid (H0.out.below hb)
            replace X1 := Lib.hid (X1.out.below hb)
            replace X3 := Lib.hid (X3.out.below hb)
            replace HB := Lib.hid (HB.out.trans (hb.mono HB.out.size))
            clear hb
            clear u0 u1 u2 u3 u4 u5 v0 v1 v2 v3 v4 v5
            obtain ⟨⟨u0, u1, u2, u3, u4, u5⟩, -⟩ := X1.out
            obtain ⟨⟨v0, v1, v2, v3, v4, v5⟩, -⟩ := X3.out
            obtain ⟨W3, hW⟩ : ∃ W3, W2.alloc (.cells #[.bool gv.1, .int .i64 gv.2.1, .int .i64 gv.2.2.1, .int .i64 gv.2.2.2.1, .int .i64 gv.2.2.2.2.1, .int .i64 gv.2.2.2.2.2] 24) = W3 := ⟨_, rfl⟩
            have hb : Below W2.heap.size W2 W3 := hW ▸ (Below.refl _ W2).alloc (Nat.le_refl _) _
            have X9 := Lib.hid (hW ▸ own6_alloc W2 gv.1 gv.2.1 gv.2.2.1 gv.2.2.2.1 gv.2.2.2.2.1 gv.2.2.2.2.2 24 W2.heap.size rfl)
            have HW := Lib.hid hW
            clear hW
            go_upto_region 2 with (fail)
            change Code.wp _ _ _ _ (W2.alloc (.cells #[.bool gv.1, .int .i64 gv.2.1, .int .i64 gv.2.2.1, .int .i64 gv.2.2.2.1, .int .i64 gv.2.2.2.2.1, .int .i64 gv.2.2.2.2.2] 24))
            rw [HW.out]
            replace H0 := Lib.hid (H0.out.below hb)
            replace X1 := Lib.hid (X1.out.below hb)
            replace X3 := Lib.hid (X3.out.below hb)
            replace HB := Lib.hid (HB.out.trans (hb.mono HB.out.size))
            clear hb HW
            clear u0 u1 u2 u3 u4 u5 v0 v1 v2 v3 v4 v5
            obtain ⟨⟨u0, u1, u2, u3, u4, u5⟩, -⟩ := X1.out
            obtain ⟨⟨v0, v1, v2, v3, v4, v5⟩, -⟩ := X3.out
            go_wp2_with fail
            refine (CS.out _ H0.out).mono ?_
            rintro e W4 ⟨rm, rfl, hv, hb⟩
            replace H0 := Lib.hid (H0.out.below hb)
            replace X1 := Lib.hid (X1.out.below hb)
            replace X3 := Lib.hid (X3.out.below hb)
            replace HB := Lib.hid (HB.out.trans (hb.mono HB.out.size))
            have HM := Lib.hid hv
            clear hv
            clear hb
            clear u0 u1 u2 u3 u4 u5 v0 v1 v2 v3 v4 v5
            obtain ⟨⟨u0, u1, u2, u3, u4, u5⟩, -⟩ := X1.out
            obtain ⟨⟨v0, v1, v2, v3, v4, v5⟩, -⟩ := X3.out
            obtain ⟨am, cm, rfl⟩ := HM.out.form
            clear X9
            go_wp2_with fail
            refine (CC.out _).mono ?_
            rintro e W5 ⟨rfl, hb⟩
            replace H0 := Lib.hid (H0.out.below hb)
            replace HM := Lib.hid (HM.out.below hb)
            replace X1 := Lib.hid (X1.out.below hb)
            replace X3 := Lib.hid (X3.out.below hb)
            replace HB := Lib.hid (HB.out.trans (hb.mono HB.out.size))
            clear hb
            clear u0 u1 u2 u3 u4 u5 v0 v1 v2 v3 v4 v5
            obtain ⟨⟨u0, u1, u2, u3, u4, u5⟩, -⟩ := X1.out
            obtain ⟨⟨v0, v1, v2, v3, v4, v5⟩, -⟩ := X3.out
            have n0 := HNO.out
            go_upto_region 4 with (fail)
            clear n0
            go_wp2_with fail
            refine (awake18 _).mono ?_
            rintro e W6 ⟨rfl, hb⟩
            replace H0 := Lib.hid (H0.out.below hb)
            replace HM := Lib.hid (HM.out.below hb)
            replace X1 := Lib.hid (X1.out.below hb)
            replace X3 := Lib.hid (X3.out.below hb)
            replace HB := Lib.hid (HB.out.trans (hb.mono HB.out.size))
            clear hb
            go_wp2_with fail
            go_ret
            exact ⟨rfl, HB.out⟩
          | false =>
            have HNO := Lib.hid hn0
            have ht : tld x1 = true := by show told _ _ _ _ _ _ = true; unfold told; rw [decide_eq_true HHO.out, hn0]; rfl
            have hmore := more_ok HOK.out ht (HMB.out rfl)
            have HMO := Lib.hid hmore
            obtain ⟨D, hD⟩ : ∃ D, dirI z0 x1 1 = D := ⟨_, rfl⟩
            obtain ⟨E, hE⟩ : ∃ E, dirI ml x1 1 = E := ⟨_, rfl⟩
            have HDD := Lib.hid hD
            have HEE := Lib.hid hE
            clear hn0 ht hmore hD hE
            go_enter Try.func7, Try.ntmps7
            obtain ⟨W1, hW⟩ : ∃ W1, (w.alloc (.cells #[.bool x1.1, .int .i64 x1.2.1, .int .i64 x1.2.2.1, .int .i64 x1.2.2.2.1, .int .i64 x1.2.2.2.2.1, .int .i64 x1.2.2.2.2.2] 24)).alloc (.cells #[.bool x3.1, .int .i64 x3.2.1, .int .i64 x3.2.2.1, .int .i64 x3.2.2.2.1, .int .i64 x3.2.2.2.2.1, .int .i64 x3.2.2.2.2.2] 24) = W1 := ⟨_, rfl⟩
            have hs1 : (w.alloc (.cells #[.bool x1.1, .int .i64 x1.2.1, .int .i64 x1.2.2.1, .int .i64 x1.2.2.2.1, .int .i64 x1.2.2.2.2.1, .int .i64 x1.2.2.2.2.2] 24)).heap.size = w.heap.size + 1 := by simp
            have hb : Below w.heap.size w W1 := hW ▸ ((Below.refl _ w).alloc (Nat.le_refl _) _).alloc (by simp) _
            have X1 := Lib.hid (hW ▸ (own6_alloc w x1.1 x1.2.1 x1.2.2.1 x1.2.2.2.1 x1.2.2.2.2.1 x1.2.2.2.2.2 24 w.heap.size rfl).below ((Below.refl _ _).alloc (Nat.le_refl _) _) : Own6 W1 w.heap.size x1.1 x1.2.1 x1.2.2.1 x1.2.2.2.1 x1.2.2.2.2.1 x1.2.2.2.2.2)
            have X3 := Lib.hid (hW ▸ own6_alloc (w.alloc (.cells #[.bool x1.1, .int .i64 x1.2.1, .int .i64 x1.2.2.1, .int .i64 x1.2.2.2.1, .int .i64 x1.2.2.2.2.1, .int .i64 x1.2.2.2.2.2] 24)) x3.1 x3.2.1 x3.2.2.1 x3.2.2.2.1 x3.2.2.2.2.1 x3.2.2.2.2.2 24 (w.heap.size + 1) hs1.symm : Own6 W1 (w.heap.size + 1) x3.1 x3.2.1 x3.2.2.1 x3.2.2.2.1 x3.2.2.2.2.1 x3.2.2.2.2.2)
            have HW := Lib.hid hW
            clear hW hs1
            go_upto_region 1 with (fail)
            change Code.wp _ _ _ _ ((w.alloc (.cells #[.bool x1.1, .int .i64 x1.2.1, .int .i64 x1.2.2.1, .int .i64 x1.2.2.2.1, .int .i64 x1.2.2.2.2.1, .int .i64 x1.2.2.2.2.2] 24)).alloc (.cells #[.bool x3.1, .int .i64 x3.2.1, .int .i64 x3.2.2.1, .int .i64 x3.2.2.2.1, .int .i64 x3.2.2.2.2.1, .int .i64 x3.2.2.2.2.2] 24))
            rw [HW.out]
            replace H0 := Lib.hid (H0.out.below hb)
            replace HB := Lib.hid (HB.out.trans (hb.mono HB.out.size))
            clear hb HW
            obtain ⟨⟨u0, u1, u2, u3, u4, u5⟩, -⟩ := X1.out
            obtain ⟨⟨v0, v1, v2, v3, v4, v5⟩, -⟩ := X3.out
            go_wp2_with fail
            refine (CG.out _ H0.out).mono ?_
            rintro e W2 ⟨rfl, hb⟩
            replace H0 := Lib.hid (H0.out.below hb)
            replace X1 := Lib.hid (X1.out.below hb)
            replace X3 := Lib.hid (X3.out.below hb)
            replace HB := Lib.hid (HB.out.trans (hb.mono HB.out.size))
            clear hb
            clear u0 u1 u2 u3 u4 u5 v0 v1 v2 v3 v4 v5
            obtain ⟨⟨u0, u1, u2, u3, u4, u5⟩, -⟩ := X1.out
            obtain ⟨⟨v0, v1, v2, v3, v4, v5⟩, -⟩ := X3.out
            obtain ⟨W3, hW⟩ : ∃ W3, W2.alloc (.cells #[.bool gv.1, .int .i64 gv.2.1, .int .i64 gv.2.2.1, .int .i64 gv.2.2.2.1, .int .i64 gv.2.2.2.2.1, .int .i64 gv.2.2.2.2.2] 24) = W3 := ⟨_, rfl⟩
            have hb : Below W2.heap.size W2 W3 := hW ▸ (Below.refl _ W2).alloc (Nat.le_refl _) _
            have X9 := Lib.hid (hW ▸ own6_alloc W2 gv.1 gv.2.1 gv.2.2.1 gv.2.2.2.1 gv.2.2.2.2.1 gv.2.2.2.2.2 24 W2.heap.size rfl)
            have HW := Lib.hid hW
            clear hW
            go_upto_region 2 with (fail)
            change Code.wp _ _ _ _ (W2.alloc (.cells #[.bool gv.1, .int .i64 gv.2.1, .int .i64 gv.2.2.1, .int .i64 gv.2.2.2.1, .int .i64 gv.2.2.2.2.1, .int .i64 gv.2.2.2.2.2] 24))
            rw [HW.out]
            replace H0 := Lib.hid (H0.out.below hb)
            replace X1 := Lib.hid (X1.out.below hb)
            replace X3 := Lib.hid (X3.out.below hb)
            replace HB := Lib.hid (HB.out.trans (hb.mono HB.out.size))
            clear hb HW
            clear u0 u1 u2 u3 u4 u5 v0 v1 v2 v3 v4 v5
            obtain ⟨⟨u0, u1, u2, u3, u4, u5⟩, -⟩ := X1.out
            obtain ⟨⟨v0, v1, v2, v3, v4, v5⟩, -⟩ := X3.out
            go_wp2_with fail
            refine (CS.out _ H0.out).mono ?_
            rintro e W4 ⟨rm, rfl, hv, hb⟩
            replace H0 := Lib.hid (H0.out.below hb)
            replace X1 := Lib.hid (X1.out.below hb)
            replace X3 := Lib.hid (X3.out.below hb)
            replace HB := Lib.hid (HB.out.trans (hb.mono HB.out.size))
            have HM := Lib.hid hv
            clear hv
            clear hb
            clear u0 u1 u2 u3 u4 u5 v0 v1 v2 v3 v4 v5
            obtain ⟨⟨u0, u1, u2, u3, u4, u5⟩, -⟩ := X1.out
            obtain ⟨⟨v0, v1, v2, v3, v4, v5⟩, -⟩ := X3.out
            obtain ⟨am, cm, rfl⟩ := HM.out.form
            clear X9
            go_wp2_with fail
            refine (CC.out _).mono ?_
            rintro e W5 ⟨rfl, hb⟩
            replace H0 := Lib.hid (H0.out.below hb)
            replace HM := Lib.hid (HM.out.below hb)
            replace X1 := Lib.hid (X1.out.below hb)
            replace X3 := Lib.hid (X3.out.below hb)
            replace HB := Lib.hid (HB.out.trans (hb.mono HB.out.size))
            clear hb
            clear u0 u1 u2 u3 u4 u5 v0 v1 v2 v3 v4 v5
            obtain ⟨⟨u0, u1, u2, u3, u4, u5⟩, -⟩ := X1.out
            obtain ⟨⟨v0, v1, v2, v3, v4, v5⟩, -⟩ := X3.out
            have n0 := HNO.out
            go_upto_region 5 with (fail)
            clear n0 CC CG CS
            go_wp2_with fail
            refine (ldown_any _ z0 x1 _ H0.out (Nat.le_trans HL.out (by decide))).mono ?_
            rintro e W6 ⟨rd, rfl, hz, hb⟩
            replace H0 := Lib.hid (H0.out.below hb)
            replace HM := Lib.hid (HM.out.below hb)
            replace X1 := Lib.hid (X1.out.below hb)
            replace X3 := Lib.hid (X3.out.below hb)
            replace HB := Lib.hid (HB.out.trans (hb.mono HB.out.size))
            rw [HDD.out] at hz
            have HD := Lib.hid hz
            clear hz
            clear hb
            clear u0 u1 u2 u3 u4 u5 v0 v1 v2 v3 v4 v5
            obtain ⟨⟨u0, u1, u2, u3, u4, u5⟩, -⟩ := X1.out
            obtain ⟨⟨v0, v1, v2, v3, v4, v5⟩, -⟩ := X3.out
            go_wp2_with fail
            refine (ldown_any _ ml x1 _ HM.out (by have := HL.out; have := HSL.out; omega)).mono ?_
            rintro e W7 ⟨rb, rfl, hz, hb⟩
            replace H0 := Lib.hid (H0.out.below hb)
            replace HM := Lib.hid (HM.out.below hb)
            replace X1 := Lib.hid (X1.out.below hb)
            replace X3 := Lib.hid (X3.out.below hb)
            replace HD := Lib.hid (Zs_low HD.out hb)
            replace HB := Lib.hid (HB.out.trans (hb.mono HB.out.size))
            rw [HEE.out] at hz
            have HE := Lib.hid hz
            clear hz
            clear hb
            clear u0 u1 u2 u3 u4 u5 v0 v1 v2 v3 v4 v5
            obtain ⟨⟨u0, u1, u2, u3, u4, u5⟩, -⟩ := X1.out
            obtain ⟨⟨v0, v1, v2, v3, v4, v5⟩, -⟩ := X3.out
            obtain ⟨ad, cd, rfl⟩ := Zs_form HD.out
            obtain ⟨ae, ce, rfl⟩ := Zs_form HE.out
            obtain ⟨ne, hne⟩ : ∃ ne, E.length = ne := ⟨_, rfl⟩
            have hnb : ne ≤ 1000 := by
              rw [← hne, ← HEE.out, dirI_len]
              exact Nat.le_trans (dirL_le ml x1 1) (by have := HL.out; have := HSL.out; omega)
            rw [hne]
            have HNE := Lib.hid hne
            obtain ⟨WL, hWL⟩ : ∃ WL, WL = W7 := ⟨_, rfl⟩
            subst hWL
            clear hne u0 u1 u2 u3 u4 u5 v0 v1 v2 v3 v4 v5
            go_wp2_with fail
            go_loopw [15, 16] (fun rv iv wr => ∃ (i : Nat) (ra : Option Addr) (rc : Nat) (rs : List Int), i ≤ ne ∧ iv = .int .i64 i ∧ rv = .slice ra rs.length rc ∧ rs.length ≤ i ∧ Hid ((E.take i).filter (fun i => decide (i ≠ a2)) = rs) ∧ Hid (OwI wr WL.heap.size (.slice ra rs.length rc) rs) ∧ Hid (Below WL.heap.size WL wr)) (fun _ iv _ => ne - (intOf iv).toNat)
            case atStart => exact ⟨0, none, 0, [], Nat.zero_le _, rfl, rfl, Nat.le_refl _, rfl, OwI_nil WL _, Below.refl _ _⟩
            case round =>
              obtain ⟨i, ra, rc, rs, hi, rfl, rfl, hrl, HF, HO, HBW⟩ := hrel
              by_cases hit : i < ne
              · have hitz : (i : Int) < (ne : Int) := by omega
                have hst := rest_step E a2 i (by rw [HNE.out]; exact hit)
                rw [HF.out] at hst
                obtain ⟨a3, c3, e3, _, _, h4⟩ := Zs_open (Zs_low HE.out HBW.out)
                obtain ⟨b, off, e1, e2⟩ := h4 i (by rw [HNE.out]; exact hit)
                simp only [Value.slice.injEq] at e3
                obtain ⟨rfl, -⟩ := e3
                subst e1
                obtain ⟨x, hx⟩ : ∃ x, E.getD i 0 = x := ⟨_, rfl⟩
                rw [hx] at e2 hst
                have HLE1 : Hid (rs.length ≤ 3000) := by show _ ≤ _; omega
                have HSW : Hid (WL.heap.size ≤ wr.heap.size) := HBW.out.size
                clear hx h4
                by_cases hq : x = a2
                · have hq2 : (x != a2) = false := by simpa using hq
                  rw [if_neg (fun h => h hq), List.append_nil] at hst
                  have HST := Lib.hid hst
                  clear hst hq
                  go_wp2_with fail
                  clear e2 hq2
                  go_roundw
                  case rel => exact ⟨i + 1, ra, rc, rs, by omega, by go_num, rfl, by omega, HST.out, HO.out, HBW.out⟩
                  case measure => simp [intOf]; omega
                · have hq2 : (x != a2) = true := by simpa using hq
                  rw [if_pos hq] at hst
                  have HST := Lib.hid hst
                  clear hst hq
                  go_wp2_with (at_builtin; refine iapp1_any rfl (.tmp 73) (.tmp 78) rfl wr x rfl WL.heap.size (.slice ra rs.length rc) rs rfl rfl HO.out HLE1.out HSW.out ?_; intro g1 cap1 wa ho9 hb9; have HO1 := Lib.hid ho9; have HA1 := Lib.hid hb9; clear ho9 hb9)
                  clear e2 hq2
                  go_roundw
                  case rel => exact ⟨i + 1, some ⟨g1, 0, none⟩, cap1, rs ++ [x], by omega, by go_num, by rw [List.length_append]; rfl, by rw [List.length_append, List.length_cons, List.length_nil]; omega, HST.out, by have h9 := HO1.out; rw [List.length_append]; exact h9, HBW.out.trans HA1.out⟩
                  case measure => simp [intOf]; omega
              · have hitz : ¬ (i : Int) < (ne : Int) := by omega
                obtain rfl : i = ne := by omega
                have hrs := HF.out
                rw [← HNE.out, List.take_length, ← HEE.out, HMO.out.rest, HDD.out] at hrs
                have hz : Zs wr (.slice ra rs.length rc) D := by rw [hrs]; exact HO.out.zs (by omega)
                have HR := Lib.hid hz
                obtain ⟨nr, hnr⟩ : ∃ nr, rs.length = nr := ⟨_, rfl⟩
                rw [hnr] at HR ⊢
                obtain ⟨nd, hnd⟩ : ∃ nd, D.length = nd := ⟨_, rfl⟩
                rw [hnd] at HD
                have HND := Lib.hid hnd
                clear hrs hz hit hi hrl HF HO hnr
                replace H0 := Lib.hid (H0.out.below HBW.out)
                replace HM := Lib.hid (HM.out.below HBW.out)
                replace X1 := Lib.hid (X1.out.below HBW.out)
                replace X3 := Lib.hid (X3.out.below HBW.out)
                replace HD := Lib.hid (Zs_low HD.out HBW.out)
                replace HE := Lib.hid (Zs_low HE.out HBW.out)
                replace HB := Lib.hid (HB.out.trans (HBW.out.mono HB.out.size))
                clear HBW
                rw [hnd]
                clear hnd
                obtain ⟨⟨u0, u1, u2, u3, u4, u5⟩, -⟩ := X1.out
                obtain ⟨⟨v0, v1, v2, v3, v4, v5⟩, -⟩ := X3.out
                obtain ⟨dn, hdn⟩ : ∃ dn, lsx x3 x1 = dn := ⟨_, rfl⟩
                have CL := Lib.hid (fun W => less_any x3.1 x3.2.1 x3.2.2.1 x3.2.2.2.1 x3.2.2.2.2.1 x3.2.2.2.2.2 x1.1 x1.2.1 x1.2.2.1 x1.2.2.2.1 x1.2.2.2.2.1 x1.2.2.2.2.2 W)
                rw [show lessB x3.1 x3.2.1 x3.2.2.1 x3.2.2.2.1 x3.2.2.2.2.1 x3.2.2.2.2.2 x1.1 x1.2.1 x1.2.2.1 x1.2.2.2.1 x1.2.2.2.2.1 x1.2.2.2.2.2 = dn from hdn] at CL
                have HDN := Lib.hid hdn
                clear hdn
                go_wp2_with fail
                refine (CL.out _).mono ?_
                rintro e W41 ⟨rfl, hb⟩
                replace H0 := Lib.hid (H0.out.below hb)
                replace HM := Lib.hid (HM.out.below hb)
                replace X1 := Lib.hid (X1.out.below hb)
                replace X3 := Lib.hid (X3.out.below hb)
                replace HD := Lib.hid (Zs_low HD.out hb)
                replace HE := Lib.hid (Zs_low HE.out hb)
                replace HR := Lib.hid (Zs_low HR.out hb)
                replace HB := Lib.hid (HB.out.trans (hb.mono HB.out.size))
                clear hb
                clear u0 u1 u2 u3 u4 u5 v0 v1 v2 v3 v4 v5
                obtain ⟨⟨u0, u1, u2, u3, u4, u5⟩, -⟩ := X1.out
                obtain ⟨⟨v0, v1, v2, v3, v4, v5⟩, -⟩ := X3.out
                clear CL
                go_wp2_with fail
                refine (vlow_any _ ml _ HM.out (by have := HL.out; have := HSL.out; omega)).mono ?_
                rintro e W42 ⟨rfl, hb⟩
                replace H0 := Lib.hid (H0.out.below hb)
                replace HM := Lib.hid (HM.out.below hb)
                replace X1 := Lib.hid (X1.out.below hb)
                replace X3 := Lib.hid (X3.out.below hb)
                replace HD := Lib.hid (Zs_low HD.out hb)
                replace HE := Lib.hid (Zs_low HE.out hb)
                replace HR := Lib.hid (Zs_low HR.out hb)
                replace HB := Lib.hid (HB.out.trans (hb.mono HB.out.size))
                clear hb
                clear u0 u1 u2 u3 u4 u5 v0 v1 v2 v3 v4 v5
                obtain ⟨⟨u0, u1, u2, u3, u4, u5⟩, -⟩ := X1.out
                obtain ⟨⟨v0, v1, v2, v3, v4, v5⟩, -⟩ := X3.out
                obtain ⟨lw, hlw⟩ : ∃ lw, (lowF ml).1 = lw := ⟨_, rfl⟩
                obtain ⟨lb, hlb⟩ : ∃ lb, (lowF ml).2 = lb := ⟨_, rfl⟩
                rw [hlw, hlb]
                have HLW := Lib.hid (And.intro hlw hlb)
                clear hlw hlb
                obtain ⟨W43, hW⟩ : ∃ W43, W42.alloc (.cells #[.int .i64 lw.1, .bool lw.2.1, .int .i64 lw.2.2.1, .int .i64 lw.2.2.2.1, .int .i64 lw.2.2.2.2.1, .int .i64 lw.2.2.2.2.2.1, .int .i64 lw.2.2.2.2.2.2] 43) = W43 := ⟨_, rfl⟩
                have hb : Below W42.heap.size W42 W43 := hW ▸ (Below.refl _ W42).alloc (Nat.le_refl _) _
                have X18 := Lib.hid (hW ▸ ownV_alloc W42 lw W42.heap.size rfl 43)
                have HW := Lib.hid hW
                clear hW
                go_upto_region 15 with (fail)
                change Code.wp _ _ _ _ (W42.alloc (.cells #[.int .i64 lw.1, .bool lw.2.1, .int .i64 lw.2.2.1, .int .i64 lw.2.2.2.1, .int .i64 lw.2.2.2.2.1, .int .i64 lw.2.2.2.2.2.1, .int .i64 lw.2.2.2.2.2.2] 43))
                rw [HW.out]
                replace H0 := Lib.hid (H0.out.below hb)
                replace HM := Lib.hid (HM.out.below hb)
                replace X1 := Lib.hid (X1.out.below hb)
                replace X3 := Lib.hid (X3.out.below hb)
                replace HD := Lib.hid (Zs_low HD.out hb)
                replace HE := Lib.hid (Zs_low HE.out hb)
                replace HR := Lib.hid (Zs_low HR.out hb)
                replace HB := Lib.hid (HB.out.trans (hb.mono HB.out.size))
                clear hb HW
                clear u0 u1 u2 u3 u4 u5 v0 v1 v2 v3 v4 v5
                obtain ⟨⟨u0, u1, u2, u3, u4, u5⟩, -⟩ := X1.out
                obtain ⟨⟨v0, v1, v2, v3, v4, v5⟩, -⟩ := X3.out
                obtain ⟨g18, hg18⟩ : ∃ g18, W42.heap.size = g18 := ⟨_, rfl⟩
                rw [hg18] at X18 ⊢
                clear hg18
                go_wp2_with fail
                refine (lnext_any _ ml x1 _ HM.out (by have := HL.out; have := HSL.out; omega)).mono ?_
                rintro e W44 ⟨rfl, hb⟩
                replace H0 := Lib.hid (H0.out.below hb)
                replace HM := Lib.hid (HM.out.below hb)
                replace X1 := Lib.hid (X1.out.below hb)
                replace X3 := Lib.hid (X3.out.below hb)
                replace X18 := Lib.hid (X18.out.below hb)
                replace HD := Lib.hid (Zs_low HD.out hb)
                replace HE := Lib.hid (Zs_low HE.out hb)
                replace HR := Lib.hid (Zs_low HR.out hb)
                replace HB := Lib.hid (HB.out.trans (hb.mono HB.out.size))
                clear hb
                clear u0 u1 u2 u3 u4 u5 v0 v1 v2 v3 v4 v5
                obtain ⟨⟨u0, u1, u2, u3, u4, u5⟩, -⟩ := X1.out
                obtain ⟨⟨v0, v1, v2, v3, v4, v5⟩, -⟩ := X3.out
                clear u0 u1 u2 u3 u4 u5 v0 v1 v2 v3 v4 v5
                cases dn with
                | true =>
                  obtain ⟨y1, y2, y3⟩ := HMO.out.yes HDN.out
                  rw [HEE.out, HNE.out, HDD.out, HND.out] at y1
                  rw [HLW.out.2] at y2
                  rw [HEE.out, HLW.out.1] at y3
                  obtain ⟨r9, hr9⟩ := y3
                  have hnx : nxtF ml x1 = (lw.1, true) := by unfold nxtF; rw [HEE.out, hr9]; rfl
                  rw [hnx]
                  subst y1 y2
                  clear hnx hr9
                  go_wp2_with fail
                  refine (awake18 _).mono ?_
                  rintro e W45 ⟨rfl, hb⟩
                  replace H0 := Lib.hid (H0.out.below hb)
                  replace HM := Lib.hid (HM.out.below hb)
                  replace X18 := Lib.hid (X18.out.below hb)
                  replace HD := Lib.hid (Zs_low HD.out hb)
                  replace HE := Lib.hid (Zs_low HE.out hb)
                  replace HR := Lib.hid (Zs_low HR.out hb)
                  replace HB := Lib.hid (HB.out.trans (hb.mono HB.out.size))
                  clear hb
                  go_wp2_with fail
                  refine (ints_yes HR.out HD.out).mono ?_
                  rintro e W46 ⟨rfl, hb⟩
                  replace H0 := Lib.hid (H0.out.below hb)
                  replace HM := Lib.hid (HM.out.below hb)
                  replace X18 := Lib.hid (X18.out.below hb)
                  replace HD := Lib.hid (Zs_low HD.out hb)
                  replace HE := Lib.hid (Zs_low HE.out hb)
                  replace HR := Lib.hid (Zs_low HR.out hb)
                  replace HB := Lib.hid (HB.out.trans (hb.mono HB.out.size))
                  clear hb
                  have c9 := X18.out.1.1
                  have r5 : IntKind.i64.wrap ((nd : Int) + 1) = (nd : Int) + 1 := by rw [IntKind.wrap_i64]; omega
                  have f1 : ((nd : Int) + 1 == (nd : Int)) = false := by rw [beq_eq_false_iff_ne]; omega
                  go_wp2_with fail
                  go_ret
                  exact ⟨rfl, HB.out⟩
                | false =>
                  have y1 := HMO.out.no HDN.out
                  rw [HEE.out, HNE.out, HDD.out, HND.out] at y1
                  obtain ⟨nx, hnx⟩ : ∃ nx, nxtF ml x1 = nx := ⟨_, rfl⟩
                  rw [hnx]
                  subst y1
                  clear hnx
                  go_wp2_with fail
                  refine (awake18 _).mono ?_
                  rintro e W45 ⟨rfl, hb⟩
                  replace H0 := Lib.hid (H0.out.below hb)
                  replace HM := Lib.hid (HM.out.below hb)
                  replace X18 := Lib.hid (X18.out.below hb)
                  replace HD := Lib.hid (Zs_low HD.out hb)
                  replace HE := Lib.hid (Zs_low HE.out hb)
                  replace HR := Lib.hid (Zs_low HR.out hb)
                  replace HB := Lib.hid (HB.out.trans (hb.mono HB.out.size))
                  clear hb
                  go_wp2_with fail
                  refine (ints_yes HR.out HD.out).mono ?_
                  rintro e W46 ⟨rfl, hb⟩
                  replace H0 := Lib.hid (H0.out.below hb)
                  replace HM := Lib.hid (HM.out.below hb)
                  replace X18 := Lib.hid (X18.out.below hb)
                  replace HD := Lib.hid (Zs_low HD.out hb)
                  replace HE := Lib.hid (Zs_low HE.out hb)
                  replace HR := Lib.hid (Zs_low HR.out hb)
                  replace HB := Lib.hid (HB.out.trans (hb.mono HB.out.size))
                  clear hb
                  have r5 : IntKind.i64.wrap ((i : Int) + 1) = (i : Int) + 1 := by rw [IntKind.wrap_i64]; omega
                  have f1 : ((i : Int) == (i : Int) + 1) = false := by rw [beq_eq_false_iff_ne]; omega
                  go_wp2_with fail
                  go_ret
                  exact ⟨rfl, HB.out⟩
        · have CC := Lib.hid (fun W => check_any x1.1 x1.2.1 x1.2.2.1 x1.2.2.2.1 x1.2.2.2.2.1 x1.2.2.2.2.2 W)
          rw [chk_no ho] at CC
          clear ho
          go_enter Try.func7, Try.ntmps7
          obtain ⟨W1, hW⟩ : ∃ W1, (w.alloc (.cells #[.bool x1.1, .int .i64 x1.2.1, .int .i64 x1.2.2.1, .int .i64 x1.2.2.2.1, .int .i64 x1.2.2.2.2.1, .int .i64 x1.2.2.2.2.2] 24)).alloc (.cells #[.bool x3.1, .int .i64 x3.2.1, .int .i64 x3.2.2.1, .int .i64 x3.2.2.2.1, .int .i64 x3.2.2.2.2.1, .int .i64 x3.2.2.2.2.2] 24) = W1 := ⟨_, rfl⟩
          have hs1 : (w.alloc (.cells #[.bool x1.1, .int .i64 x1.2.1, .int .i64 x1.2.2.1, .int .i64 x1.2.2.2.1, .int .i64 x1.2.2.2.2.1, .int .i64 x1.2.2.2.2.2] 24)).heap.size = w.heap.size + 1 := by simp
          have hb : Below w.heap.size w W1 := hW ▸ ((Below.refl _ w).alloc (Nat.le_refl _) _).alloc (by simp) _
          have X1 := Lib.hid (hW ▸ (own6_alloc w x1.1 x1.2.1 x1.2.2.1 x1.2.2.2.1 x1.2.2.2.2.1 x1.2.2.2.2.2 24 w.heap.size rfl).below ((Below.refl _ _).alloc (Nat.le_refl _) _) : Own6 W1 w.heap.size x1.1 x1.2.1 x1.2.2.1 x1.2.2.2.1 x1.2.2.2.2.1 x1.2.2.2.2.2)
          have X3 := Lib.hid (hW ▸ own6_alloc (w.alloc (.cells #[.bool x1.1, .int .i64 x1.2.1, .int .i64 x1.2.2.1, .int .i64 x1.2.2.2.1, .int .i64 x1.2.2.2.2.1, .int .i64 x1.2.2.2.2.2] 24)) x3.1 x3.2.1 x3.2.2.1 x3.2.2.2.1 x3.2.2.2.2.1 x3.2.2.2.2.2 24 (w.heap.size + 1) hs1.symm : Own6 W1 (w.heap.size + 1) x3.1 x3.2.1 x3.2.2.1 x3.2.2.2.1 x3.2.2.2.2.1 x3.2.2.2.2.2)
          have HW := Lib.hid hW
          clear hW hs1
          go_upto_region 1 with (fail)
          change Code.wp _ _ _ _ ((w.alloc (.cells #[.bool x1.1, .int .i64 x1.2.1, .int .i64 x1.2.2.1, .int .i64 x1.2.2.2.1, .int .i64 x1.2.2.2.2.1, .int .i64 x1.2.2.2.2.2] 24)).alloc (.cells #[.bool x3.1, .int .i64 x3.2.1, .int .i64 x3.2.2.1, .int .i64 x3.2.2.2.1, .int .i64 x3.2.2.2.2.1, .int .i64 x3.2.2.2.2.2] 24))
          rw [HW.out]
          replace H0 := Lib.hid (H0.out.below hb)
          replace HB := Lib.hid (HB.out.trans (hb.mono HB.out.size))
          clear hb HW
          obtain ⟨⟨u0, u1, u2, u3, u4, u5⟩, -⟩ := X1.out
          obtain ⟨⟨v0, v1, v2, v3, v4, v5⟩, -⟩ := X3.out
          go_wp2_with fail
          refine (CG.out _ H0.out).mono ?_
          rintro e W2 ⟨rfl, hb⟩
          replace H0 := Lib.hid (H0.out.below hb)
          replace X1 := Lib.hid (X1.out.below hb)
          replace X3 := Lib.hid (X3.out.below hb)
          replace HB := Lib.hid (HB.out.trans (hb.mono HB.out.size))
          clear hb
          clear u0 u1 u2 u3 u4 u5 v0 v1 v2 v3 v4 v5
          obtain ⟨⟨u0, u1, u2, u3, u4, u5⟩, -⟩ := X1.out
          obtain ⟨⟨v0, v1, v2, v3, v4, v5⟩, -⟩ := X3.out
          obtain ⟨W3, hW⟩ : ∃ W3, W2.alloc (.cells #[.bool gv.1, .int .i64 gv.2.1, .int .i64 gv.2.2.1, .int .i64 gv.2.2.2.1, .int .i64 gv.2.2.2.2.1, .int .i64 gv.2.2.2.2.2] 24) = W3 := ⟨_, rfl⟩
          have hb : Below W2.heap.size W2 W3 := hW ▸ (Below.refl _ W2).alloc (Nat.le_refl _) _
          have X9 := Lib.hid (hW ▸ own6_alloc W2 gv.1 gv.2.1 gv.2.2.1 gv.2.2.2.1 gv.2.2.2.2.1 gv.2.2.2.2.2 24 W2.heap.size rfl)
          have HW := Lib.hid hW
          clear hW
          go_upto_region 2 with (fail)
          change Code.wp _ _ _ _ (W2.alloc (.cells #[.bool gv.1, .int .i64 gv.2.1, .int .i64 gv.2.2.1, .int .i64 gv.2.2.2.1, .int .i64 gv.2.2.2.2.1, .int .i64 gv.2.2.2.2.2] 24))
          rw [HW.out]
          replace H0 := Lib.hid (H0.out.below hb)
          replace X1 := Lib.hid (X1.out.below hb)
          replace X3 := Lib.hid (X3.out.below hb)
          replace HB := Lib.hid (HB.out.trans (hb.mono HB.out.size))
          clear hb HW
          clear u0 u1 u2 u3 u4 u5 v0 v1 v2 v3 v4 v5
          obtain ⟨⟨u0, u1, u2, u3, u4, u5⟩, -⟩ := X1.out
          obtain ⟨⟨v0, v1, v2, v3, v4, v5⟩, -⟩ := X3.out
          go_wp2_with fail
          refine (CS.out _ H0.out).mono ?_
          rintro e W4 ⟨rm, rfl, hv, hb⟩
          replace H0 := Lib.hid (H0.out.below hb)
          replace X1 := Lib.hid (X1.out.below hb)
          replace X3 := Lib.hid (X3.out.below hb)
          replace HB := Lib.hid (HB.out.trans (hb.mono HB.out.size))
          have HM := Lib.hid hv
          clear hv
          clear hb
          clear u0 u1 u2 u3 u4 u5 v0 v1 v2 v3 v4 v5
          obtain ⟨⟨u0, u1, u2, u3, u4, u5⟩, -⟩ := X1.out
          obtain ⟨⟨v0, v1, v2, v3, v4, v5⟩, -⟩ := X3.out
          obtain ⟨am, cm, rfl⟩ := HM.out.form
          clear X9
          go_wp2_with fail
          refine (CC.out _).mono ?_
          rintro e W5 ⟨rfl, hb⟩
          replace H0 := Lib.hid (H0.out.below hb)
          replace HM := Lib.hid (HM.out.below hb)
          replace X1 := Lib.hid (X1.out.below hb)
          replace X3 := Lib.hid (X3.out.below hb)
          replace HB := Lib.hid (HB.out.trans (hb.mono HB.out.size))
          clear hb
          clear u0 u1 u2 u3 u4 u5 v0 v1 v2 v3 v4 v5
          obtain ⟨⟨u0, u1, u2, u3, u4, u5⟩, -⟩ := X1.out
          obtain ⟨⟨v0, v1, v2, v3, v4, v5⟩, -⟩ := X3.out
          go_wp2_with fail
          refine (awake18 _).mono ?_
          rintro e W6 ⟨rfl, hb⟩
          replace H0 := Lib.hid (H0.out.below hb)
          replace HM := Lib.hid (HM.out.below hb)
          replace X1 := Lib.hid (X1.out.below hb)
          replace X3 := Lib.hid (X3.out.below hb)
          replace HB := Lib.hid (HB.out.trans (hb.mono HB.out.size))
          clear hb
          go_wp2_with fail
          go_ret
          exact ⟨rfl, HB.out⟩
    · skip
      go_enter Try.func7, Try.ntmps7
      obtain ⟨W1, hW⟩ : ∃ W1, (w.alloc (.cells #[.bool x1.1, .int .i64 x1.2.1, .int .i64 x1.2.2.1, .int .i64 x1.2.2.2.1, .int .i64 x1.2.2.2.2.1, .int .i64 x1.2.2.2.2.2] 24)).alloc (.cells #[.bool x3.1, .int .i64 x3.2.1, .int .i64 x3.2.2.1, .int .i64 x3.2.2.2.1, .int .i64 x3.2.2.2.2.1, .int .i64 x3.2.2.2.2.2] 24) = W1 := ⟨_, rfl⟩
      have hs1 : (w.alloc (.cells #[.bool x1.1, .int .i64 x1.2.1, .int .i64 x1.2.2.1, .int .i64 x1.2.2.2.1, .int .i64 x1.2.2.2.2.1, .int .i64 x1.2.2.2.2.2] 24)).heap.size = w.heap.size + 1 := by simp
      have hb : Below w.heap.size w W1 := hW ▸ ((Below.refl _ w).alloc (Nat.le_refl _) _).alloc (by simp) _
      have X1 := Lib.hid (hW ▸ (own6_alloc w x1.1 x1.2.1 x1.2.2.1 x1.2.2.2.1 x1.2.2.2.2.1 x1.2.2.2.2.2 24 w.heap.size rfl).below ((Below.refl _ _).alloc (Nat.le_refl _) _) : Own6 W1 w.heap.size x1.1 x1.2.1 x1.2.2.1 x1.2.2.2.1 x1.2.2.2.2.1 x1.2.2.2.2.2)
      have X3 := Lib.hid (hW ▸ own6_alloc (w.alloc (.cells #[.bool x1.1, .int .i64 x1.2.1, .int .i64 x1.2.2.1, .int .i64 x1.2.2.2.1, .int .i64 x1.2.2.2.2.1, .int .i64 x1.2.2.2.2.2] 24)) x3.1 x3.2.1 x3.2.2.1 x3.2.2.2.1 x3.2.2.2.2.1 x3.2.2.2.2.2 24 (w.heap.size + 1) hs1.symm : Own6 W1 (w.heap.size + 1) x3.1 x3.2.1 x3.2.2.1 x3.2.2.2.1 x3.2.2.2.2.1 x3.2.2.2.2.2)
      have HW := Lib.hid hW
      clear hW hs1
      go_upto_region 1 with (fail)
      change Code.wp _ _ _ _ ((w.alloc (.cells #[.bool x1.1, .int .i64 x1.2.1, .int .i64 x1.2.2.1, .int .i64 x1.2.2.2.1, .int .i64 x1.2.2.2.2.1, .int .i64 x1.2.2.2.2.2] 24)).alloc (.cells #[.bool x3.1, .int .i64 x3.2.1, .int .i64 x3.2.2.1, .int .i64 x3.2.2.2.1, .int .i64 x3.2.2.2.2.1, .int .i64 x3.2.2.2.2.2] 24))
      rw [HW.out]
      replace H0 := Lib.hid (H0.out.below hb)
      replace HB := Lib.hid (HB.out.trans (hb.mono HB.out.size))
      clear hb HW
      obtain ⟨⟨u0, u1, u2, u3, u4, u5⟩, -⟩ := X1.out
      obtain ⟨⟨v0, v1, v2, v3, v4, v5⟩, -⟩ := X3.out
      go_wp2_with fail
      refine (CG.out _ H0.out).mono ?_
      rintro e W2 ⟨rfl, hb⟩
      replace H0 := Lib.hid (H0.out.below hb)
      replace X1 := Lib.hid (X1.out.below hb)
      replace X3 := Lib.hid (X3.out.below hb)
      replace HB := Lib.hid (HB.out.trans (hb.mono HB.out.size))
      clear hb
      clear u0 u1 u2 u3 u4 u5 v0 v1 v2 v3 v4 v5
      obtain ⟨⟨u0, u1, u2, u3, u4, u5⟩, -⟩ := X1.out
      obtain ⟨⟨v0, v1, v2, v3, v4, v5⟩, -⟩ := X3.out
      obtain ⟨W3, hW⟩ : ∃ W3, W2.alloc (.cells #[.bool gv.1, .int .i64 gv.2.1, .int .i64 gv.2.2.1, .int .i64 gv.2.2.2.1, .int .i64 gv.2.2.2.2.1, .int .i64 gv.2.2.2.2.2] 24) = W3 := ⟨_, rfl⟩
      have hb : Below W2.heap.size W2 W3 := hW ▸ (Below.refl _ W2).alloc (Nat.le_refl _) _
      have X9 := Lib.hid (hW ▸ own6_alloc W2 gv.1 gv.2.1 gv.2.2.1 gv.2.2.2.1 gv.2.2.2.2.1 gv.2.2.2.2.2 24 W2.heap.size rfl)
      have HW := Lib.hid hW
      clear hW
      go_upto_region 2 with (fail)
      change Code.wp _ _ _ _ (W2.alloc (.cells #[.bool gv.1, .int .i64 gv.2.1, .int .i64 gv.2.2.1, .int .i64 gv.2.2.2.1, .int .i64 gv.2.2.2.2.1, .int .i64 gv.2.2.2.2.2] 24))
      rw [HW.out]
      replace H0 := Lib.hid (H0.out.below hb)
      replace X1 := Lib.hid (X1.out.below hb)
      replace X3 := Lib.hid (X3.out.below hb)
      replace HB := Lib.hid (HB.out.trans (hb.mono HB.out.size))
      clear hb HW
      clear u0 u1 u2 u3 u4 u5 v0 v1 v2 v3 v4 v5
      obtain ⟨⟨u0, u1, u2, u3, u4, u5⟩, -⟩ := X1.out
      obtain ⟨⟨v0, v1, v2, v3, v4, v5⟩, -⟩ := X3.out
      go_wp2_with fail
      refine (CS.out _ H0.out).mono ?_
      rintro e W4 ⟨rm, rfl, hv, hb⟩
      replace H0 := Lib.hid (H0.out.below hb)
      replace X1 := Lib.hid (X1.out.below hb)
      replace X3 := Lib.hid (X3.out.below hb)
      replace HB := Lib.hid (HB.out.trans (hb.mono HB.out.size))
      have HM := Lib.hid hv
      clear hv
      clear hb
      clear u0 u1 u2 u3 u4 u5 v0 v1 v2 v3 v4 v5
      obtain ⟨⟨u0, u1, u2, u3, u4, u5⟩, -⟩ := X1.out
      obtain ⟨⟨v0, v1, v2, v3, v4, v5⟩, -⟩ := X3.out
      obtain ⟨am, cm, rfl⟩ := HM.out.form
      clear X9
      go_wp2_with fail
      refine (awake18 _).mono ?_
      rintro e W5 ⟨rfl, hb⟩
      replace H0 := Lib.hid (H0.out.below hb)
      replace HM := Lib.hid (HM.out.below hb)
      replace X1 := Lib.hid (X1.out.below hb)
      replace X3 := Lib.hid (X3.out.below hb)
      replace HB := Lib.hid (HB.out.trans (hb.mono HB.out.size))
      clear hb
      go_wp2_with fail
      go_ret
      exact ⟨rfl, HB.out⟩
theorem walk (a0 : Option Addr) (cap0 : Nat) (z0 : List Vw) (n1 : Bool) (t1 o1 r1 d1 i1 : Int) (w1 : I64 t1 ∧ I64 o1 ∧ I64 r1 ∧ I64 d1 ∧ I64 i1) (a2 : Int) (w2 : I64 a2) (n3 : Bool) (t3 o3 r3 d3 i3 : Int) (w3 : I64 t3 ∧ I64 o3 ∧ I64 r3 ∧ I64 d3 ∧ I64 i3) (w : World) (r0 : Vs w (.slice a0 z0.length cap0) z0) (hm : z0.length ≤ maxLen) :
    Calls Try.prog 7 #[.slice a0 z0.length cap0, .agg #[.bool n1, .int .i64 t1, .int .i64 o1, .int .i64 r1, .int .i64 d1, .int .i64 i1], .int .i64 a2, .agg #[.bool n3, .int .i64 t3, .int .i64 o3, .int .i64 r3, .int .i64 d3, .int .i64 i3]] w fun e w' => e = .returned (.bool true) ∧ Below w.heap.size w w' := walk0 a0 cap0 z0 (n1, t1, o1, r1, d1, i1) a2 (n3, t3, o3, r3, d3, i3) w r0 hm

set_option maxRecDepth 100000 in
theorem lifted (os : _root_.Go.Os) (started : os.Started) (H : Type) (enc : TypeId × Value → H) :
    ReturnsInHanded {} Try.checked os 7 .any (Rows.linksMoreSpec.pre6 enc Try.prog Try.f7 Rows.linksMoreRow.domain false) (Rows.linksMoreSpec.post enc Try.prog Try.f7 false true false false) := by
  refine returnsInHanded_of_change (C := Try.checked) own started (by kernel_rfl) Try.func7
    (ChangeSpec.witness6 (enc := enc) (C := Try.checked) false ⟨#[], #[.slice none 0 0, .agg #[.bool false, .int .i64 0, .int .i64 0, .int .i64 0, .int .i64 0, .int .i64 0], .int .i64 0, .agg #[.bool false, .int .i64 0, .int .i64 0, .int .i64 0, .int .i64 0, .int .i64 0]], []⟩ 16 (by kernel_rfl) (by kernel_rfl) (by kernel_rfl) (by kernel_rfl)) ?_
  intro W base args ds gs before hval0 hW hcnd _
  have hval : ∀ (j : Nat) t v, Try.f7.params[j]? = some t → args[j]? = some v → Value.okWide Try.prog W .any base t v := hval0
  have hW' := hW
  obtain ⟨p, q, hA0, hV, rfl, hfz, hnd⟩ := hW
  have hA : DataW.TrodAll enc Try.prog W 0 (fun _ => true) true Try.f7.params.toList args.toList ds p := hA0
  rw [Try.params7] at hA hval
  obtain ⟨v0, vs0, e0, ds0, p0, q0, hargs, rfl, rfl, h0, x0⟩ := trodAll_cons hA
  obtain ⟨v1, vs1, e1, ds1, p1, q1, rfl, rfl, rfl, h1, x1⟩ := trodAll_cons x0
  obtain ⟨v2, vs2, e2, ds2, p2, q2, rfl, rfl, rfl, h2, x2⟩ := trodAll_cons x1
  obtain ⟨v3, vs3, e3, ds3, p3, q3, rfl, rfl, rfl, h3, x3⟩ := trodAll_cons x2
  obtain ⟨rfl, rfl, rfl⟩ := trodAll_nil x3
  obtain rfl : args = #[v0, v1, v2, v3] := by cases args; simp_all
  obtain ⟨rfl, rfl⟩ := trodVars_none hV
  have k0 := h0
  have lt0 : ∀ x ∈ p0, x.block < W.heap.size := by obtain ⟨m, hm⟩ := k0; exact DataW.trod_lt m _ _ _ hm
  have k1 := h1
  have lt1 : ∀ x ∈ p1, x.block < W.heap.size := by obtain ⟨m, hm⟩ := k1; exact DataW.trod_lt m _ _ _ hm
  obtain ⟨n1, t1, o1, r1, d1, i1, rfl, w1⟩ := ht_form (hval 1 24 v1 rfl rfl) h1
  have k2 := h2
  have lt2 : ∀ x ∈ p2, x.block < W.heap.size := by obtain ⟨m, hm⟩ := k2; exact DataW.trod_lt m _ _ _ hm
  obtain ⟨a2, rfl, _, _, w2⟩ := open_int Try.underlying3 (hval 2 3 v2 rfl rfl) h2
  have k3 := h3
  have lt3 : ∀ x ∈ p3, x.block < W.heap.size := by obtain ⟨m, hm⟩ := k3; exact DataW.trod_lt m _ _ _ hm
  obtain ⟨n3, t3, o3, r3, d3, i3, rfl, w3⟩ := ht_form (hval 3 24 v3 rfl rfl) h3
  obtain ⟨a0, len0, cap0, rfl⟩ := okWide_slice underVS (hval 0 22 v0 rfl rfl)
  obtain ⟨z0, hz0, w0, hm0⟩ := vs_form h0
  subst hz0
  clear hA0 hval0
  refine (walk a0 cap0 z0 n1 t1 o1 r1 d1 i1 w1 a2 (i64_wf w2) n3 t3 o3 r3 d3 i3 w3 W w0 hm0).mono fun e W' ⟨he, bel⟩ => ?_
  subst he
  exact ⟨_, rfl, _, _, _, [], _, [], hW', trodAll_mk1 (shut_bool Try.underlying4 _), (trodAll_cons_mk (Below.trod laidOut (by kernel_rfl) (of_decide_eq_true (by kernel_rfl)) k0 bel lt0) (trodAll_cons_mk (Below.trod laidOut (by kernel_rfl) (of_decide_eq_true (by kernel_rfl)) k1 bel lt1) (trodAll_cons_mk (Below.trod laidOut (by kernel_rfl) (of_decide_eq_true (by kernel_rfl)) k2 bel lt2) (trodAll_cons_mk (Below.trod laidOut (by kernel_rfl) (of_decide_eq_true (by kernel_rfl)) k3 bel lt3) trodAll_mk0)))), rfl, bel.frame _, fun h => by cases h⟩

theorem over : Rows.linksMoreRow.holds Try.pinned (OpenSpec.ofChange Rows.linksMoreSpec) :=
  OpenClaim.holds_of_wide 7 Try.f7 rfl rfl rfl rfl rfl rfl rfl ⟨rfl, rfl, rfl, rfl, rfl⟩ rfl rfl rfl rfl rfl (by kernel_rfl) Try.func7 (by kernel_rfl)
    (of_decide_eq_true (by kernel_rfl)) (by unfold Func.isWrapper; first | (rw [if_pos (by decide +kernel)]; kernel_rfl) | (rw [if_neg (by decide +kernel)]; exact ⟨rfl, rfl⟩))
    (fun os started H enc _ => lifted os started H enc)

theorem proved : Rows.LinksMoreSaid := over
#print axioms proved
end Go.Proofs.Ytmimgpnogjgliaa.linksMore
