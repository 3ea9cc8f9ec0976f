/- thalweglaw18.LinksTurn: for any two heights the law answers true; no condition. -/
import Derived.Test.YtmimgpnogjgliaaRb
import Derived.Test.YtmimgpnogjgliaaVb
import Derived.WalkLawsBesides
import Derived.WalkKit
import Derived.ProofKit
import Derived.OpenShut
import Derived.ShutString
import Derived.ChangeOld
import Derived.Below
namespace Go.Proofs.Ytmimgpnogjgliaa.linksTurn
open Go.ChangeShapes Go.WideShapes Go.ChangeAt Go.RowKit
open Go.ChangeMaps (open_string shut_string)
set_option linter.unusedVariables false
set_option maxRecDepth 100000

theorem own : ownKnob Try.prog.godebug = none := by kernel_rfl
theorem laidOut : laidOutB Try.prog = true := by kernel_rfl
theorem dir_ntl {own x : Hx} (h : tld own = false) : dirF own x = if tld x = true then 1 else 0 := by
  unfold dirF
  rw [h]
  rfl
theorem lsx_tot5 {x y : Hx} (hx : tld x = true) (hy : tld y = true) (hne : x ≠ y) : lsx x y = true ∨ lsx y x = true := by
  have n : ∀ z : Hx, tld z = true → z.1 = false := fun z h => by
    cases e : z.1 with
    | false => rfl
    | true =>
      have h2 : told z.1 z.2.1 z.2.2.1 z.2.2.2.1 z.2.2.2.2.1 z.2.2.2.2.2 = true := h
      unfold told at h2
      rw [e] at h2
      simp at h2
  have hr : row5 x ≠ row5 y := fun h => by
    simp only [row5, List.cons.injEq, and_true] at h
    obtain ⟨h1, h2, h3, h4, h5⟩ := h
    exact hne (Prod.ext ((n x hx).trans (n y hy).symm) (Prod.ext h1 (Prod.ext h2 (Prod.ext h3 (Prod.ext h4 h5)))))
  rcases cmpL_tot (xs := row5 x) (ys := row5 y) rfl hr with h | h
  · exact .inl ((lsx_iff _ _).2 ⟨hx, hy, h⟩)
  · exact .inr ((lsx_iff _ _).2 ⟨hy, hx, h⟩)
set_option maxHeartbeats 8000000 in
theorem walk0 (x0 : Hx) (x1 : Hx) (w : World) :
    Calls Try.prog 4 #[hxV x0, hxV x1] w fun e w' => e = .returned (.bool true) ∧ Below w.heap.size w w' := by
  obtain ⟨V, hV⟩ : ∃ V, (w.alloc (.cells #[.bool x0.1, .int .i64 x0.2.1, .int .i64 x0.2.2.1, .int .i64 x0.2.2.2.1, .int .i64 x0.2.2.2.2.1, .int .i64 x0.2.2.2.2.2] 24)).alloc (.cells #[.bool x1.1, .int .i64 x1.2.1, .int .i64 x1.2.2.1, .int .i64 x1.2.2.2.1, .int .i64 x1.2.2.2.2.1, .int .i64 x1.2.2.2.2.2] 24) = V := ⟨_, rfl⟩
  have hq : Own6 (w.alloc (.cells #[.bool x0.1, .int .i64 x0.2.1, .int .i64 x0.2.2.1, .int .i64 x0.2.2.2.1, .int .i64 x0.2.2.2.2.1, .int .i64 x0.2.2.2.2.2] 24)) w.heap.size x0.1 x0.2.1 x0.2.2.1 x0.2.2.2.1 x0.2.2.2.2.1 x0.2.2.2.2.2 := own6_alloc w x0.1 x0.2.1 x0.2.2.1 x0.2.2.2.1 x0.2.2.2.2.1 x0.2.2.2.2.2 24 w.heap.size rfl
  have hb1 : Below w.heap.size w (w.alloc (.cells #[.bool x0.1, .int .i64 x0.2.1, .int .i64 x0.2.2.1, .int .i64 x0.2.2.2.1, .int .i64 x0.2.2.2.2.1, .int .i64 x0.2.2.2.2.2] 24)) := (Below.refl _ w).alloc (Nat.le_refl _) _
  have O10 := Lib.hid (hV ▸ hq.below ((Below.refl _ _).alloc (Nat.le_refl _) _) : Own6 V w.heap.size x0.1 x0.2.1 x0.2.2.1 x0.2.2.2.1 x0.2.2.2.2.1 x0.2.2.2.2.2)
  have O20 := Lib.hid (hV ▸ own6_alloc (w.alloc (.cells #[.bool x0.1, .int .i64 x0.2.1, .int .i64 x0.2.2.1, .int .i64 x0.2.2.2.1, .int .i64 x0.2.2.2.2.1, .int .i64 x0.2.2.2.2.2] 24)) x1.1 x1.2.1 x1.2.2.1 x1.2.2.2.1 x1.2.2.2.2.1 x1.2.2.2.2.2 24 (w.heap.size + 1) (by simp) : Own6 V (w.heap.size + 1) x1.1 x1.2.1 x1.2.2.1 x1.2.2.2.1 x1.2.2.2.2.1 x1.2.2.2.2.2)
  have HB0 := Lib.hid (hV ▸ hb1.alloc hb1.size _ : Below w.heap.size w V)
  have HV := Lib.hid hV
  have AWK := Lib.hid (fun W => awake18 W)
  have D1 := Lib.hid (fun W => dir_any x0 x1 W)
  have D2 := Lib.hid (fun W => dir_any x1 x0 W)
  have CA := Lib.hid (fun W => check_any x0.1 x0.2.1 x0.2.2.1 x0.2.2.2.1 x0.2.2.2.2.1 x0.2.2.2.2.2 W)
  have CB := Lib.hid (fun W => check_any x1.1 x1.2.1 x1.2.2.1 x1.2.2.2.1 x1.2.2.2.2.1 x1.2.2.2.2.2 W)
  have LX := Lib.hid (fun W => less_any x1.1 x1.2.1 x1.2.2.1 x1.2.2.2.1 x1.2.2.2.2.1 x1.2.2.2.2.2 x0.1 x0.2.1 x0.2.2.1 x0.2.2.2.1 x0.2.2.2.2.1 x0.2.2.2.2.2 W)
  clear hV hq hb1
  by_cases h0 : HtOk x0.1 x0.2.1 x0.2.2.1 x0.2.2.2.1 x0.2.2.2.2.1 x0.2.2.2.2.2
  · rw [chk_ok h0] at CA
    by_cases h1 : HtOk x1.1 x1.2.1 x1.2.2.1 x1.2.2.2.1 x1.2.2.2.2.1 x1.2.2.2.2.2
    · rw [chk_ok h1] at CB
      cases n0 : x0.1 with
      | true =>
        have t0 : tld x0 = false := by show told _ _ _ _ _ _ = false; unfold told; rw [n0]; simp
        rw [show dirF x1 x0 = 0 by unfold dirF; rw [t0]; rfl] at D2
        rw [dir_ntl t0] at D1
        have HN0 := Lib.hid n0
        clear n0
        cases tt : tld x1 with
        | true =>
          rw [tt] at D1
          rw [if_pos rfl] at D1
          clear tt h0 h1 t0
          go_enter Try.func4, Try.ntmps4
          go_upto_region 1 with (fail)
          rw [HV.out]
          obtain ⟨⟨a0, a1, a2, a3, a4, a5⟩, _⟩ := O10.out
          obtain ⟨⟨d0, d1, d2, d3, d4, d5⟩, _⟩ := O20.out
          go_wp2_with fail
          refine (D1.out _).mono ?_
          rintro e W1 ⟨rfl, hb⟩
          have HB1 := Lib.hid (HB0.out.trans (hb.mono HB0.out.size))
          have O11 := Lib.hid (O10.out.below hb)
          have O21 := Lib.hid (O20.out.below hb)
          clear hb HB0 O10 O20 a0 a1 a2 a3 a4 a5 d0 d1 d2 d3 d4 d5
          obtain ⟨⟨a0, a1, a2, a3, a4, a5⟩, _⟩ := O11.out
          obtain ⟨⟨d0, d1, d2, d3, d4, d5⟩, _⟩ := O21.out
          go_wp2_with fail
          refine (D2.out _).mono ?_
          rintro e W2 ⟨rfl, hb⟩
          have HB2 := Lib.hid (HB1.out.trans (hb.mono HB1.out.size))
          have O12 := Lib.hid (O11.out.below hb)
          have O22 := Lib.hid (O21.out.below hb)
          clear hb HB1 O11 O21 a0 a1 a2 a3 a4 a5 d0 d1 d2 d3 d4 d5
          obtain ⟨⟨a0, a1, a2, a3, a4, a5⟩, _⟩ := O12.out
          obtain ⟨⟨d0, d1, d2, d3, d4, d5⟩, _⟩ := O22.out
          go_wp2_with fail
          refine (CA.out _).mono ?_
          rintro e W3 ⟨rfl, hb⟩
          have HB3 := Lib.hid (HB2.out.trans (hb.mono HB2.out.size))
          have O13 := Lib.hid (O12.out.below hb)
          have O23 := Lib.hid (O22.out.below hb)
          clear hb HB2 O12 O22 a0 a1 a2 a3 a4 a5 d0 d1 d2 d3 d4 d5
          obtain ⟨⟨a0, a1, a2, a3, a4, a5⟩, _⟩ := O13.out
          obtain ⟨⟨d0, d1, d2, d3, d4, d5⟩, _⟩ := O23.out
          go_wp2_with fail
          refine (CB.out _).mono ?_
          rintro e W4 ⟨rfl, hb⟩
          have HB4 := Lib.hid (HB3.out.trans (hb.mono HB3.out.size))
          have O14 := Lib.hid (O13.out.below hb)
          have O24 := Lib.hid (O23.out.below hb)
          clear hb HB3 O13 O23 a0 a1 a2 a3 a4 a5 d0 d1 d2 d3 d4 d5
          obtain ⟨⟨a0, a1, a2, a3, a4, a5⟩, _⟩ := O14.out
          obtain ⟨⟨d0, d1, d2, d3, d4, d5⟩, _⟩ := O24.out
          have n0 := HN0.out
          go_wp2_with fail
          refine (AWK.out _).mono ?_
          rintro e W5 ⟨rfl, hb⟩
          have HB5 := Lib.hid (HB4.out.trans (hb.mono HB4.out.size))
          have O15 := Lib.hid (O14.out.below hb)
          have O25 := Lib.hid (O24.out.below hb)
          clear hb HB4 O14 O24 a0 a1 a2 a3 a4 a5 d0 d1 d2 d3 d4 d5
          obtain ⟨⟨a0, a1, a2, a3, a4, a5⟩, _⟩ := O15.out
          obtain ⟨⟨d0, d1, d2, d3, d4, d5⟩, _⟩ := O25.out
          go_wp2_with fail
          go_ret
          exact ⟨rfl, HB5.out⟩
        | false =>
          rw [tt] at D1
          rw [if_neg (by decide)] at D1
          clear tt h0 h1 t0
          go_enter Try.func4, Try.ntmps4
          go_upto_region 1 with (fail)
          rw [HV.out]
          obtain ⟨⟨a0, a1, a2, a3, a4, a5⟩, _⟩ := O10.out
          obtain ⟨⟨d0, d1, d2, d3, d4, d5⟩, _⟩ := O20.out
          go_wp2_with fail
          refine (D1.out _).mono ?_
          rintro e W1 ⟨rfl, hb⟩
          have HB1 := Lib.hid (HB0.out.trans (hb.mono HB0.out.size))
          have O11 := Lib.hid (O10.out.below hb)
          have O21 := Lib.hid (O20.out.below hb)
          clear hb HB0 O10 O20 a0 a1 a2 a3 a4 a5 d0 d1 d2 d3 d4 d5
          obtain ⟨⟨a0, a1, a2, a3, a4, a5⟩, _⟩ := O11.out
          obtain ⟨⟨d0, d1, d2, d3, d4, d5⟩, _⟩ := O21.out
          go_wp2_with fail
          refine (D2.out _).mono ?_
          rintro e W2 ⟨rfl, hb⟩
          have HB2 := Lib.hid (HB1.out.trans (hb.mono HB1.out.size))
          have O12 := Lib.hid (O11.out.below hb)
          have O22 := Lib.hid (O21.out.below hb)
          clear hb HB1 O11 O21 a0 a1 a2 a3 a4 a5 d0 d1 d2 d3 d4 d5
          obtain ⟨⟨a0, a1, a2, a3, a4, a5⟩, _⟩ := O12.out
          obtain ⟨⟨d0, d1, d2, d3, d4, d5⟩, _⟩ := O22.out
          go_wp2_with fail
          refine (CA.out _).mono ?_
          rintro e W3 ⟨rfl, hb⟩
          have HB3 := Lib.hid (HB2.out.trans (hb.mono HB2.out.size))
          have O13 := Lib.hid (O12.out.below hb)
          have O23 := Lib.hid (O22.out.below hb)
          clear hb HB2 O12 O22 a0 a1 a2 a3 a4 a5 d0 d1 d2 d3 d4 d5
          obtain ⟨⟨a0, a1, a2, a3, a4, a5⟩, _⟩ := O13.out
          obtain ⟨⟨d0, d1, d2, d3, d4, d5⟩, _⟩ := O23.out
          go_wp2_with fail
          refine (CB.out _).mono ?_
          rintro e W4 ⟨rfl, hb⟩
          have HB4 := Lib.hid (HB3.out.trans (hb.mono HB3.out.size))
          have O14 := Lib.hid (O13.out.below hb)
          have O24 := Lib.hid (O23.out.below hb)
          clear hb HB3 O13 O23 a0 a1 a2 a3 a4 a5 d0 d1 d2 d3 d4 d5
          obtain ⟨⟨a0, a1, a2, a3, a4, a5⟩, _⟩ := O14.out
          obtain ⟨⟨d0, d1, d2, d3, d4, d5⟩, _⟩ := O24.out
          have n0 := HN0.out
          go_wp2_with fail
          refine (AWK.out _).mono ?_
          rintro e W5 ⟨rfl, hb⟩
          have HB5 := Lib.hid (HB4.out.trans (hb.mono HB4.out.size))
          have O15 := Lib.hid (O14.out.below hb)
          have O25 := Lib.hid (O24.out.below hb)
          clear hb HB4 O14 O24 a0 a1 a2 a3 a4 a5 d0 d1 d2 d3 d4 d5
          obtain ⟨⟨a0, a1, a2, a3, a4, a5⟩, _⟩ := O15.out
          obtain ⟨⟨d0, d1, d2, d3, d4, d5⟩, _⟩ := O25.out
          go_wp2_with fail
          go_ret
          exact ⟨rfl, HB5.out⟩
      | false =>
        have t0 : tld x0 = true := by show told _ _ _ _ _ _ = true; unfold told; rw [decide_eq_true h0, n0]; rfl
        cases n1 : x1.1 with
        | true =>
          have t1 : tld x1 = false := by show told _ _ _ _ _ _ = false; unfold told; rw [n1]; simp
          rw [show dirF x0 x1 = 0 by unfold dirF; rw [t1]; rfl] at D1
          rw [dir_ntl t1, t0] at D2
          rw [if_pos rfl] at D2
          have HN0 := Lib.hid n0
          have HN1 := Lib.hid n1
          clear n0 n1
          clear h0 h1 t0 t1
          go_enter Try.func4, Try.ntmps4
          go_upto_region 1 with (fail)
          rw [HV.out]
          obtain ⟨⟨a0, a1, a2, a3, a4, a5⟩, _⟩ := O10.out
          obtain ⟨⟨d0, d1, d2, d3, d4, d5⟩, _⟩ := O20.out
          go_wp2_with fail
          refine (D1.out _).mono ?_
          rintro e W1 ⟨rfl, hb⟩
          have HB1 := Lib.hid (HB0.out.trans (hb.mono HB0.out.size))
          have O11 := Lib.hid (O10.out.below hb)
          have O21 := Lib.hid (O20.out.below hb)
          clear hb HB0 O10 O20 a0 a1 a2 a3 a4 a5 d0 d1 d2 d3 d4 d5
          obtain ⟨⟨a0, a1, a2, a3, a4, a5⟩, _⟩ := O11.out
          obtain ⟨⟨d0, d1, d2, d3, d4, d5⟩, _⟩ := O21.out
          go_wp2_with fail
          refine (D2.out _).mono ?_
          rintro e W2 ⟨rfl, hb⟩
          have HB2 := Lib.hid (HB1.out.trans (hb.mono HB1.out.size))
          have O12 := Lib.hid (O11.out.below hb)
          have O22 := Lib.hid (O21.out.below hb)
          clear hb HB1 O11 O21 a0 a1 a2 a3 a4 a5 d0 d1 d2 d3 d4 d5
          obtain ⟨⟨a0, a1, a2, a3, a4, a5⟩, _⟩ := O12.out
          obtain ⟨⟨d0, d1, d2, d3, d4, d5⟩, _⟩ := O22.out
          go_wp2_with fail
          refine (CA.out _).mono ?_
          rintro e W3 ⟨rfl, hb⟩
          have HB3 := Lib.hid (HB2.out.trans (hb.mono HB2.out.size))
          have O13 := Lib.hid (O12.out.below hb)
          have O23 := Lib.hid (O22.out.below hb)
          clear hb HB2 O12 O22 a0 a1 a2 a3 a4 a5 d0 d1 d2 d3 d4 d5
          obtain ⟨⟨a0, a1, a2, a3, a4, a5⟩, _⟩ := O13.out
          obtain ⟨⟨d0, d1, d2, d3, d4, d5⟩, _⟩ := O23.out
          go_wp2_with fail
          refine (CB.out _).mono ?_
          rintro e W4 ⟨rfl, hb⟩
          have HB4 := Lib.hid (HB3.out.trans (hb.mono HB3.out.size))
          have O14 := Lib.hid (O13.out.below hb)
          have O24 := Lib.hid (O23.out.below hb)
          clear hb HB3 O13 O23 a0 a1 a2 a3 a4 a5 d0 d1 d2 d3 d4 d5
          obtain ⟨⟨a0, a1, a2, a3, a4, a5⟩, _⟩ := O14.out
          obtain ⟨⟨d0, d1, d2, d3, d4, d5⟩, _⟩ := O24.out
          have n0 := HN0.out
          have n1 := HN1.out
          go_wp2_with fail
          refine (AWK.out _).mono ?_
          rintro e W5 ⟨rfl, hb⟩
          have HB5 := Lib.hid (HB4.out.trans (hb.mono HB4.out.size))
          have O15 := Lib.hid (O14.out.below hb)
          have O25 := Lib.hid (O24.out.below hb)
          clear hb HB4 O14 O24 a0 a1 a2 a3 a4 a5 d0 d1 d2 d3 d4 d5
          obtain ⟨⟨a0, a1, a2, a3, a4, a5⟩, _⟩ := O15.out
          obtain ⟨⟨d0, d1, d2, d3, d4, d5⟩, _⟩ := O25.out
          go_wp2_with fail
          go_ret
          exact ⟨rfl, HB5.out⟩
        | false =>
          have t1 : tld x1 = true := by show told _ _ _ _ _ _ = true; unfold told; rw [decide_eq_true h1, n1]; rfl
          have HN0 := Lib.hid n0
          have HN1 := Lib.hid n1
          clear n0 n1
          by_cases he : x0 = x1
          · have e0 : dirF x0 x1 = 0 := by unfold dirF; rw [he, lsx_irr, t1]; rfl
            have e1 : dirF x1 x0 = 0 := by unfold dirF; rw [he, lsx_irr, t1]; rfl
            rw [e0] at D1
            rw [e1] at D2
            have E2 := fun W => eqlHX x0 x1 W
            rw [eqX_iff.2 he] at E2
            have E1 := guard23
            clear he e0 e1 t0 t1 h0 h1
            go_enter Try.func4, Try.ntmps4
            go_upto_region 1 with (fail)
            rw [HV.out]
            obtain ⟨⟨a0, a1, a2, a3, a4, a5⟩, _⟩ := O10.out
            obtain ⟨⟨d0, d1, d2, d3, d4, d5⟩, _⟩ := O20.out
            go_wp2_with fail
            refine (D1.out _).mono ?_
            rintro e W1 ⟨rfl, hb⟩
            have HB1 := Lib.hid (HB0.out.trans (hb.mono HB0.out.size))
            have O11 := Lib.hid (O10.out.below hb)
            have O21 := Lib.hid (O20.out.below hb)
            clear hb HB0 O10 O20 a0 a1 a2 a3 a4 a5 d0 d1 d2 d3 d4 d5
            obtain ⟨⟨a0, a1, a2, a3, a4, a5⟩, _⟩ := O11.out
            obtain ⟨⟨d0, d1, d2, d3, d4, d5⟩, _⟩ := O21.out
            go_wp2_with fail
            refine (D2.out _).mono ?_
            rintro e W2 ⟨rfl, hb⟩
            have HB2 := Lib.hid (HB1.out.trans (hb.mono HB1.out.size))
            have O12 := Lib.hid (O11.out.below hb)
            have O22 := Lib.hid (O21.out.below hb)
            clear hb HB1 O11 O21 a0 a1 a2 a3 a4 a5 d0 d1 d2 d3 d4 d5
            obtain ⟨⟨a0, a1, a2, a3, a4, a5⟩, _⟩ := O12.out
            obtain ⟨⟨d0, d1, d2, d3, d4, d5⟩, _⟩ := O22.out
            go_wp2_with fail
            refine (CA.out _).mono ?_
            rintro e W3 ⟨rfl, hb⟩
            have HB3 := Lib.hid (HB2.out.trans (hb.mono HB2.out.size))
            have O13 := Lib.hid (O12.out.below hb)
            have O23 := Lib.hid (O22.out.below hb)
            clear hb HB2 O12 O22 a0 a1 a2 a3 a4 a5 d0 d1 d2 d3 d4 d5
            obtain ⟨⟨a0, a1, a2, a3, a4, a5⟩, _⟩ := O13.out
            obtain ⟨⟨d0, d1, d2, d3, d4, d5⟩, _⟩ := O23.out
            go_wp2_with fail
            refine (CB.out _).mono ?_
            rintro e W4 ⟨rfl, hb⟩
            have HB4 := Lib.hid (HB3.out.trans (hb.mono HB3.out.size))
            have O14 := Lib.hid (O13.out.below hb)
            have O24 := Lib.hid (O23.out.below hb)
            clear hb HB3 O13 O23 a0 a1 a2 a3 a4 a5 d0 d1 d2 d3 d4 d5
            obtain ⟨⟨a0, a1, a2, a3, a4, a5⟩, _⟩ := O14.out
            obtain ⟨⟨d0, d1, d2, d3, d4, d5⟩, _⟩ := O24.out
            have n0 := HN0.out
            have n1 := HN1.out
            go_upto_region 6 with (fail)
            clear n0 n1
            go_wp2_with fail
            refine (AWK.out _).mono ?_
            rintro e W5 ⟨rfl, hb⟩
            have HB5 := Lib.hid (HB4.out.trans (hb.mono HB4.out.size))
            have O15 := Lib.hid (O14.out.below hb)
            have O25 := Lib.hid (O24.out.below hb)
            clear hb HB4 O14 O24 a0 a1 a2 a3 a4 a5 d0 d1 d2 d3 d4 d5
            obtain ⟨⟨a0, a1, a2, a3, a4, a5⟩, _⟩ := O15.out
            obtain ⟨⟨d0, d1, d2, d3, d4, d5⟩, _⟩ := O25.out
            go_wp2_with fail
            go_ret
            exact ⟨rfl, HB5.out⟩
          · have hor : lsx x0 x1 = true ∨ lsx x1 x0 = true := lsx_tot5 t0 t1 he
            have E2 := fun W => eqlHX x0 x1 W
            rw [show eqX x0 x1 = false by cases hq : eqX x0 x1 with | true => exact absurd (eqX_iff.1 hq) he | false => rfl] at E2
            have E1 := guard23
            rcases hor with hor | hor
            · have e0 : dirF x0 x1 = 2 := by unfold dirF; rw [t0, t1, lsx_as hor, hor]; rfl
              have e1 : dirF x1 x0 = 1 := by unfold dirF; rw [t0, t1, hor]; rfl
              rw [e0] at D1
              rw [e1] at D2
              rw [show lessB x1.1 x1.2.1 x1.2.2.1 x1.2.2.2.1 x1.2.2.2.2.1 x1.2.2.2.2.2 x0.1 x0.2.1 x0.2.2.1 x0.2.2.2.1 x0.2.2.2.2.1 x0.2.2.2.2.2 = false from lsx_as hor] at LX
              clear he e0 e1 t0 t1 h0 h1 hor
              go_enter Try.func4, Try.ntmps4
              go_upto_region 1 with (fail)
              rw [HV.out]
              obtain ⟨⟨a0, a1, a2, a3, a4, a5⟩, _⟩ := O10.out
              obtain ⟨⟨d0, d1, d2, d3, d4, d5⟩, _⟩ := O20.out
              go_wp2_with fail
              refine (D1.out _).mono ?_
              rintro e W1 ⟨rfl, hb⟩
              have HB1 := Lib.hid (HB0.out.trans (hb.mono HB0.out.size))
              have O11 := Lib.hid (O10.out.below hb)
              have O21 := Lib.hid (O20.out.below hb)
              clear hb HB0 O10 O20 a0 a1 a2 a3 a4 a5 d0 d1 d2 d3 d4 d5
              obtain ⟨⟨a0, a1, a2, a3, a4, a5⟩, _⟩ := O11.out
              obtain ⟨⟨d0, d1, d2, d3, d4, d5⟩, _⟩ := O21.out
              go_wp2_with fail
              refine (D2.out _).mono ?_
              rintro e W2 ⟨rfl, hb⟩
              have HB2 := Lib.hid (HB1.out.trans (hb.mono HB1.out.size))
              have O12 := Lib.hid (O11.out.below hb)
              have O22 := Lib.hid (O21.out.below hb)
              clear hb HB1 O11 O21 a0 a1 a2 a3 a4 a5 d0 d1 d2 d3 d4 d5
              obtain ⟨⟨a0, a1, a2, a3, a4, a5⟩, _⟩ := O12.out
              obtain ⟨⟨d0, d1, d2, d3, d4, d5⟩, _⟩ := O22.out
              go_wp2_with fail
              refine (CA.out _).mono ?_
              rintro e W3 ⟨rfl, hb⟩
              have HB3 := Lib.hid (HB2.out.trans (hb.mono HB2.out.size))
              have O13 := Lib.hid (O12.out.below hb)
              have O23 := Lib.hid (O22.out.below hb)
              clear hb HB2 O12 O22 a0 a1 a2 a3 a4 a5 d0 d1 d2 d3 d4 d5
              obtain ⟨⟨a0, a1, a2, a3, a4, a5⟩, _⟩ := O13.out
              obtain ⟨⟨d0, d1, d2, d3, d4, d5⟩, _⟩ := O23.out
              go_wp2_with fail
              refine (CB.out _).mono ?_
              rintro e W4 ⟨rfl, hb⟩
              have HB4 := Lib.hid (HB3.out.trans (hb.mono HB3.out.size))
              have O14 := Lib.hid (O13.out.below hb)
              have O24 := Lib.hid (O23.out.below hb)
              clear hb HB3 O13 O23 a0 a1 a2 a3 a4 a5 d0 d1 d2 d3 d4 d5
              obtain ⟨⟨a0, a1, a2, a3, a4, a5⟩, _⟩ := O14.out
              obtain ⟨⟨d0, d1, d2, d3, d4, d5⟩, _⟩ := O24.out
              have n0 := HN0.out
              have n1 := HN1.out
              go_upto_region 6 with (fail)
              clear n0 n1
              go_wp2_with fail
              refine (AWK.out _).mono ?_
              rintro e W5 ⟨rfl, hb⟩
              have HB5 := Lib.hid (HB4.out.trans (hb.mono HB4.out.size))
              have O15 := Lib.hid (O14.out.below hb)
              have O25 := Lib.hid (O24.out.below hb)
              clear hb HB4 O14 O24 a0 a1 a2 a3 a4 a5 d0 d1 d2 d3 d4 d5
              obtain ⟨⟨a0, a1, a2, a3, a4, a5⟩, _⟩ := O15.out
              obtain ⟨⟨d0, d1, d2, d3, d4, d5⟩, _⟩ := O25.out
              go_wp2_with fail
              refine (LX.out _).mono ?_
              rintro e W6 ⟨rfl, hb⟩
              have HB6 := Lib.hid (HB5.out.trans (hb.mono HB5.out.size))
              have O16 := Lib.hid (O15.out.below hb)
              have O26 := Lib.hid (O25.out.below hb)
              clear hb HB5 O15 O25 a0 a1 a2 a3 a4 a5 d0 d1 d2 d3 d4 d5
              obtain ⟨⟨a0, a1, a2, a3, a4, a5⟩, _⟩ := O16.out
              obtain ⟨⟨d0, d1, d2, d3, d4, d5⟩, _⟩ := O26.out
              go_wp2_with fail
              go_ret
              exact ⟨rfl, HB6.out⟩
            · have e0 : dirF x0 x1 = 1 := by unfold dirF; rw [t0, t1, hor]; rfl
              have e1 : dirF x1 x0 = 2 := by unfold dirF; rw [t0, t1, lsx_as hor, hor]; rfl
              rw [e0] at D1
              rw [e1] at D2
              rw [show lessB x1.1 x1.2.1 x1.2.2.1 x1.2.2.2.1 x1.2.2.2.2.1 x1.2.2.2.2.2 x0.1 x0.2.1 x0.2.2.1 x0.2.2.2.1 x0.2.2.2.2.1 x0.2.2.2.2.2 = true from hor] at LX
              clear he e0 e1 t0 t1 h0 h1 hor
              go_enter Try.func4, Try.ntmps4
              go_upto_region 1 with (fail)
              rw [HV.out]
              obtain ⟨⟨a0, a1, a2, a3, a4, a5⟩, _⟩ := O10.out
              obtain ⟨⟨d0, d1, d2, d3, d4, d5⟩, _⟩ := O20.out
              go_wp2_with fail
              refine (D1.out _).mono ?_
              rintro e W1 ⟨rfl, hb⟩
              have HB1 := Lib.hid (HB0.out.trans (hb.mono HB0.out.size))
              have O11 := Lib.hid (O10.out.below hb)
              have O21 := Lib.hid (O20.out.below hb)
              clear hb HB0 O10 O20 a0 a1 a2 a3 a4 a5 d0 d1 d2 d3 d4 d5
              obtain ⟨⟨a0, a1, a2, a3, a4, a5⟩, _⟩ := O11.out
              obtain ⟨⟨d0, d1, d2, d3, d4, d5⟩, _⟩ := O21.out
              go_wp2_with fail
              refine (D2.out _).mono ?_
              rintro e W2 ⟨rfl, hb⟩
              have HB2 := Lib.hid (HB1.out.trans (hb.mono HB1.out.size))
              have O12 := Lib.hid (O11.out.below hb)
              have O22 := Lib.hid (O21.out.below hb)
              clear hb HB1 O11 O21 a0 a1 a2 a3 a4 a5 d0 d1 d2 d3 d4 d5
              obtain ⟨⟨a0, a1, a2, a3, a4, a5⟩, _⟩ := O12.out
              obtain ⟨⟨d0, d1, d2, d3, d4, d5⟩, _⟩ := O22.out
              go_wp2_with fail
              refine (CA.out _).mono ?_
              rintro e W3 ⟨rfl, hb⟩
              have HB3 := Lib.hid (HB2.out.trans (hb.mono HB2.out.size))
              have O13 := Lib.hid (O12.out.below hb)
              have O23 := Lib.hid (O22.out.below hb)
              clear hb HB2 O12 O22 a0 a1 a2 a3 a4 a5 d0 d1 d2 d3 d4 d5
              obtain ⟨⟨a0, a1, a2, a3, a4, a5⟩, _⟩ := O13.out
              obtain ⟨⟨d0, d1, d2, d3, d4, d5⟩, _⟩ := O23.out
              go_wp2_with fail
              refine (CB.out _).mono ?_
              rintro e W4 ⟨rfl, hb⟩
              have HB4 := Lib.hid (HB3.out.trans (hb.mono HB3.out.size))
              have O14 := Lib.hid (O13.out.below hb)
              have O24 := Lib.hid (O23.out.below hb)
              clear hb HB3 O13 O23 a0 a1 a2 a3 a4 a5 d0 d1 d2 d3 d4 d5
              obtain ⟨⟨a0, a1, a2, a3, a4, a5⟩, _⟩ := O14.out
              obtain ⟨⟨d0, d1, d2, d3, d4, d5⟩, _⟩ := O24.out
              have n0 := HN0.out
              have n1 := HN1.out
              go_upto_region 6 with (fail)
              clear n0 n1
              go_wp2_with fail
              refine (AWK.out _).mono ?_
              rintro e W5 ⟨rfl, hb⟩
              have HB5 := Lib.hid (HB4.out.trans (hb.mono HB4.out.size))
              have O15 := Lib.hid (O14.out.below hb)
              have O25 := Lib.hid (O24.out.below hb)
              clear hb HB4 O14 O24 a0 a1 a2 a3 a4 a5 d0 d1 d2 d3 d4 d5
              obtain ⟨⟨a0, a1, a2, a3, a4, a5⟩, _⟩ := O15.out
              obtain ⟨⟨d0, d1, d2, d3, d4, d5⟩, _⟩ := O25.out
              go_wp2_with fail
              refine (LX.out _).mono ?_
              rintro e W6 ⟨rfl, hb⟩
              have HB6 := Lib.hid (HB5.out.trans (hb.mono HB5.out.size))
              have O16 := Lib.hid (O15.out.below hb)
              have O26 := Lib.hid (O25.out.below hb)
              clear hb HB5 O15 O25 a0 a1 a2 a3 a4 a5 d0 d1 d2 d3 d4 d5
              obtain ⟨⟨a0, a1, a2, a3, a4, a5⟩, _⟩ := O16.out
              obtain ⟨⟨d0, d1, d2, d3, d4, d5⟩, _⟩ := O26.out
              go_wp2_with fail
              go_ret
              exact ⟨rfl, HB6.out⟩
    · rw [chk_no h1] at CB
      have t1 : tld x1 = false := by show told _ _ _ _ _ _ = false; unfold told; rw [decide_eq_false h1]; simp
      rw [show dirF x0 x1 = 0 by unfold dirF; rw [t1]; rfl] at D1
      rw [dir_ntl t1] at D2
      cases tt : tld x0 with
      | true =>
        rw [tt] at D2
        rw [if_pos rfl] at D2
        clear tt h0 h1 t1
        go_enter Try.func4, Try.ntmps4
        go_upto_region 1 with (fail)
        rw [HV.out]
        obtain ⟨⟨a0, a1, a2, a3, a4, a5⟩, _⟩ := O10.out
        obtain ⟨⟨d0, d1, d2, d3, d4, d5⟩, _⟩ := O20.out
        go_wp2_with fail
        refine (D1.out _).mono ?_
        rintro e W1 ⟨rfl, hb⟩
        have HB1 := Lib.hid (HB0.out.trans (hb.mono HB0.out.size))
        have O11 := Lib.hid (O10.out.below hb)
        have O21 := Lib.hid (O20.out.below hb)
        clear hb HB0 O10 O20 a0 a1 a2 a3 a4 a5 d0 d1 d2 d3 d4 d5
        obtain ⟨⟨a0, a1, a2, a3, a4, a5⟩, _⟩ := O11.out
        obtain ⟨⟨d0, d1, d2, d3, d4, d5⟩, _⟩ := O21.out
        go_wp2_with fail
        refine (D2.out _).mono ?_
        rintro e W2 ⟨rfl, hb⟩
        have HB2 := Lib.hid (HB1.out.trans (hb.mono HB1.out.size))
        have O12 := Lib.hid (O11.out.below hb)
        have O22 := Lib.hid (O21.out.below hb)
        clear hb HB1 O11 O21 a0 a1 a2 a3 a4 a5 d0 d1 d2 d3 d4 d5
        obtain ⟨⟨a0, a1, a2, a3, a4, a5⟩, _⟩ := O12.out
        obtain ⟨⟨d0, d1, d2, d3, d4, d5⟩, _⟩ := O22.out
        go_wp2_with fail
        refine (CA.out _).mono ?_
        rintro e W3 ⟨rfl, hb⟩
        have HB3 := Lib.hid (HB2.out.trans (hb.mono HB2.out.size))
        have O13 := Lib.hid (O12.out.below hb)
        have O23 := Lib.hid (O22.out.below hb)
        clear hb HB2 O12 O22 a0 a1 a2 a3 a4 a5 d0 d1 d2 d3 d4 d5
        obtain ⟨⟨a0, a1, a2, a3, a4, a5⟩, _⟩ := O13.out
        obtain ⟨⟨d0, d1, d2, d3, d4, d5⟩, _⟩ := O23.out
        go_wp2_with fail
        refine (CB.out _).mono ?_
        rintro e W4 ⟨rfl, hb⟩
        have HB4 := Lib.hid (HB3.out.trans (hb.mono HB3.out.size))
        have O14 := Lib.hid (O13.out.below hb)
        have O24 := Lib.hid (O23.out.below hb)
        clear hb HB3 O13 O23 a0 a1 a2 a3 a4 a5 d0 d1 d2 d3 d4 d5
        obtain ⟨⟨a0, a1, a2, a3, a4, a5⟩, _⟩ := O14.out
        obtain ⟨⟨d0, d1, d2, d3, d4, d5⟩, _⟩ := O24.out
        go_wp2_with fail
        refine (AWK.out _).mono ?_
        rintro e W5 ⟨rfl, hb⟩
        have HB5 := Lib.hid (HB4.out.trans (hb.mono HB4.out.size))
        have O15 := Lib.hid (O14.out.below hb)
        have O25 := Lib.hid (O24.out.below hb)
        clear hb HB4 O14 O24 a0 a1 a2 a3 a4 a5 d0 d1 d2 d3 d4 d5
        obtain ⟨⟨a0, a1, a2, a3, a4, a5⟩, _⟩ := O15.out
        obtain ⟨⟨d0, d1, d2, d3, d4, d5⟩, _⟩ := O25.out
        go_wp2_with fail
        go_ret
        exact ⟨rfl, HB5.out⟩
      | false =>
        rw [tt] at D2
        rw [if_neg (by decide)] at D2
        clear tt h0 h1 t1
        go_enter Try.func4, Try.ntmps4
        go_upto_region 1 with (fail)
        rw [HV.out]
        obtain ⟨⟨a0, a1, a2, a3, a4, a5⟩, _⟩ := O10.out
        obtain ⟨⟨d0, d1, d2, d3, d4, d5⟩, _⟩ := O20.out
        go_wp2_with fail
        refine (D1.out _).mono ?_
        rintro e W1 ⟨rfl, hb⟩
        have HB1 := Lib.hid (HB0.out.trans (hb.mono HB0.out.size))
        have O11 := Lib.hid (O10.out.below hb)
        have O21 := Lib.hid (O20.out.below hb)
        clear hb HB0 O10 O20 a0 a1 a2 a3 a4 a5 d0 d1 d2 d3 d4 d5
        obtain ⟨⟨a0, a1, a2, a3, a4, a5⟩, _⟩ := O11.out
        obtain ⟨⟨d0, d1, d2, d3, d4, d5⟩, _⟩ := O21.out
        go_wp2_with fail
        refine (D2.out _).mono ?_
        rintro e W2 ⟨rfl, hb⟩
        have HB2 := Lib.hid (HB1.out.trans (hb.mono HB1.out.size))
        have O12 := Lib.hid (O11.out.below hb)
        have O22 := Lib.hid (O21.out.below hb)
        clear hb HB1 O11 O21 a0 a1 a2 a3 a4 a5 d0 d1 d2 d3 d4 d5
        obtain ⟨⟨a0, a1, a2, a3, a4, a5⟩, _⟩ := O12.out
        obtain ⟨⟨d0, d1, d2, d3, d4, d5⟩, _⟩ := O22.out
        go_wp2_with fail
        refine (CA.out _).mono ?_
        rintro e W3 ⟨rfl, hb⟩
        have HB3 := Lib.hid (HB2.out.trans (hb.mono HB2.out.size))
        have O13 := Lib.hid (O12.out.below hb)
        have O23 := Lib.hid (O22.out.below hb)
        clear hb HB2 O12 O22 a0 a1 a2 a3 a4 a5 d0 d1 d2 d3 d4 d5
        obtain ⟨⟨a0, a1, a2, a3, a4, a5⟩, _⟩ := O13.out
        obtain ⟨⟨d0, d1, d2, d3, d4, d5⟩, _⟩ := O23.out
        go_wp2_with fail
        refine (CB.out _).mono ?_
        rintro e W4 ⟨rfl, hb⟩
        have HB4 := Lib.hid (HB3.out.trans (hb.mono HB3.out.size))
        have O14 := Lib.hid (O13.out.below hb)
        have O24 := Lib.hid (O23.out.below hb)
        clear hb HB3 O13 O23 a0 a1 a2 a3 a4 a5 d0 d1 d2 d3 d4 d5
        obtain ⟨⟨a0, a1, a2, a3, a4, a5⟩, _⟩ := O14.out
        obtain ⟨⟨d0, d1, d2, d3, d4, d5⟩, _⟩ := O24.out
        go_wp2_with fail
        refine (AWK.out _).mono ?_
        rintro e W5 ⟨rfl, hb⟩
        have HB5 := Lib.hid (HB4.out.trans (hb.mono HB4.out.size))
        have O15 := Lib.hid (O14.out.below hb)
        have O25 := Lib.hid (O24.out.below hb)
        clear hb HB4 O14 O24 a0 a1 a2 a3 a4 a5 d0 d1 d2 d3 d4 d5
        obtain ⟨⟨a0, a1, a2, a3, a4, a5⟩, _⟩ := O15.out
        obtain ⟨⟨d0, d1, d2, d3, d4, d5⟩, _⟩ := O25.out
        go_wp2_with fail
        go_ret
        exact ⟨rfl, HB5.out⟩
  · rw [chk_no h0] at CA
    have t0 : tld x0 = false := by show told _ _ _ _ _ _ = false; unfold told; rw [decide_eq_false h0]; simp
    rw [show dirF x1 x0 = 0 by unfold dirF; rw [t0]; rfl] at D2
    rw [dir_ntl t0] at D1
    cases tt : tld x1 with
    | true =>
      rw [tt] at D1
      rw [if_pos rfl] at D1
      clear tt h0 t0
      go_enter Try.func4, Try.ntmps4
      go_upto_region 1 with (fail)
      rw [HV.out]
      obtain ⟨⟨a0, a1, a2, a3, a4, a5⟩, _⟩ := O10.out
      obtain ⟨⟨d0, d1, d2, d3, d4, d5⟩, _⟩ := O20.out
      go_wp2_with fail
      refine (D1.out _).mono ?_
      rintro e W1 ⟨rfl, hb⟩
      have HB1 := Lib.hid (HB0.out.trans (hb.mono HB0.out.size))
      have O11 := Lib.hid (O10.out.below hb)
      have O21 := Lib.hid (O20.out.below hb)
      clear hb HB0 O10 O20 a0 a1 a2 a3 a4 a5 d0 d1 d2 d3 d4 d5
      obtain ⟨⟨a0, a1, a2, a3, a4, a5⟩, _⟩ := O11.out
      obtain ⟨⟨d0, d1, d2, d3, d4, d5⟩, _⟩ := O21.out
      go_wp2_with fail
      refine (D2.out _).mono ?_
      rintro e W2 ⟨rfl, hb⟩
      have HB2 := Lib.hid (HB1.out.trans (hb.mono HB1.out.size))
      have O12 := Lib.hid (O11.out.below hb)
      have O22 := Lib.hid (O21.out.below hb)
      clear hb HB1 O11 O21 a0 a1 a2 a3 a4 a5 d0 d1 d2 d3 d4 d5
      obtain ⟨⟨a0, a1, a2, a3, a4, a5⟩, _⟩ := O12.out
      obtain ⟨⟨d0, d1, d2, d3, d4, d5⟩, _⟩ := O22.out
      go_wp2_with fail
      refine (CA.out _).mono ?_
      rintro e W3 ⟨rfl, hb⟩
      have HB3 := Lib.hid (HB2.out.trans (hb.mono HB2.out.size))
      have O13 := Lib.hid (O12.out.below hb)
      have O23 := Lib.hid (O22.out.below hb)
      clear hb HB2 O12 O22 a0 a1 a2 a3 a4 a5 d0 d1 d2 d3 d4 d5
      obtain ⟨⟨a0, a1, a2, a3, a4, a5⟩, _⟩ := O13.out
      obtain ⟨⟨d0, d1, d2, d3, d4, d5⟩, _⟩ := O23.out
      go_wp2_with fail
      refine (AWK.out _).mono ?_
      rintro e W4 ⟨rfl, hb⟩
      have HB4 := Lib.hid (HB3.out.trans (hb.mono HB3.out.size))
      have O14 := Lib.hid (O13.out.below hb)
      have O24 := Lib.hid (O23.out.below hb)
      clear hb HB3 O13 O23 a0 a1 a2 a3 a4 a5 d0 d1 d2 d3 d4 d5
      obtain ⟨⟨a0, a1, a2, a3, a4, a5⟩, _⟩ := O14.out
      obtain ⟨⟨d0, d1, d2, d3, d4, d5⟩, _⟩ := O24.out
      go_wp2_with fail
      go_ret
      exact ⟨rfl, HB4.out⟩
    | false =>
      rw [tt] at D1
      rw [if_neg (by decide)] at D1
      clear tt h0 t0
      go_enter Try.func4, Try.ntmps4
      go_upto_region 1 with (fail)
      rw [HV.out]
      obtain ⟨⟨a0, a1, a2, a3, a4, a5⟩, _⟩ := O10.out
      obtain ⟨⟨d0, d1, d2, d3, d4, d5⟩, _⟩ := O20.out
      go_wp2_with fail
      refine (D1.out _).mono ?_
      rintro e W1 ⟨rfl, hb⟩
      have HB1 := Lib.hid (HB0.out.trans (hb.mono HB0.out.size))
      have O11 := Lib.hid (O10.out.below hb)
      have O21 := Lib.hid (O20.out.below hb)
      clear hb HB0 O10 O20 a0 a1 a2 a3 a4 a5 d0 d1 d2 d3 d4 d5
      obtain ⟨⟨a0, a1, a2, a3, a4, a5⟩, _⟩ := O11.out
      obtain ⟨⟨d0, d1, d2, d3, d4, d5⟩, _⟩ := O21.out
      go_wp2_with fail
      refine (D2.out _).mono ?_
      rintro e W2 ⟨rfl, hb⟩
      have HB2 := Lib.hid (HB1.out.trans (hb.mono HB1.out.size))
      have O12 := Lib.hid (O11.out.below hb)
      have O22 := Lib.hid (O21.out.below hb)
      clear hb HB1 O11 O21 a0 a1 a2 a3 a4 a5 d0 d1 d2 d3 d4 d5
      obtain ⟨⟨a0, a1, a2, a3, a4, a5⟩, _⟩ := O12.out
      obtain ⟨⟨d0, d1, d2, d3, d4, d5⟩, _⟩ := O22.out
      go_wp2_with fail
      refine (CA.out _).mono ?_
      rintro e W3 ⟨rfl, hb⟩
      have HB3 := Lib.hid (HB2.out.trans (hb.mono HB2.out.size))
      have O13 := Lib.hid (O12.out.below hb)
      have O23 := Lib.hid (O22.out.below hb)
      clear hb HB2 O12 O22 a0 a1 a2 a3 a4 a5 d0 d1 d2 d3 d4 d5
      obtain ⟨⟨a0, a1, a2, a3, a4, a5⟩, _⟩ := O13.out
      obtain ⟨⟨d0, d1, d2, d3, d4, d5⟩, _⟩ := O23.out
      go_wp2_with fail
      refine (AWK.out _).mono ?_
      rintro e W4 ⟨rfl, hb⟩
      have HB4 := Lib.hid (HB3.out.trans (hb.mono HB3.out.size))
      have O14 := Lib.hid (O13.out.below hb)
      have O24 := Lib.hid (O23.out.below hb)
      clear hb HB3 O13 O23 a0 a1 a2 a3 a4 a5 d0 d1 d2 d3 d4 d5
      obtain ⟨⟨a0, a1, a2, a3, a4, a5⟩, _⟩ := O14.out
      obtain ⟨⟨d0, d1, d2, d3, d4, d5⟩, _⟩ := O24.out
      go_wp2_with fail
      go_ret
      exact ⟨rfl, HB4.out⟩
theorem walk (n0 : Bool) (t0 o0 r0 d0 i0 : Int) (w0 : I64 t0 ∧ I64 o0 ∧ I64 r0 ∧ I64 d0 ∧ I64 i0) (n1 : Bool) (t1 o1 r1 d1 i1 : Int) (w1 : I64 t1 ∧ I64 o1 ∧ I64 r1 ∧ I64 d1 ∧ I64 i1) (w : World) :
    Calls Try.prog 4 #[.agg #[.bool n0, .int .i64 t0, .int .i64 o0, .int .i64 r0, .int .i64 d0, .int .i64 i0], .agg #[.bool n1, .int .i64 t1, .int .i64 o1, .int .i64 r1, .int .i64 d1, .int .i64 i1]] w fun e w' => e = .returned (.bool true) ∧ Below w.heap.size w w' := walk0 (n0, t0, o0, r0, d0, i0) (n1, t1, o1, r1, d1, i1) w

set_option maxRecDepth 100000 in
theorem lifted (os : _root_.Go.Os) (started : os.Started) (H : Type) (enc : TypeId × Value → H) :
    ReturnsInHanded {} Try.checked os 4 .any (Rows.linksTurnSpec.pre6 enc Try.prog Try.f4 Rows.linksTurnRow.domain false) (Rows.linksTurnSpec.post enc Try.prog Try.f4 false true false false) := by
  refine returnsInHanded_of_change (C := Try.checked) own started (by kernel_rfl) Try.func4
    (ChangeSpec.witness6 (enc := enc) (C := Try.checked) false ⟨#[], #[.agg #[.bool false, .int .i64 0, .int .i64 0, .int .i64 0, .int .i64 0, .int .i64 0], .agg #[.bool false, .int .i64 0, .int .i64 0, .int .i64 0, .int .i64 0, .int .i64 0]], []⟩ 16 (by kernel_rfl) (by kernel_rfl) (by kernel_rfl) (by kernel_rfl)) ?_
  intro W base args ds gs before hval0 hW hcnd _
  have hval : ∀ (j : Nat) t v, Try.f4.params[j]? = some t → args[j]? = some v → Value.okWide Try.prog W .any base t v := hval0
  have hW' := hW
  obtain ⟨p, q, hA0, hV, rfl, hfz, hnd⟩ := hW
  have hA : DataW.TrodAll enc Try.prog W 0 (fun _ => true) true Try.f4.params.toList args.toList ds p := hA0
  rw [Try.params4] at hA hval
  obtain ⟨v0, vs0, e0, ds0, p0, q0, hargs, rfl, rfl, h0, x0⟩ := trodAll_cons hA
  obtain ⟨v1, vs1, e1, ds1, p1, q1, rfl, rfl, rfl, h1, x1⟩ := trodAll_cons x0
  obtain ⟨rfl, rfl, rfl⟩ := trodAll_nil x1
  obtain rfl : args = #[v0, v1] := by cases args; simp_all
  obtain ⟨rfl, rfl⟩ := trodVars_none hV
  have k0 := h0
  have lt0 : ∀ x ∈ p0, x.block < W.heap.size := by obtain ⟨m, hm⟩ := k0; exact DataW.trod_lt m _ _ _ hm
  obtain ⟨n0, t0, o0, r0, d0, i0, rfl, w0⟩ := ht_form (hval 0 24 v0 rfl rfl) h0
  have k1 := h1
  have lt1 : ∀ x ∈ p1, x.block < W.heap.size := by obtain ⟨m, hm⟩ := k1; exact DataW.trod_lt m _ _ _ hm
  obtain ⟨n1, t1, o1, r1, d1, i1, rfl, w1⟩ := ht_form (hval 1 24 v1 rfl rfl) h1
  clear hA0 hval0
  refine (walk n0 t0 o0 r0 d0 i0 w0 n1 t1 o1 r1 d1 i1 w1 W).mono fun e W' ⟨he, bel⟩ => ?_
  subst he
  exact ⟨_, rfl, _, _, _, [], _, [], hW', trodAll_mk1 (shut_bool Try.underlying4 _), (trodAll_cons_mk (Below.trod laidOut (by kernel_rfl) (of_decide_eq_true (by kernel_rfl)) k0 bel lt0) (trodAll_cons_mk (Below.trod laidOut (by kernel_rfl) (of_decide_eq_true (by kernel_rfl)) k1 bel lt1) trodAll_mk0)), rfl, bel.frame _, fun h => by cases h⟩

theorem over : Rows.linksTurnRow.holds Try.pinned (OpenSpec.ofChange Rows.linksTurnSpec) :=
  OpenClaim.holds_of_wide 4 Try.f4 rfl rfl rfl rfl rfl rfl rfl ⟨rfl, rfl, rfl, rfl, rfl⟩ rfl rfl rfl rfl rfl (by kernel_rfl) Try.func4 (by kernel_rfl)
    (of_decide_eq_true (by kernel_rfl)) (by unfold Func.isWrapper; first | (rw [if_pos (by decide +kernel)]; kernel_rfl) | (rw [if_neg (by decide +kernel)]; exact ⟨rfl, rfl⟩))
    (fun os started H enc _ => lifted os started H enc)

theorem proved : Rows.LinksTurnSaid := over
#print axioms proved
end Go.Proofs.Ytmimgpnogjgliaa.linksTurn
