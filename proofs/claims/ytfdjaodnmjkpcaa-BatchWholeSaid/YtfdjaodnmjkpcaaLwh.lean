/- thalweglaw05.BatchWhole: for any objects and numbers the law answers true; no condition. -/
import Derived.Test.YtfdjaodnmjkpcaaBsl
import Derived.WalkLawsBesides
import Derived.WalkKit
import Derived.ProofKit
import Derived.OpenShut
import Derived.ShutString
import Derived.ChangeOld
import Derived.Below
namespace Go.Proofs.Ytfdjaodnmjkpcaa.batchWhole
open Go.ChangeShapes Go.WideShapes Go.ChangeAt Go.RowKit
open Go.ChangeMaps (open_string shut_string)
set_option linter.unusedVariables false
set_option maxRecDepth 100000
open Go.Sort

theorem own : ownKnob Try.prog.godebug = none := by kernel_rfl
theorem laidOut : laidOutB Try.prog = true := by kernel_rfl

theorem early (a0 : Option Addr) (cap0 : Nat) (z0 : List Ob) (a1 a2 a3 : Int) (w : World) (h1 : (200 : Int) < (z0.length : Int)) :
    Calls Try.prog 6 #[.slice a0 z0.length cap0, .int .i64 a1, .int .i64 a2, .int .i64 a3] w fun e w' => e = .returned (.bool true) ∧ Below w.heap.size w w' := by
  go_enter Try.func6, Try.ntmps6
  go_wp2_with fail
  go_ret
  exact ⟨rfl, Below.refl _ _⟩
set_option maxHeartbeats 8000000 in
theorem none_ (a0 : Option Addr) (cap0 : Nat) (z0 : List Ob) (a1 a2 a3 : Int) (w : World) (w0 : Os w (.slice a0 z0.length cap0) z0) (h1 : ¬ (200 : Int) < (z0.length : Int)) (hE : packE z0 a2 ≠ 0) :
    Calls Try.prog 6 #[.slice a0 z0.length cap0, .int .i64 a1, .int .i64 a2, .int .i64 a3] w fun e w' => e = .returned (.bool true) ∧ Below w.heap.size w w' := by
  have cP := ppack_any _ z0 a1 a2 w w0 (by omega)
  rw [show packB z0 a1 a2 = [] from if_neg hE] at cP
  generalize packE z0 a2 = E at *
  have hE' : (E != 0) = true := by simpa using hE
  clear w0 hE
  go_enter Try.func6, Try.ntmps6
  go_wp2_with fail
  refine cP.mono ?_
  rintro e w1 ⟨r1, rfl, hr1, hb⟩
  obtain ⟨x2, y2, rfl⟩ := hr1.form
  have HB := Lib.hid hb
  clear hb hr1 cP
  go_wp2_with fail
  refine (bawake_any _).mono ?_
  rintro e w4 ⟨rfl, hb⟩
  replace HB := Lib.hid (HB.out.trans (hb.mono HB.out.size))
  clear hb
  go_wp2_with fail
  go_ret
  exact ⟨rfl, HB.out⟩

/-- The numbers by Next, from any one on. -/
def nextAt (a : Int) : Nat → Int
  | 0 => a
  | k + 1 => nxt (nextAt a k)
theorem nextAt_num (a : Int) : ∀ k, nextAt a (k + 1) = numAt (lft a) (k + 1)
  | 0 => by rw [nextAt, nextAt, numAt, numAt]; unfold nxt lft; omega
  | k + 1 => by rw [nextAt, nextAt_num a k, ← numAt_succ]
theorem far_num (a : Int) (k : Nat) : far (nextAt a k) (numAt (lft a) k) = 0 := by
  cases k with
  | zero => rw [nextAt, numAt]; unfold far lft; omega
  | succ k => rw [nextAt_num]; unfold far; omega
theorem cat_succ (bs : List (Int × List Ob)) (k : Nat) (h : k < bs.length) : ((bs.take (k + 1)).map Prod.snd).flatten = ((bs.take k).map Prod.snd).flatten ++ (bs.getD k zb).2 := by
  rw [List.take_succ_eq_append_getElem h, List.map_append, List.flatten_append]
  simp [List.getD, h]
theorem cat_le (bs : List (Int × List Ob)) (k : Nat) : ((bs.take k).map Prod.snd).flatten.length ≤ ((bs.map Prod.snd).flatten).length := by
  have h : bs.map Prod.snd = (bs.take k).map Prod.snd ++ (bs.drop k).map Prod.snd := by rw [← List.map_append, List.take_append_drop]
  rw [h, List.flatten_append, List.length_append]; omega

set_option maxHeartbeats 16000000 in
theorem main (a0 : Option Addr) (cap0 : Nat) (z0 : List Ob) (a1 a2 a3 : Int) (w : World) (E3 : Int) (b3 : List (Int × List Ob)) (w0 : Os w (.slice a0 z0.length cap0) z0) (h1 : ¬ (200 : Int) < (z0.length : Int)) (hE : packE z0 a2 = 0) (hE3 : packE z0 a3 = E3) (hB3 : packB z0 a1 a3 = b3) :
    Calls Try.prog 6 #[.slice a0 z0.length cap0, .int .i64 a1, .int .i64 a2, .int .i64 a3] w fun e w' => e = .returned (.bool true) ∧ Below w.heap.size w w' := by
  have cP := ppack_any _ z0 a1 a2 w w0 (by omega)
  have cQ := fun W h => ppack_any (.slice a0 z0.length cap0) z0 a1 a3 W h (by omega)
  rw [show packB z0 a1 a2 = packL a2 z0 a1 from if_pos hE, hE] at cP
  rw [hE3, hB3] at cQ
  obtain ⟨e1, e2, e3, e4⟩ := packE_ok hE
  have HOK := Lib.hid (packL_ok e3 ⟨e1, e2⟩ a1)
  have HNU := Lib.hid (packL_num a2 z0 a1)
  have HAL := Lib.hid (packL_all a2 z0 a1)
  have HLE : Hid ((packL a2 z0 a1).length ≤ z0.length) := packL_le a2 z0 a1
  have HMO : Hid (E3 = 0 → a2 ≤ a3 → b3.length ≤ (packL a2 z0 a1).length) := fun h h' => by
    rw [← hB3, packB, if_pos (hE3.trans h)]; exact packL_mono z0 a1 h'
  have HY := Lib.hid w0
  generalize packL a2 z0 a1 = bs at *
  have hle : bs.length ≤ 200 := by have := HLE.out; omega
  have hz200 : z0.length ≤ 200 := by omega
  clear w0 hE e3 hE3 hB3
  go_enter Try.func6, Try.ntmps6
  go_wp2_with fail
  refine cP.mono ?_
  rintro e w1 ⟨r1, rfl, hr1, hb⟩
  obtain ⟨x2, y2, rfl⟩ := hr1.form
  have R := Lib.hid (Bts_of_row hr1)
  have HB := Lib.hid hb
  clear hb hr1 cP
  go_wp2_with fail
  go_loopw [11, 12, 13, 14, 15] (fun all n i _ _ wr => ∃ k : Nat, k ≤ bs.length ∧ i = .int .i64 k ∧ n = .int .i64 (nextAt a1 k) ∧ wr.ownsRow w1.heap.size 52 12 all ((bs.take k).map Prod.snd).flatten.length (flat ((bs.take k).map Prod.snd).flatten) ∧ Below w1.heap.size w1 wr) (fun _ _ i _ _ _ => bs.length - (intOf i).toNat)
  case atStart => exact ⟨0, Nat.zero_le _, rfl, rfl, own_nil _ _, Below.refl _ _⟩
  case round =>
    obtain ⟨k, hk, rfl, rfl, hown, hbel⟩ := hrel
    have O1 := Lib.hid hown
    have HB2 := Lib.hid hbel
    clear hbel hown
    by_cases hlt : k < bs.length
    · obtain ⟨b, off, rfl⟩ := bts_some R.out (by omega)
      have RW := Lib.hid (R.out.below HB2.out)
      obtain ⟨n1, p1, q1, t1, o1⟩ := bts_slice RW.out hlt
      obtain ⟨hok, hmo⟩ := HOK.out k hlt
      have HN := Lib.hid (HNU.out k hlt)
      have HC := Lib.hid (cat_succ bs k hlt)
      have HCL : Hid (((bs.take (k + 1)).map Prod.snd).flatten.length ≤ 200) := by have h := cat_le bs (k + 1); rw [HAL.out] at h; exact Nat.le_trans h hz200
      obtain ⟨⟨M1, ys⟩, hyk⟩ : ∃ y, bs.getD k zb = y := ⟨_, rfl⟩
      rw [hyk] at n1 t1 o1 hok hmo HN HC
      simp only at n1 t1 o1 hok hmo HN HC
      have hNM : M1 = numAt (lft a1) k := HN.out
      subst hNM
      have cB := pbytes_ok _ _ ys wr o1 hok
      have hll : (btB (numAt (lft a1) k) ys).length = 3 + osz ys := by unfold btB; rw [List.length_append, bs_flat_len]; rfl
      have hos : 3 + (osz ys : Int) ≤ 512 := by omega
      have hmo' : ¬ (a2 < 3 + (osz ys : Int)) := by omega
      have HK := Lib.hid hyk
      have cF := fun w => far_any (nextAt a1 k) (numAt (lft a1) k) w
      rw [far_num] at cF
      clear o1 hok hyk hmo
      go_wp2_with fail
      refine cB.mono ?_
      rintro e w3 ⟨r3, rfl, hr3, hb⟩
      obtain ⟨x3, y3, h3⟩ := Bs_len hr3
      rw [hll] at h3
      subst h3
      replace HB2 := Lib.hid (HB2.out.trans (hb.mono HB2.out.size))
      replace O1 := Lib.hid (own_below O1.out hb)
      clear hr3 hb cB n1 t1
      have RW2 := Lib.hid (R.out.below HB2.out)
      obtain ⟨n1, p1, q1, t1, o1⟩ := bts_slice RW2.out hlt
      rw [HK.out] at n1 t1 o1
      simp only at n1 t1 o1
      clear o1
      go_wp2_with fail
      refine (cF _).mono ?_
      rintro e w4 ⟨rfl, hb⟩
      replace HB2 := Lib.hid (HB2.out.trans (hb.mono HB2.out.size))
      replace O1 := Lib.hid (own_below O1.out hb)
      clear hb n1 t1
      have RW3 := Lib.hid (R.out.below HB2.out)
      obtain ⟨n1, p1, q1, t1, o1⟩ := bts_slice RW3.out hlt
      rw [HK.out] at n1 t1 o1
      simp only at n1 t1 o1
      have O3 := Lib.hid o1
      clear o1
      go_wp2_with (at_builtin; refine oapp_any rfl (.tmp 69) (.tmp 74) rfl w1.heap.size ((bs.take k).map Prod.snd).flatten ys O1.out O3.out (by have h := HCL.out; rw [HC.out, List.length_append] at h; omega) HB2.out.size ?_; intro v5 w5 hown5 hb5 hs5; have O5 := Lib.hid hown5; have B5 := Lib.hid (HB2.out.trans hb5); clear hown5 hb5 hs5)
      refine (pnext_any _ _).mono ?_
      rintro e w6 ⟨rfl, hb⟩
      have O6 := Lib.hid (own_below O5.out hb)
      have B6 := Lib.hid (B5.out.trans (hb.mono B5.out.size))
      clear hb
      go_wp2_with fail
      go_roundw
      case rel => exact ⟨k + 1, by omega, by go_num, rfl, by rw [HC.out]; exact O6.out, B6.out⟩
      case measure => simp [intOf]; omega
    · obtain rfl : k = bs.length := by omega
      have hO := O1.out
      rw [List.take_length, HAL.out] at hO
      obtain ⟨x7, y7, rfl⟩ := own_form hO
      have OA := Lib.hid (Os_of_own hO).1
      clear hO O1
      replace HB := Lib.hid (HB.out.trans (HB2.out.mono HB.out.size))
      go_wp2_with fail
      refine (cQ _ (HY.out.below HB.out)).mono ?_
      rintro e w3 ⟨r3, rfl, hr3, hb⟩
      obtain ⟨x3, y3, rfl⟩ := hr3.form
      replace HB := Lib.hid (HB.out.trans (hb.mono HB.out.size))
      replace OA := Lib.hid (OA.out.below hb)
      clear hb hr3 cQ
      go_wp2_with fail
      refine (bawake_any _).mono ?_
      rintro e w4 ⟨rfl, hb⟩
      replace HB := Lib.hid (HB.out.trans (hb.mono HB.out.size))
      replace OA := Lib.hid (OA.out.below hb)
      clear hb
      go_wp2_with fail
      refine (same_true _ _ z0 _ OA.out (HY.out.below HB.out) (by omega)).mono ?_
      rintro e w5 ⟨rfl, hb⟩
      replace HB := Lib.hid (HB.out.trans (hb.mono HB.out.size))
      clear hb
      by_cases g1 : E3 = 0
      · have g1' : (E3 != 0) = false := by simpa using g1
        by_cases g2 : a3 < a2
        · clear g1
          go_wp2_with fail
          go_ret
          exact ⟨rfl, HB.out⟩
        · have g3 : (b3.length : Int) ≤ (bs.length : Int) := by have := HMO.out g1 (by omega); omega
          clear g1
          go_wp2_with fail
          go_ret
          refine ⟨?_, HB.out⟩
          first
            | rfl
            | (show Ending.returned (.bool (decide (b3.length ≤ bs.length))) = _; rw [decide_eq_true (show b3.length ≤ bs.length by omega)])
      · have g1' : (E3 != 0) = true := by simpa using g1
        clear g1
        go_wp2_with fail
        go_ret
        exact ⟨rfl, HB.out⟩
theorem walk (a0 : Option Addr) (cap0 : Nat) (z0 : List Ob) (a1 : Int) (w1 : I64 a1) (a2 : Int) (w2 : I64 a2) (a3 : Int) (w3 : I64 a3) (w : World) (w0 : Os w (.slice a0 z0.length cap0) z0) :
    Calls Try.prog 6 #[.slice a0 z0.length cap0, .int .i64 a1, .int .i64 a2, .int .i64 a3] w fun e w' => e = .returned (.bool true) ∧ Below w.heap.size w w' := by
  by_cases h1 : (200 : Int) < (z0.length : Int)
  · exact early a0 cap0 z0 a1 a2 a3 w h1
  · by_cases hE : packE z0 a2 = 0
    · exact main a0 cap0 z0 a1 a2 a3 w _ _ w0 h1 hE rfl rfl
    · exact none_ a0 cap0 z0 a1 a2 a3 w w0 h1 hE

set_option maxRecDepth 100000 in
theorem lifted (os : _root_.Go.Os) (started : os.Started) (H : Type) (enc : TypeId × Value → H) :
    ReturnsInHanded {} Try.checked os 6 .any (Rows.batchWholeSpec.pre6 enc Try.prog Try.f6 Rows.batchWholeRow.domain false) (Rows.batchWholeSpec.post enc Try.prog Try.f6 false true false false) := by
  refine returnsInHanded_of_change (C := Try.checked) own started (by kernel_rfl) Try.func6
    (ChangeSpec.witness6 (enc := enc) (C := Try.checked) false ⟨#[], #[.slice none 0 0, .int .i64 0, .int .i64 0, .int .i64 0], []⟩ 16 (by kernel_rfl) (by kernel_rfl) (by kernel_rfl) (by kernel_rfl)) ?_
  intro W base args ds gs before hval0 hW hcnd _
  have hval : ∀ (j : Nat) t v, Try.f6.params[j]? = some t → args[j]? = some v → Value.okWide Try.prog W .any base t v := hval0
  have hW' := hW
  obtain ⟨p, q, hA0, hV, rfl, hfz, hnd⟩ := hW
  have hA : DataW.TrodAll enc Try.prog W 0 (fun _ => true) true Try.f6.params.toList args.toList ds p := hA0
  rw [Try.params6] at hA hval
  obtain ⟨v0, vs0, e0, ds0, p0, q0, hargs, rfl, rfl, h0, x0⟩ := trodAll_cons hA
  obtain ⟨v1, vs1, e1, ds1, p1, q1, rfl, rfl, rfl, h1, x1⟩ := trodAll_cons x0
  obtain ⟨v2, vs2, e2, ds2, p2, q2, rfl, rfl, rfl, h2, x2⟩ := trodAll_cons x1
  obtain ⟨v3, vs3, e3, ds3, p3, q3, rfl, rfl, rfl, h3, x3⟩ := trodAll_cons x2
  obtain ⟨rfl, rfl, rfl⟩ := trodAll_nil x3
  obtain rfl : args = #[v0, v1, v2, v3] := by cases args; simp_all
  obtain ⟨rfl, rfl⟩ := trodVars_none hV
  have k0 := h0
  have lt0 : ∀ x ∈ p0, x.block < W.heap.size := by obtain ⟨m, hm⟩ := k0; exact DataW.trod_lt m _ _ _ hm
  obtain ⟨a0, len0, cap0, rfl⟩ := okWide_slice underSL (hval 0 22 v0 rfl rfl)
  obtain ⟨z0, hz0, w0⟩ := obs_form (hval 0 22 _ rfl rfl) h0
  subst hz0
  have k1 := h1
  have lt1 : ∀ x ∈ p1, x.block < W.heap.size := by obtain ⟨m, hm⟩ := k1; exact DataW.trod_lt m _ _ _ hm
  obtain ⟨a1, rfl, _, _, w1⟩ := open_int Try.underlying3 (hval 1 3 v1 rfl rfl) h1
  have k2 := h2
  have lt2 : ∀ x ∈ p2, x.block < W.heap.size := by obtain ⟨m, hm⟩ := k2; exact DataW.trod_lt m _ _ _ hm
  obtain ⟨a2, rfl, _, _, w2⟩ := open_int Try.underlying3 (hval 2 3 v2 rfl rfl) h2
  have k3 := h3
  have lt3 : ∀ x ∈ p3, x.block < W.heap.size := by obtain ⟨m, hm⟩ := k3; exact DataW.trod_lt m _ _ _ hm
  obtain ⟨a3, rfl, _, _, w3⟩ := open_int Try.underlying3 (hval 3 3 v3 rfl rfl) h3
  clear hA0 hval0
  refine (walk a0 cap0 z0 a1 (i64_wf w1) a2 (i64_wf w2) a3 (i64_wf w3) W w0).mono fun e W' ⟨he, bel⟩ => ?_
  subst he
  exact ⟨_, rfl, _, _, _, [], _, [], hW', trodAll_mk1 (shut_bool Try.underlying4 _), (trodAll_cons_mk (Below.trod laidOut (by kernel_rfl) (of_decide_eq_true (by kernel_rfl)) k0 bel lt0) (trodAll_cons_mk (Below.trod laidOut (by kernel_rfl) (of_decide_eq_true (by kernel_rfl)) k1 bel lt1) (trodAll_cons_mk (Below.trod laidOut (by kernel_rfl) (of_decide_eq_true (by kernel_rfl)) k2 bel lt2) (trodAll_cons_mk (Below.trod laidOut (by kernel_rfl) (of_decide_eq_true (by kernel_rfl)) k3 bel lt3) trodAll_mk0)))), rfl, bel.frame _, fun h => by cases h⟩

theorem over : Rows.batchWholeRow.holds Try.pinned (OpenSpec.ofChange Rows.batchWholeSpec) :=
  OpenClaim.holds_of_wide 6 Try.f6 rfl rfl rfl rfl rfl rfl rfl ⟨rfl, rfl, rfl, rfl, rfl⟩ rfl rfl rfl rfl rfl (by kernel_rfl) Try.func6 (by kernel_rfl)
    (of_decide_eq_true (by kernel_rfl)) (by unfold Func.isWrapper; first | (rw [if_pos (by decide +kernel)]; kernel_rfl) | (rw [if_neg (by decide +kernel)]; exact ⟨rfl, rfl⟩))
    (fun os started H enc _ => lifted os started H enc)

theorem proved : Rows.BatchWholeSaid := over
#print axioms proved
end Go.Proofs.Ytfdjaodnmjkpcaa.batchWhole
