/- thalweglaw12.ViewsSplit: for any views and height the law answers true; no condition. -/
import Derived.Test.YtahhhegknmiinaaVmu
import Derived.Test.YtahhhegknmiinaaVpm
import Derived.WalkLawsBesides
import Derived.WalkKit
import Derived.ProofKit
import Derived.OpenShut
import Derived.ShutString
import Derived.ChangeOld
import Derived.Below
namespace Go.Proofs.Ytahhhegknmiinaa.viewsSplit
open Go.ChangeShapes Go.WideShapes Go.ChangeAt Go.RowKit
open Go.ChangeMaps (open_string shut_string)
set_option linter.unusedVariables false
set_option maxRecDepth 100000

theorem own : ownKnob Try.prog.godebug = none := by kernel_rfl
theorem laidOut : laidOutB Try.prog = true := by kernel_rfl
/-- What is known of the rows that are walked. -/
structure Rows12 (l : List Vw) (own : Hx) (a b : List Int) : Prop where
  la : a.length ≤ l.length
  lb : b.length ≤ l.length
  up : ∀ i, i + 1 < a.length → ∃ y z : Hx, getV l (a.getD i 0) = y ∧ getV l (a.getD (i + 1) 0) = z ∧ lsx y z = true
  ina : ∀ i, i < a.length → ∃ y : Hx, getV l (a.getD i 0) = y ∧ getB l (a.getD i 0) = true ∧ lsx y own = true
  inb : ∀ i, i < b.length → ∃ y : Hx, getV l (b.getD i 0) = y ∧ getB l (b.getD i 0) = true ∧ lsx own y = true
  cnt : a.length + b.length = l.countP (fun y => !y.2.1)
  any : (lowF l).2 = decide (0 < l.countP (fun y => !y.2.1))
  fst : 0 < a.length → a.getD 0 0 = (lowF l).1.1
theorem rows12 {l : List Vw} {own : Hx} (h : SpOk l own) : Rows12 l own (belV l own) (aboV l own) := by
  have ea : ∀ i, i < (belV l own).length → (belV l own).getD i 0 = ((vordL (belF l own)).getD i zVw).1 := fun i hi => by
    unfold belV at hi ⊢
    rw [List.length_map] at hi
    simp [List.getD, hi]
  have eb : ∀ i, i < (aboV l own).length → (aboV l own).getD i 0 = ((vordL (aboF l own)).getD i zVw).1 := fun i hi => by
    unfold aboV at hi ⊢
    rw [List.length_map] at hi
    simp [List.getD, hi]
  have ma : ∀ i, i < (belV l own).length → (vordL (belF l own)).getD i zVw ∈ l ∧ lsx ((vordL (belF l own)).getD i zVw).2 own = true := fun i hi => by
    have hi2 : i < (vordL (belF l own)).length := by unfold belV at hi; rwa [List.length_map] at hi
    exact mem_bel.1 ((vord_perm _).mem_iff.1 (getD_mem hi2))
  have mb : ∀ i, i < (aboV l own).length → (vordL (aboF l own)).getD i zVw ∈ l ∧ lsx own ((vordL (aboF l own)).getD i zVw).2 = true := fun i hi => by
    have hi2 : i < (vordL (aboF l own)).length := by unfold aboV at hi; rwa [List.length_map] at hi
    exact mem_abo.1 ((vord_perm _).mem_iff.1 (getD_mem hi2))
  refine ⟨bel_len l own, abo_len l own, fun i hi => ?_, fun i hi => ?_, fun i hi => ?_, h.cnt, h.low_any, fun h0 => ?_⟩
  · have h1 := ma i (by omega)
    have h2 := ma (i + 1) hi
    rw [ea i (by omega), ea (i + 1) hi]
    refine ⟨_, _, (get_mem h.rise h1.1).1, (get_mem h.rise h2.1).1, ?_⟩
    have hi2 : i + 1 < (vordL (belF l own)).length := by unfold belV at hi; rwa [List.length_map] at hi
    have h3 := List.pairwise_iff_getElem.1 h.fall i (i + 1) (by omega) hi2 (by omega)
    have e1 : (vordL (belF l own)).getD i zVw = (vordL (belF l own))[i] := by simp [List.getD, show i < (vordL (belF l own)).length by omega]
    have e2 : (vordL (belF l own)).getD (i + 1) zVw = (vordL (belF l own))[i + 1] := by simp [List.getD, hi2]
    rw [← e1, ← e2] at h3
    exact h3
  · have h1 := ma i hi
    rw [ea i hi]
    exact ⟨_, (get_mem h.rise h1.1).1, (get_mem h.rise h1.1).2, h1.2⟩
  · have h1 := mb i hi
    rw [eb i hi]
    exact ⟨_, (get_mem h.rise h1.1).1, (get_mem h.rise h1.1).2, h1.2⟩
  · rw [ea 0 h0]
    cases hz : vordL (belF l own) with
    | nil => unfold belV at h0; rw [hz] at h0; exact absurd h0 (Nat.lt_irrefl 0)
    | cons z r => rw [h.low_first hz]; rfl
theorem zs_at {w : World} {a : Option Addr} {c : Nat} {xs : List Int} (h : Zs w (.slice a xs.length c) xs) {i : Nat} (hi : i < xs.length) : ∃ b off, a = some ⟨b, off, none⟩ ∧ w.cell? ⟨b, off + i, none⟩ = some (.int .i64 (xs.getD i 0)) := by
  obtain ⟨a', c', e, _, _, h2⟩ := Zs_open h
  simp only [Value.slice.injEq] at e
  obtain ⟨rfl, _, rfl⟩ := e
  obtain ⟨b, off, h3, h4⟩ := h2 i hi
  exact ⟨b, off, h3, h4⟩
theorem pless_any (x y : Hx) (w : World) : Calls Try.prog 30 #[hxV x, hxV y] w fun e w' => e = .returned (.bool (lsx x y)) ∧ Below w.heap.size w w' := less_any x.1 x.2.1 x.2.2.1 x.2.2.2.1 x.2.2.2.2.1 x.2.2.2.2.2 y.1 y.2.1 y.2.2.1 y.2.2.2.1 y.2.2.2.2.1 y.2.2.2.2.2 w
set_option maxHeartbeats 4000000 in
theorem walk0 (hvc : Vc) (a0 : Option Addr) (cap0 : Nat) (z0 : List Vw) (x1 : Hx) (w : World) (r0 : Vs w (.slice a0 z0.length cap0) z0) (hm : z0.length ≤ maxLen) :
    Calls Try.prog 6 #[.slice a0 z0.length cap0, hxV x1] w fun e w' => e = .returned (.bool true) ∧ Below w.heap.size w w' := by
  have H0 := Lib.hid r0
  have HM := Lib.hid hm
  have HB : Hid (Below w.heap.size w w) := Below.refl _ _
  clear r0 hm
  go_enter Try.func6, Try.ntmps6
  obtain ⟨W1, hW⟩ : ∃ W1, w.alloc (.cells #[.bool x1.1, .int .i64 x1.2.1, .int .i64 x1.2.2.1, .int .i64 x1.2.2.2.1, .int .i64 x1.2.2.2.2.1, .int .i64 x1.2.2.2.2.2] 24) = W1 := ⟨_, rfl⟩
  have hb : Below w.heap.size w W1 := hW ▸ (Below.refl _ w).alloc (Nat.le_refl _) _
  have X1 := Lib.hid (hW ▸ own6_alloc w x1.1 x1.2.1 x1.2.2.1 x1.2.2.2.1 x1.2.2.2.2.1 x1.2.2.2.2.2 24 w.heap.size rfl)
  have HW := Lib.hid hW
  clear hW
  go_upto_region 1 with (fail)
  change Code.wp _ _ _ _ (w.alloc (.cells #[.bool x1.1, .int .i64 x1.2.1, .int .i64 x1.2.2.1, .int .i64 x1.2.2.2.1, .int .i64 x1.2.2.2.2.1, .int .i64 x1.2.2.2.2.2] 24))
  rw [HW.out]
  replace H0 := Lib.hid (H0.out.below hb)
  replace HB := Lib.hid (HB.out.trans (hb.mono HB.out.size))
  clear hb HW
  obtain ⟨⟨u0, u1, u2, u3, u4, u5⟩, -⟩ := X1.out
  go_wp2_with fail
  refine (hvc.get _ z0 x1.2.2.2.2.2 _ H0.out HM.out).mono ?_
  rintro e W2 ⟨rfl, hb⟩
  replace H0 := Lib.hid (H0.out.below hb)
  replace X1 := Lib.hid (X1.out.below hb)
  replace HB := Lib.hid (HB.out.trans (hb.mono HB.out.size))
  clear hb
  clear u0 u1 u2 u3 u4 u5
  obtain ⟨⟨u0, u1, u2, u3, u4, u5⟩, -⟩ := X1.out
  obtain ⟨W3, hW⟩ : ∃ W3, W2.alloc (.cells #[.bool (getV z0 x1.2.2.2.2.2).1, .int .i64 (getV z0 x1.2.2.2.2.2).2.1, .int .i64 (getV z0 x1.2.2.2.2.2).2.2.1, .int .i64 (getV z0 x1.2.2.2.2.2).2.2.2.1, .int .i64 (getV z0 x1.2.2.2.2.2).2.2.2.2.1, .int .i64 (getV z0 x1.2.2.2.2.2).2.2.2.2.2] 24) = W3 := ⟨_, rfl⟩
  have hb : Below W2.heap.size W2 W3 := hW ▸ (Below.refl _ W2).alloc (Nat.le_refl _) _
  have X5 := Lib.hid (hW ▸ own6_alloc W2 (getV z0 x1.2.2.2.2.2).1 (getV z0 x1.2.2.2.2.2).2.1 (getV z0 x1.2.2.2.2.2).2.2.1 (getV z0 x1.2.2.2.2.2).2.2.2.1 (getV z0 x1.2.2.2.2.2).2.2.2.2.1 (getV z0 x1.2.2.2.2.2).2.2.2.2.2 24 W2.heap.size rfl)
  have HW := Lib.hid hW
  clear hW
  go_upto_region 2 with (fail)
  change Code.wp _ _ _ _ (W2.alloc (.cells #[.bool (getV z0 x1.2.2.2.2.2).1, .int .i64 (getV z0 x1.2.2.2.2.2).2.1, .int .i64 (getV z0 x1.2.2.2.2.2).2.2.1, .int .i64 (getV z0 x1.2.2.2.2.2).2.2.2.1, .int .i64 (getV z0 x1.2.2.2.2.2).2.2.2.2.1, .int .i64 (getV z0 x1.2.2.2.2.2).2.2.2.2.2] 24))
  rw [HW.out]
  replace H0 := Lib.hid (H0.out.below hb)
  replace X1 := Lib.hid (X1.out.below hb)
  replace HB := Lib.hid (HB.out.trans (hb.mono HB.out.size))
  clear hb HW
  clear u0 u1 u2 u3 u4 u5
  obtain ⟨⟨u0, u1, u2, u3, u4, u5⟩, -⟩ := X1.out
  by_cases hl : 100 < z0.length
  · have hl_ : (100 : Int) < (z0.length : Int) := by omega
    go_wp2_with fail
    refine (awake12 hvc _).mono ?_
    rintro e W99 ⟨rfl, hb⟩
    have HB9 := Lib.hid (HB.out.trans (hb.mono HB.out.size))
    clear hb
    go_wp2_with fail
    go_ret
    exact ⟨rfl, HB9.out⟩
  have hl_ : ¬ (100 : Int) < (z0.length : Int) := by omega
  have HL : Hid (z0.length ≤ 100) := by show _ ≤ _; omega
  clear hl
  go_wp2_with fail
  refine (hvc.check _ z0 _ H0.out (Nat.le_trans HL.out (by decide))).mono ?_
  rintro e W4 ⟨rfl, hb⟩
  replace H0 := Lib.hid (H0.out.below hb)
  replace X1 := Lib.hid (X1.out.below hb)
  replace HB := Lib.hid (HB.out.trans (hb.mono HB.out.size))
  clear hb
  clear u0 u1 u2 u3 u4 u5
  obtain ⟨⟨u0, u1, u2, u3, u4, u5⟩, -⟩ := X1.out
  clear hl_
  by_cases hok : VOk z0
  rotate_left
  · have hck : chkV z0 = 1 := by unfold chkV; rw [if_neg hok]
    rw [hck]
    clear hck hok
    go_wp2_with fail
    refine (awake12 hvc _).mono ?_
    rintro e W99 ⟨rfl, hb⟩
    have HB9 := Lib.hid (HB.out.trans (hb.mono HB.out.size))
    clear hb
    go_wp2_with fail
    go_ret
    exact ⟨rfl, HB9.out⟩
  have hck : chkV z0 = 0 := by unfold chkV; rw [if_pos hok]
  rw [hck]
  have HOK := Lib.hid hok
  clear hck hok
  go_wp2_with fail
  refine (check_any x1.1 x1.2.1 x1.2.2.1 x1.2.2.2.1 x1.2.2.2.2.1 x1.2.2.2.2.2 _).mono ?_
  rintro e W5 ⟨rfl, hb⟩
  replace H0 := Lib.hid (H0.out.below hb)
  replace X1 := Lib.hid (X1.out.below hb)
  replace HB := Lib.hid (HB.out.trans (hb.mono HB.out.size))
  clear hb
  clear u0 u1 u2 u3 u4 u5
  obtain ⟨⟨u0, u1, u2, u3, u4, u5⟩, -⟩ := X1.out
  by_cases hho : HtOk x1.1 x1.2.1 x1.2.2.1 x1.2.2.2.1 x1.2.2.2.2.1 x1.2.2.2.2.2
  rotate_left
  · have hck : chk x1.1 x1.2.1 x1.2.2.1 x1.2.2.2.1 x1.2.2.2.2.1 x1.2.2.2.2.2 = 1 := by unfold chk; rw [if_neg hho]
    rw [hck]
    clear hck hho
    go_wp2_with fail
    refine (awake12 hvc _).mono ?_
    rintro e W99 ⟨rfl, hb⟩
    have HB9 := Lib.hid (HB.out.trans (hb.mono HB.out.size))
    clear hb
    go_wp2_with fail
    go_ret
    exact ⟨rfl, HB9.out⟩
  have hck : chk x1.1 x1.2.1 x1.2.2.1 x1.2.2.2.1 x1.2.2.2.2.1 x1.2.2.2.2.2 = 0 := by unfold chk; rw [if_pos hho]
  rw [hck]
  have HHO := Lib.hid hho
  clear hck hho
  cases hn : x1.1 with
  | true =>
    go_wp2_with fail
    refine (awake12 hvc _).mono ?_
    rintro e W99 ⟨rfl, hb⟩
    have HB9 := Lib.hid (HB.out.trans (hb.mono HB.out.size))
    clear hb
    go_wp2_with fail
    go_ret
    exact ⟨rfl, HB9.out⟩
  | false =>
  cases ht : getB z0 x1.2.2.2.2.2 with
  | true =>
    go_wp2_with fail
    refine (awake12 hvc _).mono ?_
    rintro e W99 ⟨rfl, hb⟩
    have HB9 := Lib.hid (HB.out.trans (hb.mono HB.out.size))
    clear hb
    go_wp2_with fail
    go_ret
    exact ⟨rfl, HB9.out⟩
  | false =>
  have hsp : SpOk z0 x1 := by
    refine ⟨HOK.out, ?_, fun y hy e => ?_⟩
    · unfold tld told
      rw [decide_eq_true HHO.out, hn]
      rfl
    · have := List.any_eq_false.1 (show z0.any (isId x1.2.2.2.2.2) = false from ht) y hy
      exact this (by simp [isId, e])
  have HR0 := rows12 hsp
  obtain ⟨PA, hPA⟩ : ∃ PA, belV z0 x1 = PA := ⟨_, rfl⟩
  obtain ⟨PB, hPB⟩ : ∃ PB, aboV z0 x1 = PB := ⟨_, rfl⟩
  rw [hPA, hPB] at HR0
  have HR := Lib.hid HR0
  have HPA := Lib.hid hPA
  have HPB := Lib.hid hPB
  clear HR0 hPA hPB hsp
  go_upto_region 4 with (fail)
  clear hn ht
  have C := hvc.below _ z0 x1 _ H0.out (Nat.le_trans HL.out (by decide))
  rw [HPA.out] at C
  go_wp2_with fail
  refine (C).mono ?_
  rintro e W6 ⟨r1, rfl, hz, hb⟩
  replace H0 := Lib.hid (H0.out.below hb)
  replace X1 := Lib.hid (X1.out.below hb)
  replace HB := Lib.hid (HB.out.trans (hb.mono HB.out.size))
  have HA := Lib.hid hz
  obtain ⟨aa, ca, rfl⟩ := Zs_form hz
  clear hz C
  clear hb
  clear u0 u1 u2 u3 u4 u5
  obtain ⟨⟨u0, u1, u2, u3, u4, u5⟩, -⟩ := X1.out
  have C := hvc.above _ z0 x1 _ H0.out (Nat.le_trans HL.out (by decide))
  rw [HPB.out] at C
  go_wp2_with fail
  refine (C).mono ?_
  rintro e W7 ⟨r2, rfl, hz, hb⟩
  replace H0 := Lib.hid (H0.out.below hb)
  replace X1 := Lib.hid (X1.out.below hb)
  replace HA := Lib.hid (Zs_low HA.out hb)
  replace HB := Lib.hid (HB.out.trans (hb.mono HB.out.size))
  have HZ := Lib.hid hz
  obtain ⟨ab, cb, rfl⟩ := Zs_form hz
  clear hz C
  clear hb
  clear u0 u1 u2 u3 u4 u5
  obtain ⟨⟨u0, u1, u2, u3, u4, u5⟩, -⟩ := X1.out
  clear u0 u1 u2 u3 u4 u5
  go_wp2_with fail
  obtain ⟨WL, hWL⟩ : ∃ WL, WL = W7 := ⟨_, rfl⟩
  subst hWL
  go_loopw [9, 10] (fun nv iv wr => ∃ (k n : Nat), k ≤ z0.length ∧ iv = .int .i64 k ∧ nv = .int .i64 n ∧ Hid ((z0.take k).countP (fun y => !y.2.1) = n) ∧ WL = wr) (fun _ iv _ => z0.length - (intOf iv).toNat)
  case atStart => exact ⟨0, 0, Nat.zero_le _, rfl, rfl, rfl, rfl⟩
  case round =>
    obtain ⟨k, n, hk, rfl, rfl, HN, rfl⟩ := hrel
    have hnk : n ≤ k := by
      have h1 : (z0.take k).countP (fun y => !y.2.1) ≤ (z0.take k).length := List.countP_le_length
      rw [HN.out, List.length_take] at h1
      omega
    have hl100 := HL.out
    by_cases hlt : k < z0.length
    · obtain ⟨b2, off, rfl, hB, p0, p1, p2, p3, p4, p5, p6⟩ := H0.out.at hlt
      have hst : (z0.take (k + 1)).countP (fun y => !y.2.1) = n + (if !(z0.getD k zVw).2.1 then 1 else 0) := by
        rw [vtake_succ z0 k hlt, List.countP_append, HN.out, List.countP_cons, List.countP_nil]
        simp
      obtain ⟨y, hy⟩ : ∃ y, z0.getD k zVw = y := ⟨_, rfl⟩
      rw [hy] at hst p0 p1 p2 p3 p4 p5 p6
      clear hy
      cases hny : y.2.1 with
      | true =>
        rw [hny] at hst p1
        have HST : Hid ((z0.take (k + 1)).countP (fun y => !y.2.1) = n) := by show _ = _; simpa using hst
        clear hst hny
        go_wp2_with fail
        go_roundw
        case rel => exact ⟨k + 1, n, by omega, by go_num, rfl, HST.out, by first | rfl | trivial⟩
        case measure => simp [intOf]; omega
      | false =>
        rw [hny] at hst p1
        have HST : Hid ((z0.take (k + 1)).countP (fun y => !y.2.1) = n + 1) := by show _ = _; simpa using hst
        clear hst hny
        go_wp2_with fail
        go_roundw
        case rel => exact ⟨k + 1, n + 1, by omega, by go_num, by go_num, HST.out, by first | rfl | trivial⟩
        case measure => simp [intOf]; omega
    · obtain rfl : k = z0.length := by omega
      rw [List.take_length] at HN
      have HNN := Lib.hid hnk
      clear hnk hl100 hk
      go_wp2_with fail
      refine (hvc.lowest _ z0 _ H0.out (Nat.le_trans HL.out (by decide))).mono ?_
      rintro e W8 ⟨rfl, hb⟩
      replace H0 := Lib.hid (H0.out.below hb)
      replace X1 := Lib.hid (X1.out.below hb)
      replace HA := Lib.hid (Zs_low HA.out hb)
      replace HZ := Lib.hid (Zs_low HZ.out hb)
      replace HB := Lib.hid (HB.out.trans (hb.mono HB.out.size))
      clear hb
      obtain ⟨W9, hW⟩ : ∃ W9, W8.alloc (.cells #[.int .i64 (lowF z0).1.1, .bool (lowF z0).1.2.1, .int .i64 (lowF z0).1.2.2.1, .int .i64 (lowF z0).1.2.2.2.1, .int .i64 (lowF z0).1.2.2.2.2.1, .int .i64 (lowF z0).1.2.2.2.2.2.1, .int .i64 (lowF z0).1.2.2.2.2.2.2] 40) = W9 := ⟨_, rfl⟩
      have hb : Below W8.heap.size W8 W9 := hW ▸ (Below.refl _ W8).alloc (Nat.le_refl _) _
      have X11 := Lib.hid (hW ▸ ownV_alloc W8 (lowF z0).1 W8.heap.size rfl 40)
      have HW := Lib.hid hW
      clear hW
      go_upto_region 13 with (fail)
      change Code.wp _ _ _ _ (W8.alloc (.cells #[.int .i64 (lowF z0).1.1, .bool (lowF z0).1.2.1, .int .i64 (lowF z0).1.2.2.1, .int .i64 (lowF z0).1.2.2.2.1, .int .i64 (lowF z0).1.2.2.2.2.1, .int .i64 (lowF z0).1.2.2.2.2.2.1, .int .i64 (lowF z0).1.2.2.2.2.2.2] 40))
      rw [HW.out]
      replace H0 := Lib.hid (H0.out.below hb)
      replace X1 := Lib.hid (X1.out.below hb)
      replace HA := Lib.hid (Zs_low HA.out hb)
      replace HZ := Lib.hid (Zs_low HZ.out hb)
      replace HB := Lib.hid (HB.out.trans (hb.mono HB.out.size))
      clear hb HW
      obtain ⟨g11, hg11⟩ : ∃ g11, W8.heap.size = g11 := ⟨_, rfl⟩
      rw [hg11] at X11 ⊢
      clear hg11
      go_wp2_with fail
      obtain ⟨WLa, hWL⟩ : ∃ WLa, WLa = W9 := ⟨_, rfl⟩
      subst hWL
      go_loopw [13] (fun iv wr => ∃ k : Nat, k ≤ PA.length ∧ iv = .int .i64 k ∧ Hid (Below WLa.heap.size WLa wr)) (fun iv _ => PA.length - (intOf iv).toNat)
      case atStart => exact ⟨0, Nat.zero_le _, rfl, Below.refl _ _⟩
      case round =>
        obtain ⟨k, hk, rfl, HBW⟩ := hrel
        have hl100 := HL.out
        have hlr := HR.out.la
        by_cases hlt : k + 1 < PA.length
        · replace H0 := Lib.hid (H0.out.below HBW.out)
          replace X1 := Lib.hid (X1.out.below HBW.out)
          replace X11 := Lib.hid (X11.out.below HBW.out)
          replace HA := Lib.hid (Zs_low HA.out HBW.out)
          replace HZ := Lib.hid (Zs_low HZ.out HBW.out)
          replace HB := Lib.hid (HB.out.trans (HBW.out.mono HB.out.size))
          obtain ⟨y, z, e1, e2, e3⟩ := HR.out.up k hlt
          obtain ⟨ba, oa, rfl, p0⟩ := zs_at HA.out (show k < PA.length by omega)
          obtain ⟨q1, hq1⟩ : ∃ q1, PA.getD k 0 = q1 := ⟨_, rfl⟩
          obtain ⟨q2, hq2⟩ : ∃ q2, PA.getD (k + 1) 0 = q2 := ⟨_, rfl⟩
          rw [hq1] at p0 e1
          rw [hq2] at e2
          have HQ2 := Lib.hid hq2
          clear hq1 hq2
          have HZ1 := Lib.hid e2
          have HLS := Lib.hid e3
          have w1_ : IntKind.i64.wrap ((k : Int) + 1) = (k : Int) + 1 := by rw [IntKind.wrap_i64]; omega
          have w2_ : (k : Int) + 1 < (PA.length : Int) := by omega
          have C := hvc.get _ z0 q1 _ H0.out HM.out
          rw [e1] at C
          clear e1 e2 e3
          go_wp2_with fail
          refine (C).mono ?_
          rintro e W21 ⟨rfl, hb⟩
          replace H0 := Lib.hid (H0.out.below hb)
          replace X1 := Lib.hid (X1.out.below hb)
          replace X11 := Lib.hid (X11.out.below hb)
          replace HA := Lib.hid (Zs_low HA.out hb)
          replace HZ := Lib.hid (Zs_low HZ.out hb)
          replace HB := Lib.hid (HB.out.trans (hb.mono HB.out.size))
          replace HBW := Lib.hid (HBW.out.trans (hb.mono HBW.out.size))
          clear C p0 w1_ w2_
          clear hb
          obtain ⟨W22, hW⟩ : ∃ W22, W21.alloc (.cells #[.bool y.1, .int .i64 y.2.1, .int .i64 y.2.2.1, .int .i64 y.2.2.2.1, .int .i64 y.2.2.2.2.1, .int .i64 y.2.2.2.2.2] 24) = W22 := ⟨_, rfl⟩
          have hb : Below W21.heap.size W21 W22 := hW ▸ (Below.refl _ W21).alloc (Nat.le_refl _) _
          have X14 := Lib.hid (hW ▸ own6_alloc W21 y.1 y.2.1 y.2.2.1 y.2.2.2.1 y.2.2.2.2.1 y.2.2.2.2.2 24 W21.heap.size rfl)
          have HW := Lib.hid hW
          clear hW
          go_upto_region 17 with (fail)
          change Code.wp _ _ _ _ (W21.alloc (.cells #[.bool y.1, .int .i64 y.2.1, .int .i64 y.2.2.1, .int .i64 y.2.2.2.1, .int .i64 y.2.2.2.2.1, .int .i64 y.2.2.2.2.2] 24))
          rw [HW.out]
          replace H0 := Lib.hid (H0.out.below hb)
          replace X1 := Lib.hid (X1.out.below hb)
          replace X11 := Lib.hid (X11.out.below hb)
          replace HA := Lib.hid (Zs_low HA.out hb)
          replace HZ := Lib.hid (Zs_low HZ.out hb)
          replace HB := Lib.hid (HB.out.trans (hb.mono HB.out.size))
          replace HBW := Lib.hid (HBW.out.trans (hb.mono HBW.out.size))
          clear hb HW
          obtain ⟨g14, hg14⟩ : ∃ g14, W21.heap.size = g14 := ⟨_, rfl⟩
          rw [hg14] at X14 ⊢
          clear hg14
          obtain ⟨b9, o9, e9, p0⟩ := zs_at HA.out hlt
          rw [HQ2.out] at p0
          simp only [Option.some.injEq, Addr.mk.injEq, and_true] at e9
          obtain ⟨rfl, rfl⟩ := e9
          have w1_ : IntKind.i64.wrap ((k : Int) + 1) = (k : Int) + 1 := by rw [IntKind.wrap_i64]; omega
          have w2_ : (k : Int) + 1 < (PA.length : Int) := by omega
          have w3_ : ((k : Int) + 1).toNat = k + 1 := by omega
          have w4_ : (0 : Int) ≤ (k : Int) + 1 := by omega
          have C := hvc.get _ z0 q2 _ H0.out HM.out
          rw [HZ1.out] at C
          go_wp2_with fail
          refine (C).mono ?_
          rintro e W23 ⟨rfl, hb⟩
          replace H0 := Lib.hid (H0.out.below hb)
          replace X1 := Lib.hid (X1.out.below hb)
          replace X11 := Lib.hid (X11.out.below hb)
          replace X14 := Lib.hid (X14.out.below hb)
          replace HA := Lib.hid (Zs_low HA.out hb)
          replace HZ := Lib.hid (Zs_low HZ.out hb)
          replace HB := Lib.hid (HB.out.trans (hb.mono HB.out.size))
          replace HBW := Lib.hid (HBW.out.trans (hb.mono HBW.out.size))
          clear C p0 w1_ w2_ w3_ w4_
          clear hb
          obtain ⟨W24, hW⟩ : ∃ W24, W23.alloc (.cells #[.bool z.1, .int .i64 z.2.1, .int .i64 z.2.2.1, .int .i64 z.2.2.2.1, .int .i64 z.2.2.2.2.1, .int .i64 z.2.2.2.2.2] 24) = W24 := ⟨_, rfl⟩
          have hb : Below W23.heap.size W23 W24 := hW ▸ (Below.refl _ W23).alloc (Nat.le_refl _) _
          have X16 := Lib.hid (hW ▸ own6_alloc W23 z.1 z.2.1 z.2.2.1 z.2.2.2.1 z.2.2.2.2.1 z.2.2.2.2.2 24 W23.heap.size rfl)
          have HW := Lib.hid hW
          clear hW
          go_upto_region 18 with (fail)
          change Code.wp _ _ _ _ (W23.alloc (.cells #[.bool z.1, .int .i64 z.2.1, .int .i64 z.2.2.1, .int .i64 z.2.2.2.1, .int .i64 z.2.2.2.2.1, .int .i64 z.2.2.2.2.2] 24))
          rw [HW.out]
          replace H0 := Lib.hid (H0.out.below hb)
          replace X1 := Lib.hid (X1.out.below hb)
          replace X11 := Lib.hid (X11.out.below hb)
          replace X14 := Lib.hid (X14.out.below hb)
          replace HA := Lib.hid (Zs_low HA.out hb)
          replace HZ := Lib.hid (Zs_low HZ.out hb)
          replace HB := Lib.hid (HB.out.trans (hb.mono HB.out.size))
          replace HBW := Lib.hid (HBW.out.trans (hb.mono HBW.out.size))
          clear hb HW
          obtain ⟨⟨v0, v1, v2, v3, v4, v5⟩, -⟩ := X14.out
          obtain ⟨⟨m0, m1, m2, m3, m4, m5⟩, -⟩ := X16.out
          have C := pless_any y z W24
          rw [HLS.out] at C
          go_wp2_with fail
          refine (C).mono ?_
          rintro e W25 ⟨rfl, hb⟩
          replace H0 := Lib.hid (H0.out.below hb)
          replace X1 := Lib.hid (X1.out.below hb)
          replace X11 := Lib.hid (X11.out.below hb)
          replace HA := Lib.hid (Zs_low HA.out hb)
          replace HZ := Lib.hid (Zs_low HZ.out hb)
          replace HB := Lib.hid (HB.out.trans (hb.mono HB.out.size))
          replace HBW := Lib.hid (HBW.out.trans (hb.mono HBW.out.size))
          clear C
          clear hb
          clear v0 v1 v2 v3 v4 v5 m0 m1 m2 m3 m4 m5
          go_wp2_with fail
          go_roundw
          case rel => exact ⟨k + 1, by omega, by go_num, HBW.out⟩
          case measure => simp [intOf]; omega
        · skip
          replace H0 := Lib.hid (H0.out.below HBW.out)
          replace X1 := Lib.hid (X1.out.below HBW.out)
          replace X11 := Lib.hid (X11.out.below HBW.out)
          replace HA := Lib.hid (Zs_low HA.out HBW.out)
          replace HZ := Lib.hid (Zs_low HZ.out HBW.out)
          replace HB := Lib.hid (HB.out.trans (HBW.out.mono HB.out.size))
          have hnl : ¬ (k : Int) + 1 < (PA.length : Int) := by omega
          go_wp2_with fail
          clear HBW hl100 hlr hlt hk hnl
          obtain ⟨WLb, hWL⟩ : ∃ WLb, WLb = wr := ⟨_, rfl⟩
          subst hWL
          go_loopw [18] (fun iv wr => ∃ k : Nat, k ≤ PB.length ∧ iv = .int .i64 k ∧ Hid (Below WLb.heap.size WLb wr)) (fun iv _ => PB.length - (intOf iv).toNat)
          case atStart => exact ⟨0, Nat.zero_le _, rfl, Below.refl _ _⟩
          case round =>
            obtain ⟨k, hk, rfl, HBW⟩ := hrel
            have hl100 := HL.out
            have hlr := HR.out.lb
            by_cases hlt : k < PB.length
            · replace H0 := Lib.hid (H0.out.below HBW.out)
              replace X1 := Lib.hid (X1.out.below HBW.out)
              replace X11 := Lib.hid (X11.out.below HBW.out)
              replace HA := Lib.hid (Zs_low HA.out HBW.out)
              replace HZ := Lib.hid (Zs_low HZ.out HBW.out)
              replace HB := Lib.hid (HB.out.trans (HBW.out.mono HB.out.size))
              obtain ⟨y, e1, e2, e3⟩ := HR.out.inb k hlt
              obtain ⟨ba, oa, rfl, p0⟩ := zs_at HZ.out hlt
              obtain ⟨q1, hq1⟩ : ∃ q1, PB.getD k 0 = q1 := ⟨_, rfl⟩
              rw [hq1] at p0 e1 e2
              clear hq1
              have HLS := Lib.hid e3
              have C := hvc.get _ z0 q1 _ H0.out HM.out
              rw [e1, e2] at C
              clear e1 e2 e3
              go_wp2_with fail
              refine (C).mono ?_
              rintro e W21 ⟨rfl, hb⟩
              replace H0 := Lib.hid (H0.out.below hb)
              replace X1 := Lib.hid (X1.out.below hb)
              replace X11 := Lib.hid (X11.out.below hb)
              replace HA := Lib.hid (Zs_low HA.out hb)
              replace HZ := Lib.hid (Zs_low HZ.out hb)
              replace HB := Lib.hid (HB.out.trans (hb.mono HB.out.size))
              replace HBW := Lib.hid (HBW.out.trans (hb.mono HBW.out.size))
              clear C p0
              clear hb
              obtain ⟨W22, hW⟩ : ∃ W22, W21.alloc (.cells #[.bool y.1, .int .i64 y.2.1, .int .i64 y.2.2.1, .int .i64 y.2.2.2.1, .int .i64 y.2.2.2.2.1, .int .i64 y.2.2.2.2.2] 24) = W22 := ⟨_, rfl⟩
              have hb : Below W21.heap.size W21 W22 := hW ▸ (Below.refl _ W21).alloc (Nat.le_refl _) _
              have X19 := Lib.hid (hW ▸ own6_alloc W21 y.1 y.2.1 y.2.2.1 y.2.2.2.1 y.2.2.2.2.1 y.2.2.2.2.2 24 W21.heap.size rfl)
              have HW := Lib.hid hW
              clear hW
              go_upto_region 24 with (fail)
              change Code.wp _ _ _ _ (W21.alloc (.cells #[.bool y.1, .int .i64 y.2.1, .int .i64 y.2.2.1, .int .i64 y.2.2.2.1, .int .i64 y.2.2.2.2.1, .int .i64 y.2.2.2.2.2] 24))
              rw [HW.out]
              replace H0 := Lib.hid (H0.out.below hb)
              replace X1 := Lib.hid (X1.out.below hb)
              replace X11 := Lib.hid (X11.out.below hb)
              replace HA := Lib.hid (Zs_low HA.out hb)
              replace HZ := Lib.hid (Zs_low HZ.out hb)
              replace HB := Lib.hid (HB.out.trans (hb.mono HB.out.size))
              replace HBW := Lib.hid (HBW.out.trans (hb.mono HBW.out.size))
              clear hb HW
              obtain ⟨⟨v0, v1, v2, v3, v4, v5⟩, -⟩ := X19.out
              obtain ⟨⟨u0, u1, u2, u3, u4, u5⟩, -⟩ := X1.out
              have C := pless_any x1 y W22
              rw [HLS.out] at C
              go_wp2_with fail
              refine (C).mono ?_
              rintro e W23 ⟨rfl, hb⟩
              replace H0 := Lib.hid (H0.out.below hb)
              replace X1 := Lib.hid (X1.out.below hb)
              replace X11 := Lib.hid (X11.out.below hb)
              replace HA := Lib.hid (Zs_low HA.out hb)
              replace HZ := Lib.hid (Zs_low HZ.out hb)
              replace HB := Lib.hid (HB.out.trans (hb.mono HB.out.size))
              replace HBW := Lib.hid (HBW.out.trans (hb.mono HBW.out.size))
              clear C
              clear hb
              clear v0 v1 v2 v3 v4 v5 u0 u1 u2 u3 u4 u5
              go_wp2_with fail
              go_roundw
              case rel => exact ⟨k + 1, by omega, by go_num, HBW.out⟩
              case measure => simp [intOf]; omega
            · skip
              replace H0 := Lib.hid (H0.out.below HBW.out)
              replace X1 := Lib.hid (X1.out.below HBW.out)
              replace X11 := Lib.hid (X11.out.below HBW.out)
              replace HA := Lib.hid (Zs_low HA.out HBW.out)
              replace HZ := Lib.hid (Zs_low HZ.out HBW.out)
              replace HB := Lib.hid (HB.out.trans (HBW.out.mono HB.out.size))
              have hnl : ¬ (k : Int) < (PB.length : Int) := by omega
              go_wp2_with fail
              clear HBW hl100 hlr hlt hk hnl
              obtain ⟨WLc, hWL⟩ : ∃ WLc, WLc = wr := ⟨_, rfl⟩
              subst hWL
              go_loopw [21] (fun iv wr => ∃ k : Nat, k ≤ PA.length ∧ iv = .int .i64 k ∧ Hid (Below WLc.heap.size WLc wr)) (fun iv _ => PA.length - (intOf iv).toNat)
              case atStart => exact ⟨0, Nat.zero_le _, rfl, Below.refl _ _⟩
              case round =>
                obtain ⟨k, hk, rfl, HBW⟩ := hrel
                have hl100 := HL.out
                have hlr := HR.out.la
                by_cases hlt : k < PA.length
                · replace H0 := Lib.hid (H0.out.below HBW.out)
                  replace X1 := Lib.hid (X1.out.below HBW.out)
                  replace X11 := Lib.hid (X11.out.below HBW.out)
                  replace HA := Lib.hid (Zs_low HA.out HBW.out)
                  replace HZ := Lib.hid (Zs_low HZ.out HBW.out)
                  replace HB := Lib.hid (HB.out.trans (HBW.out.mono HB.out.size))
                  obtain ⟨y, e1, e2, e3⟩ := HR.out.ina k hlt
                  obtain ⟨ba, oa, rfl, p0⟩ := zs_at HA.out hlt
                  obtain ⟨q1, hq1⟩ : ∃ q1, PA.getD k 0 = q1 := ⟨_, rfl⟩
                  rw [hq1] at p0 e1 e2
                  clear hq1
                  have HLS := Lib.hid e3
                  have C := hvc.get _ z0 q1 _ H0.out HM.out
                  rw [e1, e2] at C
                  clear e1 e2 e3
                  go_wp2_with fail
                  refine (C).mono ?_
                  rintro e W21 ⟨rfl, hb⟩
                  replace H0 := Lib.hid (H0.out.below hb)
                  replace X1 := Lib.hid (X1.out.below hb)
                  replace X11 := Lib.hid (X11.out.below hb)
                  replace HA := Lib.hid (Zs_low HA.out hb)
                  replace HZ := Lib.hid (Zs_low HZ.out hb)
                  replace HB := Lib.hid (HB.out.trans (hb.mono HB.out.size))
                  replace HBW := Lib.hid (HBW.out.trans (hb.mono HBW.out.size))
                  clear C p0
                  clear hb
                  obtain ⟨W22, hW⟩ : ∃ W22, W21.alloc (.cells #[.bool y.1, .int .i64 y.2.1, .int .i64 y.2.2.1, .int .i64 y.2.2.2.1, .int .i64 y.2.2.2.2.1, .int .i64 y.2.2.2.2.2] 24) = W22 := ⟨_, rfl⟩
                  have hb : Below W21.heap.size W21 W22 := hW ▸ (Below.refl _ W21).alloc (Nat.le_refl _) _
                  have X19 := Lib.hid (hW ▸ own6_alloc W21 y.1 y.2.1 y.2.2.1 y.2.2.2.1 y.2.2.2.2.1 y.2.2.2.2.2 24 W21.heap.size rfl)
                  have HW := Lib.hid hW
                  clear hW
                  go_upto_region 30 with (fail)
                  change Code.wp _ _ _ _ (W21.alloc (.cells #[.bool y.1, .int .i64 y.2.1, .int .i64 y.2.2.1, .int .i64 y.2.2.2.1, .int .i64 y.2.2.2.2.1, .int .i64 y.2.2.2.2.2] 24))
                  rw [HW.out]
                  replace H0 := Lib.hid (H0.out.below hb)
                  replace X1 := Lib.hid (X1.out.below hb)
                  replace X11 := Lib.hid (X11.out.below hb)
                  replace HA := Lib.hid (Zs_low HA.out hb)
                  replace HZ := Lib.hid (Zs_low HZ.out hb)
                  replace HB := Lib.hid (HB.out.trans (hb.mono HB.out.size))
                  replace HBW := Lib.hid (HBW.out.trans (hb.mono HBW.out.size))
                  clear hb HW
                  obtain ⟨⟨v0, v1, v2, v3, v4, v5⟩, -⟩ := X19.out
                  obtain ⟨⟨u0, u1, u2, u3, u4, u5⟩, -⟩ := X1.out
                  have C := pless_any y x1 W22
                  rw [HLS.out] at C
                  go_wp2_with fail
                  refine (C).mono ?_
                  rintro e W23 ⟨rfl, hb⟩
                  replace H0 := Lib.hid (H0.out.below hb)
                  replace X1 := Lib.hid (X1.out.below hb)
                  replace X11 := Lib.hid (X11.out.below hb)
                  replace HA := Lib.hid (Zs_low HA.out hb)
                  replace HZ := Lib.hid (Zs_low HZ.out hb)
                  replace HB := Lib.hid (HB.out.trans (hb.mono HB.out.size))
                  replace HBW := Lib.hid (HBW.out.trans (hb.mono HBW.out.size))
                  clear C
                  clear hb
                  clear v0 v1 v2 v3 v4 v5 u0 u1 u2 u3 u4 u5
                  go_wp2_with fail
                  go_roundw
                  case rel => exact ⟨k + 1, by omega, by go_num, HBW.out⟩
                  case measure => simp [intOf]; omega
                · skip
                  replace H0 := Lib.hid (H0.out.below HBW.out)
                  replace X1 := Lib.hid (X1.out.below HBW.out)
                  replace X11 := Lib.hid (X11.out.below HBW.out)
                  replace HA := Lib.hid (Zs_low HA.out HBW.out)
                  replace HZ := Lib.hid (Zs_low HZ.out HBW.out)
                  replace HB := Lib.hid (HB.out.trans (HBW.out.mono HB.out.size))
                  have hnl : ¬ (k : Int) < (PA.length : Int) := by omega
                  go_wp2_with fail
                  clear HBW hl100 hlr hlt hk hnl
                  obtain ⟨WZ, hWL⟩ : ∃ WZ, WZ = wr := ⟨_, rfl⟩
                  subst hWL
                  have hcnt := HR.out.cnt
                  rw [HN.out] at hcnt
                  have hany := HR.out.any
                  rw [HN.out] at hany
                  have hl100 := HL.out
                  have hla := HR.out.la
                  have s1_ : IntKind.i64.wrap ((PA.length : Int) + (PB.length : Int)) = (PA.length : Int) + (PB.length : Int) := by rw [IntKind.wrap_i64]; have := HR.out.lb; omega
                  have s2_ : ((PA.length : Int) + (PB.length : Int) == (n : Int)) = true := by simp; omega
                  have s3_ : (PA.length : Int) + (PB.length : Int) = (n : Int) := by omega
                  have s4_ : (lowF z0).2 = decide ((0 : Int) < (n : Int)) := by rw [hany]; exact decide_eq_decide.2 (by omega)
                  have X9 := Lib.hid X11.out
                  clear hcnt hany
                  by_cases h0 : 0 < PA.length
                  · obtain ⟨ba, oa, rfl, p0⟩ := zs_at HA.out h0
                    rw [HR.out.fst h0] at p0
                    have kc : ∀ w', Below WZ.heap.size WZ w' → w'.cell? ⟨ba, oa, none⟩ = some (.int .i64 (lowF z0).1.1) ∧ w'.cell? ⟨g11, 0, none⟩ = some (.int .i64 (lowF z0).1.1) := fun w' hb => ⟨(hb.cell (p := ⟨ba, oa, none⟩) (World.block_lt_of_cell? WZ _ p0)).trans p0, (X9.out.below hb).1.1⟩
                    have t0_ : ((PA.length : Int) == 0) = false := by rw [beq_eq_false_iff_ne]; omega
                    have t1_ : (0 : Int) < (PA.length : Int) := by omega
                    clear p0
                    go_upto_region 32 with (fail)
                    refine wp_region_typed (C := fun w' => Below WZ.heap.size WZ w') (X := fun w w' => Below w.heap.size w w') (n := 183) (by kernel_rfl) (by kernel_rfl) rfl (fun w => Below.refl _ w) (Below.refl _ _).drew ?_
                    refine w_call (Is _) (fun _ _ _ h _ => h) 18 (.inl rfl) (fun ρ w hC hc hfn hf => by exact ⟨_, by (conv => lhs; simp [execOp, resolve, invoke, go_sem, hc, hfn]), tc_below hC (awake12 hvc w)⟩) ?_
                    refine w_is (fun w => Below.refl _ w) _ (.inl rfl) (fun ρ w hC hc hfn hf => by have e154 : ρ (.tmp 154) = _ := hf 154 (by decide); (conv => lhs; simp [execOp, go_sem, hc, e154])) ?_
                    refine w_is (fun w => Below.refl _ w) _ (.inr ⟨1, 155, true, rfl, rfl, known_is rfl⟩) (fun ρ w hC hc hfn hf => by have e7 : ρ (.tmp 7) = _ := hf 7 (by decide); (conv => lhs; simp [execOp, go_sem, hc, e7])) ?_
                    refine w_is (fun w => Below.refl _ w) _ (.inr ⟨1, 155, true, rfl, rfl, known_is rfl⟩) (fun ρ w hC hc hfn hf => by have e156 : ρ (.tmp 156) = _ := hf 156 (by decide); (conv => lhs; simp [execOp, go_sem, hc, e156])) ?_
                    refine w_is (fun w => Below.refl _ w) _ (.inr ⟨1, 155, true, rfl, rfl, known_is rfl⟩) (fun ρ w hC hc hfn hf => by have e8 : ρ (.tmp 8) = _ := hf 8 (by decide); (conv => lhs; simp [execOp, go_sem, hc, e8])) ?_
                    refine w_is (fun w => Below.refl _ w) _ (.inr ⟨1, 155, true, rfl, rfl, known_is rfl⟩) (fun ρ w hC hc hfn hf => by have e158 : ρ (.tmp 158) = _ := hf 158 (by decide); (conv => lhs; simp [execOp, go_sem, hc, e158])) ?_
                    refine w_is (fun w => Below.refl _ w) _ (.inr ⟨1, 155, true, rfl, rfl, known_is rfl⟩) (fun ρ w hC hc hfn hf => by have e157 : ρ (.tmp 157) = _ := hf 157 (by decide); have e159 : ρ (.tmp 159) = _ := hf 159 (by decide); (conv => lhs; simp [execOp, go_sem, hc, e157, e159, s1_])) ?_
                    refine w_is (fun w => Below.refl _ w) _ (.inr ⟨1, 155, true, rfl, rfl, known_is rfl⟩) (fun ρ w hC hc hfn hf => by have e9 : ρ (.tmp 9) = _ := hf 9 (by decide); (conv => lhs; simp [execOp, go_sem, hc, e9])) ?_
                    refine w_is (fun w => Below.refl _ w) _ (.inr ⟨1, 155, true, rfl, rfl, known_is rfl⟩) (fun ρ w hC hc hfn hf => by have e160 : ρ (.tmp 160) = _ := hf 160 (by decide); have e161 : ρ (.tmp 161) = _ := hf 161 (by decide); (conv => lhs; simp [execOp, go_sem, hc, e160, e161, s2_, s3_])) ?_
                    refine w_is (fun w => Below.refl _ w) _ (.inl rfl) (fun ρ w hC hc hfn hf => by have e155 : ρ (.tmp 155) = _ := hf 155 (by decide); have e162 : ρ (.tmp 162) = _ := hf 162 (by decide); (conv => lhs; simp [execOp, go_sem, hc, e155, e162])) ?_
                    refine w_is (fun w => Below.refl _ w) _ (.inl rfl) (fun ρ w hC hc hfn hf => by have e163 : ρ (.tmp 163) = _ := hf 163 (by decide); (conv => lhs; simp [execOp, go_sem, hc, e163])) ?_
                    refine w_is (fun w => Below.refl _ w) _ (.inr ⟨10, 164, true, rfl, rfl, known_is rfl⟩) (fun ρ w hC hc hfn hf => by have e12 : ρ (.tmp 12) = _ := hf 12 (by decide); (conv => lhs; simp [execOp, go_sem, hc, e12])) ?_
                    refine w_is (fun w => Below.refl _ w) _ (.inr ⟨10, 164, true, rfl, rfl, known_is rfl⟩) (fun ρ w hC hc hfn hf => by have e9 : ρ (.tmp 9) = _ := hf 9 (by decide); (conv => lhs; simp [execOp, go_sem, hc, e9])) ?_
                    refine w_is (fun w => Below.refl _ w) _ (.inr ⟨10, 164, true, rfl, rfl, known_is rfl⟩) (fun ρ w hC hc hfn hf => by have e166 : ρ (.tmp 166) = _ := hf 166 (by decide); (conv => lhs; simp [execOp, go_sem, hc, e166, s4_])) ?_
                    refine w_is (fun w => Below.refl _ w) _ (.inr ⟨10, 164, true, rfl, rfl, known_is rfl⟩) (fun ρ w hC hc hfn hf => by have e165 : ρ (.tmp 165) = _ := hf 165 (by decide); have e167 : ρ (.tmp 167) = _ := hf 167 (by decide); (conv => lhs; simp [execOp, go_sem, hc, e165, e167, s4_])) ?_
                    refine w_is (fun w => Below.refl _ w) _ (.inl rfl) (fun ρ w hC hc hfn hf => by have e164 : ρ (.tmp 164) = _ := hf 164 (by decide); have e168 : ρ (.tmp 168) = _ := hf 168 (by decide); (conv => lhs; simp [execOp, go_sem, hc, e164, e168])) ?_
                    refine w_is (fun w => Below.refl _ w) _ (.inl rfl) (fun ρ w hC hc hfn hf => by have e169 : ρ (.tmp 169) = _ := hf 169 (by decide); (conv => lhs; simp [execOp, go_sem, hc, e169])) ?_
                    refine w_is (fun w => Below.refl _ w) _ (.inr ⟨16, 170, true, rfl, rfl, known_is rfl⟩) (fun ρ w hC hc hfn hf => by have e7 : ρ (.tmp 7) = _ := hf 7 (by decide); (conv => lhs; simp [execOp, go_sem, hc, e7])) ?_
                    refine w_is (fun w => Below.refl _ w) _ (.inr ⟨16, 170, true, rfl, rfl, known_is rfl⟩) (fun ρ w hC hc hfn hf => by have e171 : ρ (.tmp 171) = _ := hf 171 (by decide); (conv => lhs; simp [execOp, go_sem, hc, e171])) ?_
                    refine w_is (fun w => Below.refl _ w) _ (.inr ⟨16, 170, true, rfl, rfl, known_is rfl⟩) (fun ρ w hC hc hfn hf => by have e172 : ρ (.tmp 172) = _ := hf 172 (by decide); (conv => lhs; simp [execOp, go_sem, hc, e172, t0_])) ?_
                    refine w_is (fun w => Below.refl _ w) _ (.inr ⟨16, 170, true, rfl, rfl, known_is rfl⟩) (fun ρ w hC hc hfn hf => by have e173 : ρ (.tmp 173) = _ := hf 173 (by decide); (conv => lhs; simp [execOp, go_sem, hc, e173])) ?_
                    refine w_is (fun w => Below.refl _ w) _ (.inr ⟨20, 174, false, rfl, rfl, known_is rfl⟩) (fun ρ w hC hc hfn hf => by have e7 : ρ (.tmp 7) = _ := hf 7 (by decide); (conv => lhs; simp [execOp, go_sem, hc, e7])) ?_
                    refine w_is (fun w => Below.refl _ w) _ (.inr ⟨20, 174, false, rfl, rfl, known_is rfl⟩) (fun ρ w hC hc hfn hf => by have e175 : ρ (.tmp 175) = _ := hf 175 (by decide); (conv => lhs; simp [execOp, go_sem, hc, e175, h0, t1_])) ?_
                    refine w_is (fun w => Below.refl _ w) _ (.inr ⟨20, 174, false, rfl, rfl, known_is rfl⟩) (fun ρ w hC hc hfn hf => by have e176 : ρ (.tmp 176) = _ := hf 176 (by decide); (conv => lhs; simp [execOp, go_sem, hc, e176, kc w hC])) ?_
                    refine w_is (fun w => Below.refl _ w) _ (.inr ⟨20, 174, false, rfl, rfl, known_is rfl⟩) (fun ρ w hC hc hfn hf => by have e11 : ρ (.tmp 11) = _ := hf 11 (by decide); (conv => lhs; simp [execOp, go_sem, hc, e11])) ?_
                    refine w_is (fun w => Below.refl _ w) _ (.inr ⟨20, 174, false, rfl, rfl, known_is rfl⟩) (fun ρ w hC hc hfn hf => by have e178 : ρ (.tmp 178) = _ := hf 178 (by decide); (conv => lhs; simp [execOp, go_sem, hc, e178, kc w hC])) ?_
                    refine w_is (fun w => Below.refl _ w) _ (.inr ⟨20, 174, false, rfl, rfl, known_is rfl⟩) (fun ρ w hC hc hfn hf => by have e177 : ρ (.tmp 177) = _ := hf 177 (by decide); have e179 : ρ (.tmp 179) = _ := hf 179 (by decide); (conv => lhs; simp [execOp, go_sem, hc, e177, e179])) ?_
                    refine w_is (fun w => Below.refl _ w) _ (.inr ⟨16, 170, true, rfl, rfl, known_is rfl⟩) (fun ρ w hC hc hfn hf => by have e174 : ρ (.tmp 174) = _ := hf 174 (by decide); have e180 : ρ (.tmp 180) = _ := hf 180 (by decide); (conv => lhs; simp [execOp, go_sem, hc, e174, e180])) ?_
                    refine w_is (fun w => Below.refl _ w) _ (.inl rfl) (fun ρ w hC hc hfn hf => by have e170 : ρ (.tmp 170) = _ := hf 170 (by decide); have e181 : ρ (.tmp 181) = _ := hf 181 (by decide); (conv => lhs; simp [execOp, go_sem, hc, e170, e181])) ?_
                    refine w_is (fun w => Below.refl _ w) _ (.inl rfl) (fun ρ w hC hc hfn hf => by have e182 : ρ (.tmp 182) = _ := hf 182 (by decide); (conv => lhs; simp [execOp, go_sem, hc, e182])) ?_
                    intro A U6 hC hn hd hf
                    have y4 : A.eval (.tmp 4) = .bool true := hf 4
                    go_wp2_with fail
                    exact bodyPost_ret (results_tmp rfl A.tmps _ U6) (hd.trans rfl) ⟨congrArg Ending.returned y4, HB.out.trans (hC.mono HB.out.size)⟩
                  · have t0_ : ((PA.length : Int) == 0) = true := by rw [beq_iff_eq]; omega
                    have kc : ∀ w', Below WZ.heap.size WZ w' → w'.cell? ⟨g11, 0, none⟩ = some (.int .i64 (lowF z0).1.1) := fun w' hb => (X9.out.below hb).1.1
                    go_upto_region 32 with (fail)
                    refine wp_region_typed (C := fun w' => Below WZ.heap.size WZ w') (X := fun w w' => Below w.heap.size w w') (n := 183) (by kernel_rfl) (by kernel_rfl) rfl (fun w => Below.refl _ w) (Below.refl _ _).drew ?_
                    refine w_call (Is _) (fun _ _ _ h _ => h) 18 (.inl rfl) (fun ρ w hC hc hfn hf => by exact ⟨_, by (conv => lhs; simp [execOp, resolve, invoke, go_sem, hc, hfn]), tc_below hC (awake12 hvc w)⟩) ?_
                    refine w_is (fun w => Below.refl _ w) _ (.inl rfl) (fun ρ w hC hc hfn hf => by have e154 : ρ (.tmp 154) = _ := hf 154 (by decide); (conv => lhs; simp [execOp, go_sem, hc, e154])) ?_
                    refine w_is (fun w => Below.refl _ w) _ (.inr ⟨1, 155, true, rfl, rfl, known_is rfl⟩) (fun ρ w hC hc hfn hf => by have e7 : ρ (.tmp 7) = _ := hf 7 (by decide); (conv => lhs; simp [execOp, go_sem, hc, e7])) ?_
                    refine w_is (fun w => Below.refl _ w) _ (.inr ⟨1, 155, true, rfl, rfl, known_is rfl⟩) (fun ρ w hC hc hfn hf => by have e156 : ρ (.tmp 156) = _ := hf 156 (by decide); (conv => lhs; simp [execOp, go_sem, hc, e156])) ?_
                    refine w_is (fun w => Below.refl _ w) _ (.inr ⟨1, 155, true, rfl, rfl, known_is rfl⟩) (fun ρ w hC hc hfn hf => by have e8 : ρ (.tmp 8) = _ := hf 8 (by decide); (conv => lhs; simp [execOp, go_sem, hc, e8])) ?_
                    refine w_is (fun w => Below.refl _ w) _ (.inr ⟨1, 155, true, rfl, rfl, known_is rfl⟩) (fun ρ w hC hc hfn hf => by have e158 : ρ (.tmp 158) = _ := hf 158 (by decide); (conv => lhs; simp [execOp, go_sem, hc, e158])) ?_
                    refine w_is (fun w => Below.refl _ w) _ (.inr ⟨1, 155, true, rfl, rfl, known_is rfl⟩) (fun ρ w hC hc hfn hf => by have e157 : ρ (.tmp 157) = _ := hf 157 (by decide); have e159 : ρ (.tmp 159) = _ := hf 159 (by decide); (conv => lhs; simp [execOp, go_sem, hc, e157, e159, s1_])) ?_
                    refine w_is (fun w => Below.refl _ w) _ (.inr ⟨1, 155, true, rfl, rfl, known_is rfl⟩) (fun ρ w hC hc hfn hf => by have e9 : ρ (.tmp 9) = _ := hf 9 (by decide); (conv => lhs; simp [execOp, go_sem, hc, e9])) ?_
                    refine w_is (fun w => Below.refl _ w) _ (.inr ⟨1, 155, true, rfl, rfl, known_is rfl⟩) (fun ρ w hC hc hfn hf => by have e160 : ρ (.tmp 160) = _ := hf 160 (by decide); have e161 : ρ (.tmp 161) = _ := hf 161 (by decide); (conv => lhs; simp [execOp, go_sem, hc, e160, e161, s2_, s3_])) ?_
                    refine w_is (fun w => Below.refl _ w) _ (.inl rfl) (fun ρ w hC hc hfn hf => by have e155 : ρ (.tmp 155) = _ := hf 155 (by decide); have e162 : ρ (.tmp 162) = _ := hf 162 (by decide); (conv => lhs; simp [execOp, go_sem, hc, e155, e162])) ?_
                    refine w_is (fun w => Below.refl _ w) _ (.inl rfl) (fun ρ w hC hc hfn hf => by have e163 : ρ (.tmp 163) = _ := hf 163 (by decide); (conv => lhs; simp [execOp, go_sem, hc, e163])) ?_
                    refine w_is (fun w => Below.refl _ w) _ (.inr ⟨10, 164, true, rfl, rfl, known_is rfl⟩) (fun ρ w hC hc hfn hf => by have e12 : ρ (.tmp 12) = _ := hf 12 (by decide); (conv => lhs; simp [execOp, go_sem, hc, e12])) ?_
                    refine w_is (fun w => Below.refl _ w) _ (.inr ⟨10, 164, true, rfl, rfl, known_is rfl⟩) (fun ρ w hC hc hfn hf => by have e9 : ρ (.tmp 9) = _ := hf 9 (by decide); (conv => lhs; simp [execOp, go_sem, hc, e9])) ?_
                    refine w_is (fun w => Below.refl _ w) _ (.inr ⟨10, 164, true, rfl, rfl, known_is rfl⟩) (fun ρ w hC hc hfn hf => by have e166 : ρ (.tmp 166) = _ := hf 166 (by decide); (conv => lhs; simp [execOp, go_sem, hc, e166, s4_])) ?_
                    refine w_is (fun w => Below.refl _ w) _ (.inr ⟨10, 164, true, rfl, rfl, known_is rfl⟩) (fun ρ w hC hc hfn hf => by have e165 : ρ (.tmp 165) = _ := hf 165 (by decide); have e167 : ρ (.tmp 167) = _ := hf 167 (by decide); (conv => lhs; simp [execOp, go_sem, hc, e165, e167, s4_])) ?_
                    refine w_is (fun w => Below.refl _ w) _ (.inl rfl) (fun ρ w hC hc hfn hf => by have e164 : ρ (.tmp 164) = _ := hf 164 (by decide); have e168 : ρ (.tmp 168) = _ := hf 168 (by decide); (conv => lhs; simp [execOp, go_sem, hc, e164, e168])) ?_
                    refine w_is (fun w => Below.refl _ w) _ (.inl rfl) (fun ρ w hC hc hfn hf => by have e169 : ρ (.tmp 169) = _ := hf 169 (by decide); (conv => lhs; simp [execOp, go_sem, hc, e169])) ?_
                    refine w_is (fun w => Below.refl _ w) _ (.inr ⟨16, 170, true, rfl, rfl, known_is rfl⟩) (fun ρ w hC hc hfn hf => by have e7 : ρ (.tmp 7) = _ := hf 7 (by decide); (conv => lhs; simp [execOp, go_sem, hc, e7])) ?_
                    refine w_is (fun w => Below.refl _ w) _ (.inr ⟨16, 170, true, rfl, rfl, known_is rfl⟩) (fun ρ w hC hc hfn hf => by have e171 : ρ (.tmp 171) = _ := hf 171 (by decide); (conv => lhs; simp [execOp, go_sem, hc, e171])) ?_
                    refine w_is (fun w => Below.refl _ w) _ (.inr ⟨16, 170, true, rfl, rfl, known_is rfl⟩) (fun ρ w hC hc hfn hf => by have e172 : ρ (.tmp 172) = _ := hf 172 (by decide); (conv => lhs; simp [execOp, go_sem, hc, e172, t0_])) ?_
                    refine w_is (fun w => Below.refl _ w) _ (.inr ⟨16, 170, true, rfl, rfl, known_is rfl⟩) (fun ρ w hC hc hfn hf => by have e173 : ρ (.tmp 173) = _ := hf 173 (by decide); (conv => lhs; simp [execOp, go_sem, hc, e173])) ?_
                    refine w_skip rfl rfl (known_is rfl) ?_
                    refine w_skip rfl rfl (known_is rfl) ?_
                    refine w_skip rfl rfl (known_is rfl) ?_
                    refine w_skip rfl rfl (known_is rfl) ?_
                    refine w_skip rfl rfl (known_is rfl) ?_
                    refine w_skip rfl rfl (known_is rfl) ?_
                    refine w_is (fun w => Below.refl _ w) _ (.inr ⟨16, 170, true, rfl, rfl, known_is rfl⟩) (fun ρ w hC hc hfn hf => by have e174 : ρ (.tmp 174) = _ := hf 174 (by decide); have e180 : ρ (.tmp 180) = _ := hf 180 (by decide); (conv => lhs; simp [execOp, go_sem, hc, e174, e180])) ?_
                    refine w_is (fun w => Below.refl _ w) _ (.inl rfl) (fun ρ w hC hc hfn hf => by have e170 : ρ (.tmp 170) = _ := hf 170 (by decide); have e181 : ρ (.tmp 181) = _ := hf 181 (by decide); (conv => lhs; simp [execOp, go_sem, hc, e170, e181])) ?_
                    refine w_is (fun w => Below.refl _ w) _ (.inl rfl) (fun ρ w hC hc hfn hf => by have e182 : ρ (.tmp 182) = _ := hf 182 (by decide); (conv => lhs; simp [execOp, go_sem, hc, e182])) ?_
                    intro A U6 hC hn hd hf
                    have y4 : A.eval (.tmp 4) = .bool true := hf 4
                    go_wp2_with fail
                    exact bodyPost_ret (results_tmp rfl A.tmps _ U6) (hd.trans rfl) ⟨congrArg Ending.returned y4, HB.out.trans (hC.mono HB.out.size)⟩
theorem walk (hvc : Vc) (a0 : Option Addr) (cap0 : Nat) (z0 : List Vw) (n1 : Bool) (t1 o1 r1 d1 i1 : Int) (w1 : I64 t1 ∧ I64 o1 ∧ I64 r1 ∧ I64 d1 ∧ I64 i1) (w : World) (r0 : Vs w (.slice a0 z0.length cap0) z0) (hm : z0.length ≤ maxLen) :
    Calls Try.prog 6 #[.slice a0 z0.length cap0, .agg #[.bool n1, .int .i64 t1, .int .i64 o1, .int .i64 r1, .int .i64 d1, .int .i64 i1]] w fun e w' => e = .returned (.bool true) ∧ Below w.heap.size w w' := walk0 hvc a0 cap0 z0 (n1, t1, o1, r1, d1, i1) w r0 hm

set_option maxRecDepth 100000 in
theorem lifted (os : _root_.Go.Os) (started : os.Started) (H : Type) (enc : TypeId × Value → H) :
    ReturnsInHanded {} Try.checked os 6 .any (Rows.viewsSplitSpec.pre6 enc Try.prog Try.f6 Rows.viewsSplitRow.domain false) (Rows.viewsSplitSpec.post enc Try.prog Try.f6 false true false false) := by
  refine returnsInHanded_of_change (C := Try.checked) own started (by kernel_rfl) Try.func6
    (ChangeSpec.witness6 (enc := enc) (C := Try.checked) false ⟨#[], #[.slice none 0 0, .agg #[.bool false, .int .i64 0, .int .i64 0, .int .i64 0, .int .i64 0, .int .i64 0]], []⟩ 16 (by kernel_rfl) (by kernel_rfl) (by kernel_rfl) (by kernel_rfl)) ?_
  intro W base args ds gs before hval0 hW hcnd _
  have hval : ∀ (j : Nat) t v, Try.f6.params[j]? = some t → args[j]? = some v → Value.okWide Try.prog W .any base t v := hval0
  have hW' := hW
  obtain ⟨p, q, hA0, hV, rfl, hfz, hnd⟩ := hW
  have hA : DataW.TrodAll enc Try.prog W 0 (fun _ => true) true Try.f6.params.toList args.toList ds p := hA0
  rw [Try.params6] at hA hval
  obtain ⟨v0, vs0, e0, ds0, p0, q0, hargs, rfl, rfl, h0, x0⟩ := trodAll_cons hA
  obtain ⟨v1, vs1, e1, ds1, p1, q1, rfl, rfl, rfl, h1, x1⟩ := trodAll_cons x0
  obtain ⟨rfl, rfl, rfl⟩ := trodAll_nil x1
  obtain rfl : args = #[v0, v1] := by cases args; simp_all
  obtain ⟨rfl, rfl⟩ := trodVars_none hV
  have k0 := h0
  have lt0 : ∀ x ∈ p0, x.block < W.heap.size := by obtain ⟨m, hm⟩ := k0; exact DataW.trod_lt m _ _ _ hm
  have k1 := h1
  have lt1 : ∀ x ∈ p1, x.block < W.heap.size := by obtain ⟨m, hm⟩ := k1; exact DataW.trod_lt m _ _ _ hm
  obtain ⟨n1, t1, o1, r1, d1, i1, rfl, w1⟩ := ht_form (hval 1 24 v1 rfl rfl) h1
  obtain ⟨a0, len0, cap0, rfl⟩ := okWide_slice underVS (hval 0 22 v0 rfl rfl)
  obtain ⟨z0, hz0, w0, hm0⟩ := vs_form h0
  subst hz0
  clear hA0 hval0
  refine (walk vc a0 cap0 z0 n1 t1 o1 r1 d1 i1 w1 W w0 hm0).mono fun e W' ⟨he, bel⟩ => ?_
  subst he
  exact ⟨_, rfl, _, _, _, [], _, [], hW', trodAll_mk1 (shut_bool Try.underlying4 _), (trodAll_cons_mk (Below.trod laidOut (by kernel_rfl) (of_decide_eq_true (by kernel_rfl)) k0 bel lt0) (trodAll_cons_mk (Below.trod laidOut (by kernel_rfl) (of_decide_eq_true (by kernel_rfl)) k1 bel lt1) trodAll_mk0)), rfl, bel.frame _, fun h => by cases h⟩

theorem over : Rows.viewsSplitRow.holds Try.pinned (OpenSpec.ofChange Rows.viewsSplitSpec) :=
  OpenClaim.holds_of_wide 6 Try.f6 rfl rfl rfl rfl rfl rfl rfl ⟨rfl, rfl, rfl, rfl, rfl⟩ rfl rfl rfl rfl rfl (by kernel_rfl) Try.func6 (by kernel_rfl)
    (of_decide_eq_true (by kernel_rfl)) (by unfold Func.isWrapper; first | (rw [if_pos (by decide +kernel)]; kernel_rfl) | (rw [if_neg (by decide +kernel)]; exact ⟨rfl, rfl⟩))
    (fun os started H enc _ => lifted os started H enc)

theorem proved : Rows.ViewsSplitSaid := over
#print axioms proved
end Go.Proofs.Ytahhhegknmiinaa.viewsSplit
