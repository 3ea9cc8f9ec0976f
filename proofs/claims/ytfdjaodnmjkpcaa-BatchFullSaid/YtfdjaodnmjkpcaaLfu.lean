/- thalweglaw05.BatchFull: for any objects and numbers the law answers true; no condition. -/
import Derived.Test.YtfdjaodnmjkpcaaBaw
import Derived.WalkLawsBesides
import Derived.WalkKit
import Derived.ProofKit
import Derived.OpenShut
import Derived.ShutString
import Derived.ChangeOld
import Derived.Below
namespace Go.Proofs.Ytfdjaodnmjkpcaa.batchFull
open Go.ChangeShapes Go.WideShapes Go.ChangeAt Go.RowKit
open Go.ChangeMaps (open_string shut_string)
set_option linter.unusedVariables false
set_option maxRecDepth 100000
open Go.Sort

theorem own : ownKnob Try.prog.godebug = none := by kernel_rfl
theorem laidOut : laidOutB Try.prog = true := by kernel_rfl

theorem early (a0 : Option Addr) (cap0 : Nat) (z0 : List Ob) (a1 a2 : Int) (w : World) (h1 : (200 : Int) < (z0.length : Int)) :
    Calls Try.prog 7 #[.slice a0 z0.length cap0, .int .i64 a1, .int .i64 a2] w fun e w' => e = .returned (.bool true) ∧ Below w.heap.size w w' := by
  go_enter Try.func7, Try.ntmps7
  go_wp2_with fail
  go_ret
  exact ⟨rfl, Below.refl _ _⟩
theorem bts_some {w : World} {a : Option Addr} {c : Nat} {bs : List (Int × List Ob)} (h : Bts w (.slice a bs.length c) bs) (hp : 0 < bs.length) : ∃ b off, a = some ⟨b, off, none⟩ := by
  obtain ⟨b, off, h1, _⟩ := h.at hp
  exact ⟨b, off, h1⟩
theorem bts_at {w : World} {b off c : Nat} {bs : List (Int × List Ob)} (h : Bts w (.slice (some ⟨b, off, none⟩) bs.length c) bs) {i : Nat} (hi : i < bs.length) : w.cell? ⟨b, off + i * 2, none⟩ = some (.int .i64 (bs.getD i zb).1) ∧ ∃ s, w.cell? ⟨b, off + i * 2 + 1, none⟩ = some s ∧ Os w s (bs.getD i zb).2 := by
  obtain ⟨b', off', h1, h2⟩ := h.at hi
  simp only [Option.some.injEq, Addr.mk.injEq, and_true] at h1
  obtain ⟨rfl, rfl⟩ := h1
  exact h2
theorem bts_slice {w : World} {b off c : Nat} {bs : List (Int × List Ob)} (h : Bts w (.slice (some ⟨b, off, none⟩) bs.length c) bs) {i : Nat} (hi : i < bs.length) : w.cell? ⟨b, off + i * 2, none⟩ = some (.int .i64 (bs.getD i zb).1) ∧ ∃ a' c', w.cell? ⟨b, off + i * 2 + 1, none⟩ = some (.slice a' (bs.getD i zb).2.length c') ∧ Os w (.slice a' (bs.getD i zb).2.length c') (bs.getD i zb).2 := by
  obtain ⟨h1, s, h2, h3⟩ := bts_at h hi
  obtain ⟨a', c', rfl⟩ := h3.form
  exact ⟨h1, a', c', h2, h3⟩

set_option maxHeartbeats 8000000 in
theorem none_ (a0 : Option Addr) (cap0 : Nat) (z0 : List Ob) (a1 a2 : Int) (w : World) (w0 : Os w (.slice a0 z0.length cap0) z0) (h1 : ¬ (200 : Int) < (z0.length : Int)) (hE : packE z0 a2 ≠ 0) :
    Calls Try.prog 7 #[.slice a0 z0.length cap0, .int .i64 a1, .int .i64 a2] w fun e w' => e = .returned (.bool true) ∧ Below w.heap.size w w' := by
  have cP := ppack_any _ z0 a1 a2 w w0 (by omega)
  rw [show packB z0 a1 a2 = [] from if_neg hE] at cP
  generalize packE z0 a2 = E at *
  have hE' : (E != 0) = true := by simpa using hE
  clear w0 hE
  go_enter Try.func7, Try.ntmps7
  go_wp2_with fail
  refine cP.mono ?_
  rintro e w1 ⟨r1, rfl, hr1, hb⟩
  obtain ⟨x2, y2, rfl⟩ := hr1.form
  have HB := Lib.hid hb
  clear hb hr1 cP
  go_wp2_with fail
  refine (bawake_any _).mono ?_
  rintro e w4 ⟨rfl, hb⟩
  replace HB := Lib.hid (HB.out.trans (hb.mono HB.out.size))
  clear hb
  go_wp2_with fail
  go_ret
  exact ⟨rfl, HB.out⟩

set_option maxHeartbeats 16000000 in
theorem main (a0 : Option Addr) (cap0 : Nat) (z0 : List Ob) (a1 a2 : Int) (w : World) (w0 : Os w (.slice a0 z0.length cap0) z0) (h1 : ¬ (200 : Int) < (z0.length : Int)) (hE : packE z0 a2 = 0) :
    Calls Try.prog 7 #[.slice a0 z0.length cap0, .int .i64 a1, .int .i64 a2] w fun e w' => e = .returned (.bool true) ∧ Below w.heap.size w w' := by
  have cP := ppack_any _ z0 a1 a2 w w0 (by omega)
  rw [show packB z0 a1 a2 = packL a2 z0 a1 from if_pos hE, hE] at cP
  obtain ⟨e1, e2, e3, e4⟩ := packE_ok hE
  have HOK := Lib.hid (packL_ok e3 ⟨e1, e2⟩ a1)
  have HFU := Lib.hid (packL_full a2 z0 a1)
  have HPO := Lib.hid (packL_pos a2 z0 a1)
  have HLE : Hid ((packL a2 z0 a1).length ≤ z0.length) := packL_le a2 z0 a1
  generalize packL a2 z0 a1 = bs at *
  have hle : bs.length ≤ 200 := by have := HLE.out; omega
  clear w0 hE e3
  go_enter Try.func7, Try.ntmps7
  go_wp2_with fail
  refine cP.mono ?_
  rintro e w1 ⟨r1, rfl, hr1, hb⟩
  obtain ⟨x2, y2, rfl⟩ := hr1.form
  have R := Lib.hid (Bts_of_row hr1)
  have HB := Lib.hid hb
  clear hb hr1 cP
  go_wp2_with fail
  go_loopw [9, 10, 11] (fun i _ _ wr => ∃ k : Nat, k ≤ bs.length ∧ i = .int .i64 k ∧ Below w1.heap.size w1 wr) (fun i _ _ _ => bs.length - (intOf i).toNat)
  case atStart => exact ⟨0, Nat.zero_le _, rfl, Below.refl _ _⟩
  case round =>
    obtain ⟨k, hk, rfl, hbel⟩ := hrel
    have HB2 := Lib.hid hbel
    clear hbel
    by_cases hlt : k + 1 < bs.length
    · obtain ⟨b, off, rfl⟩ := bts_some R.out (by omega)
      have RW := Lib.hid (R.out.below HB2.out)
      obtain ⟨n1, p1, q1, t1, o1⟩ := bts_slice RW.out (show k < bs.length by omega)
      obtain ⟨hok, hmo⟩ := HOK.out k (by omega)
      obtain ⟨hf1, hf2⟩ := HFU.out k hlt
      obtain ⟨⟨M1, ys⟩, hyk⟩ : ∃ y, bs.getD k zb = y := ⟨_, rfl⟩
      obtain ⟨⟨M2, zs⟩, hzk⟩ : ∃ y, bs.getD (k + 1) zb = y := ⟨_, rfl⟩
      rw [hyk] at n1 t1 o1 hok hmo hf2
      rw [hzk] at hf1 hf2
      simp only at n1 t1 o1 hok hmo hf1 hf2
      have cB := pbytes_ok M1 _ ys wr o1 hok
      have hll : (btB M1 ys).length = 3 + osz ys := by unfold btB; rw [List.length_append, bs_flat_len]; rfl
      have hos : 3 + (osz ys : Int) ≤ 512 := by omega
      have HK := Lib.hid hyk
      have HZ := Lib.hid hzk
      clear o1 hok hyk hzk
      go_wp2_with fail
      refine cB.mono ?_
      rintro e w3 ⟨r3, rfl, hr3, hb⟩
      obtain ⟨x3, y3, h3⟩ := Bs_len hr3
      rw [hll] at h3
      subst h3
      replace HB2 := Lib.hid (HB2.out.trans (hb.mono HB2.out.size))
      clear hr3 hb cB n1 t1
      have RW2 := Lib.hid (R.out.below HB2.out)
      obtain ⟨n1, p1, q1, t1, o1⟩ := bts_slice RW2.out (show k < bs.length by omega)
      obtain ⟨n2, p2, q2, t2, o2⟩ := bts_slice RW2.out hlt
      rw [HK.out] at n1 t1 o1
      rw [HZ.out] at n2 t2 o2
      simp only at n1 t1 o1 n2 t2 o2
      obtain ⟨b3, off3, rfl, hB3, hc3⟩ := o2.at (show 0 < zs.length by omega)
      obtain ⟨y, hyy⟩ : ∃ y, zs.getD 0 z12 = y := ⟨_, rfl⟩
      rw [hyy] at hc3 hf2
      rw [Nat.zero_mul, Nat.add_zero] at hc3
      obtain ⟨c0, c1, c2, c3, c4, c5, c6, c7, c8, c9, c10, c11⟩ := hc3.all
      have cS : ∀ w, Calls Try.prog 22 #[.agg #[.int .i64 y.k, .int .i64 y.x, .bool y.n, .int .i64 y.t, .int .i64 y.o, .int .i64 y.r, .int .i64 y.d, .int .i64 y.i, .int .i64 y.p, .int .i64 y.q, .int .i64 y.s, .int .i64 y.m]] w fun e w' => e = .returned (.int .i64 y.bs.length) ∧ Below w.heap.size w w' := fun w => osize_any y.k y.x y.n y.t y.o y.r y.d y.i y.p y.q y.s y.m w
      have hyl := bs_le37 y
      have hz1 : ¬ ((zs.length : Int) < 1) := by omega
      have hz0 : (0 : Int) < (zs.length : Int) := by omega
      clear o1 o2 hc3 hyy
      by_cases hs : ys.length < 32
      · have hs' : (ys.length : Int) < 32 := by omega
        have hf3 : ¬ (3 + (osz ys : Int) + (y.bs.length : Int) ≤ a2) := fun h => hf2 ⟨hs, h⟩
        clear hf2
        go_wp2_with fail
        refine (cS _).mono ?_
        rintro e w4 ⟨rfl, hb⟩
        replace HB2 := Lib.hid (HB2.out.trans (hb.mono HB2.out.size))
        clear hb
        go_wp2_with fail
        go_roundw
        case rel => exact ⟨k + 1, by omega, by go_num, HB2.out⟩
        case measure => simp [intOf]; omega
      · have hs' : ¬ ((ys.length : Int) < 32) := by omega
        clear hf2
        go_wp2_with fail
        go_roundw
        case rel => exact ⟨k + 1, by omega, by go_num, HB2.out⟩
        case measure => simp [intOf]; omega
    · go_wp2_with fail
      refine (bawake_any _).mono ?_
      rintro e w4 ⟨rfl, hb⟩
      replace HB := Lib.hid (HB.out.trans ((HB2.out.trans (hb.mono HB2.out.size)).mono HB.out.size))
      clear hb
      by_cases hz : 0 < z0.length
      · have hz1 : (0 : Int) < (z0.length : Int) := by omega
        have hz2 : (0 : Int) < (bs.length : Int) := by have := HPO.out.1 hz; omega
        go_wp2_with fail
        go_ret
        refine ⟨?_, HB.out⟩
        show Ending.returned (.bool (decide (0 < bs.length))) = _
        rw [decide_eq_true (show 0 < bs.length by omega)]
      · have hz1 : ¬ (0 : Int) < (z0.length : Int) := by omega
        have hz2 : ¬ (0 : Int) < (bs.length : Int) := fun h => hz (HPO.out.2 (by omega))
        go_wp2_with fail
        go_ret
        refine ⟨?_, HB.out⟩
        show Ending.returned (.bool (!decide (0 < bs.length))) = _
        rw [decide_eq_false (show ¬ 0 < bs.length by omega)]
        rfl
theorem walk (a0 : Option Addr) (cap0 : Nat) (z0 : List Ob) (a1 : Int) (w1 : I64 a1) (a2 : Int) (w2 : I64 a2) (w : World) (w0 : Os w (.slice a0 z0.length cap0) z0) :
    Calls Try.prog 7 #[.slice a0 z0.length cap0, .int .i64 a1, .int .i64 a2] w fun e w' => e = .returned (.bool true) ∧ Below w.heap.size w w' := by
  by_cases h1 : (200 : Int) < (z0.length : Int)
  · exact early a0 cap0 z0 a1 a2 w h1
  · by_cases hE : packE z0 a2 = 0
    · exact main a0 cap0 z0 a1 a2 w w0 h1 hE
    · exact none_ a0 cap0 z0 a1 a2 w w0 h1 hE

set_option maxRecDepth 100000 in
theorem lifted (os : _root_.Go.Os) (started : os.Started) (H : Type) (enc : TypeId × Value → H) :
    ReturnsInHanded {} Try.checked os 7 .any (Rows.batchFullSpec.pre6 enc Try.prog Try.f7 Rows.batchFullRow.domain false) (Rows.batchFullSpec.post enc Try.prog Try.f7 false true false false) := by
  refine returnsInHanded_of_change (C := Try.checked) own started (by kernel_rfl) Try.func7
    (ChangeSpec.witness6 (enc := enc) (C := Try.checked) false ⟨#[], #[.slice none 0 0, .int .i64 0, .int .i64 0], []⟩ 16 (by kernel_rfl) (by kernel_rfl) (by kernel_rfl) (by kernel_rfl)) ?_
  intro W base args ds gs before hval0 hW hcnd _
  have hval : ∀ (j : Nat) t v, Try.f7.params[j]? = some t → args[j]? = some v → Value.okWide Try.prog W .any base t v := hval0
  have hW' := hW
  obtain ⟨p, q, hA0, hV, rfl, hfz, hnd⟩ := hW
  have hA : DataW.TrodAll enc Try.prog W 0 (fun _ => true) true Try.f7.params.toList args.toList ds p := hA0
  rw [Try.params7] at hA hval
  obtain ⟨v0, vs0, e0, ds0, p0, q0, hargs, rfl, rfl, h0, x0⟩ := trodAll_cons hA
  obtain ⟨v1, vs1, e1, ds1, p1, q1, rfl, rfl, rfl, h1, x1⟩ := trodAll_cons x0
  obtain ⟨v2, vs2, e2, ds2, p2, q2, rfl, rfl, rfl, h2, x2⟩ := trodAll_cons x1
  obtain ⟨rfl, rfl, rfl⟩ := trodAll_nil x2
  obtain rfl : args = #[v0, v1, v2] := by cases args; simp_all
  obtain ⟨rfl, rfl⟩ := trodVars_none hV
  have k0 := h0
  have lt0 : ∀ x ∈ p0, x.block < W.heap.size := by obtain ⟨m, hm⟩ := k0; exact DataW.trod_lt m _ _ _ hm
  obtain ⟨a0, len0, cap0, rfl⟩ := okWide_slice underSL (hval 0 22 v0 rfl rfl)
  obtain ⟨z0, hz0, w0⟩ := obs_form (hval 0 22 _ rfl rfl) h0
  subst hz0
  have k1 := h1
  have lt1 : ∀ x ∈ p1, x.block < W.heap.size := by obtain ⟨m, hm⟩ := k1; exact DataW.trod_lt m _ _ _ hm
  obtain ⟨a1, rfl, _, _, w1⟩ := open_int Try.underlying3 (hval 1 3 v1 rfl rfl) h1
  have k2 := h2
  have lt2 : ∀ x ∈ p2, x.block < W.heap.size := by obtain ⟨m, hm⟩ := k2; exact DataW.trod_lt m _ _ _ hm
  obtain ⟨a2, rfl, _, _, w2⟩ := open_int Try.underlying3 (hval 2 3 v2 rfl rfl) h2
  clear hA0 hval0
  refine (walk a0 cap0 z0 a1 (i64_wf w1) a2 (i64_wf w2) W w0).mono fun e W' ⟨he, bel⟩ => ?_
  subst he
  exact ⟨_, rfl, _, _, _, [], _, [], hW', trodAll_mk1 (shut_bool Try.underlying4 _), (trodAll_cons_mk (Below.trod laidOut (by kernel_rfl) (of_decide_eq_true (by kernel_rfl)) k0 bel lt0) (trodAll_cons_mk (Below.trod laidOut (by kernel_rfl) (of_decide_eq_true (by kernel_rfl)) k1 bel lt1) (trodAll_cons_mk (Below.trod laidOut (by kernel_rfl) (of_decide_eq_true (by kernel_rfl)) k2 bel lt2) trodAll_mk0))), rfl, bel.frame _, fun h => by cases h⟩

theorem over : Rows.batchFullRow.holds Try.pinned (OpenSpec.ofChange Rows.batchFullSpec) :=
  OpenClaim.holds_of_wide 7 Try.f7 rfl rfl rfl rfl rfl rfl rfl ⟨rfl, rfl, rfl, rfl, rfl⟩ rfl rfl rfl rfl rfl (by kernel_rfl) Try.func7 (by kernel_rfl)
    (of_decide_eq_true (by kernel_rfl)) (by unfold Func.isWrapper; first | (rw [if_pos (by decide +kernel)]; kernel_rfl) | (rw [if_neg (by decide +kernel)]; exact ⟨rfl, rfl⟩))
    (fun os started H enc _ => lifted os started H enc)

theorem proved : Rows.BatchFullSaid := over
#print axioms proved
end Go.Proofs.Ytfdjaodnmjkpcaa.batchFull
