/- thalweglaw15.TakerDoes: for any row of batches the law answers true; no condition. -/
import Derived.Test.YtfiaghfaijlfjaaGreatPc
import Derived.Test.YtfiaghfaijlfjaaGreatXa
import Derived.WalkLawsBesides
import Derived.WalkKit
import Derived.ProofKit
import Derived.OpenShut
import Derived.ShutString
import Derived.ChangeOld
import Derived.Below
namespace Go.Proofs.YtfiaghfaijlfjaaGreat.takerDoes
open Go.ChangeShapes Go.WideShapes Go.ChangeAt Go.RowKit
open Go.ChangeMaps (open_string shut_string)
set_option linter.unusedVariables false
set_option maxRecDepth 100000

theorem own : ownKnob Tryz.prog.godebug = none := by kernel_rfl
theorem laidOut : laidOutB Tryz.prog = true := by kernel_rfl
theorem bts_at {w : World} {a : Option Addr} {c : Nat} {l : List Bt} (h : Bts w (.slice a l.length c) l) {k : Nat} (hk : k < l.length) {x : Bt} (hx : l.getD k zb = x) : ∃ b off sa sc, a = some ⟨b, off, none⟩ ∧ w.cell? ⟨b, off + k * 2, none⟩ = some (.int .i64 x.1) ∧ w.cell? ⟨b, off + k * 2 + 1, none⟩ = some (.slice sa x.2.length sc) ∧ Os w (.slice sa x.2.length sc) x.2 ∧ ∀ ad n c', Value.slice sa x.2.length sc = .slice (some ad) n c' → x.2 ≠ [] → ad.block < w.heap.size := by
  subst hx
  rcases h with ⟨a', c', e, e0⟩ | ⟨b, off, c', e, hcells⟩
  · rw [e0] at hk
    exact absurd hk (Nat.not_lt_zero _)
  · simp only [Value.slice.injEq] at e
    obtain ⟨rfl, -, rfl⟩ := e
    obtain ⟨h1, s, hs, ho⟩ := hcells k hk
    obtain ⟨sa, sc, rfl⟩ := ho.form
    refine ⟨b, off, sa, sc, rfl, h1, hs, ho, fun ad n c' e hne => ?_⟩
    rcases ho with ⟨a2, c2, e2, _, h0⟩ | ⟨b2, o2, c2, e2, _, h3, _⟩
    · exact absurd h0 hne
    · rw [e2] at e
      simp only [Value.slice.injEq, Option.some.injEq] at e
      rw [← e.1]
      exact h3
/-- The program's taker and the reference's, apart. -/
structure Two (w0 w : World) (F : Nat → Prop) (b : Nat) (tp : Tk) (K : Nat → Prop) (b2 : Nat) (tr : Tk) (Y : Ys) (vL : Value) : Prop where
  ps : Tn w0 w F b tp
  xz : TZ w K (fun k => k < w0.heap.size) b2 tr Y vL
  yh : Y.map Prod.snd = tr.H
  kn : ∀ k, K k → w0.heap.size ≤ k
  dj : ∀ k, F k → ¬ K k
section
variable {w0 w w' : World} {F F' : Nat → Prop} {b : Nat} {tp tp' : Tk} {K K' : Nat → Prop} {b2 : Nat} {tr tr' : Tk} {Y Y' : Ys} {vL vL' : Value}
theorem Two.prog (h : Two w0 w F b tp K b2 tr Y vL) (hp : PT w' F' b tp') (hc : Chg F w w') (hF : ∀ k, F' k → F k ∨ w.heap.size ≤ k) : Two w0 w' F' b tp' K b2 tr Y vL :=
  ⟨h.ps.next hp hc hF, h.xz.keep hc (fun k hk hf => h.dj k hf hk) (fun k hk hf => by have := h.ps.new k hf; omega), h.yh, h.kn, fun k hf hk => (hF k hf).elim (fun h2 => h.dj k h2 hk) (fun h2 => by have := h.xz.lt k hk; omega)⟩
theorem Two.ref (h : Two w0 w F b tp K b2 tr Y vL) (hx : TZ w' K' (fun k => k < w0.heap.size) b2 tr' Y' vL') (hc : Chg K w w') (hy : Y'.map Prod.snd = tr'.H) (hK : ∀ k, K' k → K k ∨ w.heap.size ≤ k) : Two w0 w' F b tp K' b2 tr' Y' vL' :=
  ⟨⟨h.ps.ps.keep hc (fun k hf hk => h.dj k hf hk), h.ps.new, h.ps.bel.trans (hc.below h.ps.bel.size h.kn)⟩, hx, hy, fun k hk => (hK k hk).elim (h.kn k) (fun h2 => Nat.le_trans h.ps.bel.size h2), fun k hf hk => (hK k hk).elim (h.dj k hf) (fun h2 => by have := h.ps.ps.2.lt k hf; omega)⟩
theorem Two.below (h : Two w0 w F b tp K b2 tr Y vL) (hb : Below w.heap.size w w') : Two w0 w' F b tp K b2 tr Y vL := ⟨h.ps.below hb, h.xz.below hb, h.yh, h.kn, h.dj⟩
end
set_option maxHeartbeats 16000000 in
theorem walk (a0 : Option Addr) (cap0 : Nat) (z0 : List Bt) (w : World) (r0 : Bts w (.slice a0 z0.length cap0) z0) :
    Calls Tryz.prog 3 #[.slice a0 z0.length cap0] w fun e w' => e = .returned (.bool true) ∧ Below w.heap.size w w' := by
  have HR := Lib.hid r0
  have CF := few_any a0 cap0 z0 w r0
  clear r0
  obtain ⟨q, hq⟩ : ∃ q, fewB z0 = q := ⟨_, rfl⟩
  rw [hq] at CF
  have HQ := Lib.hid hq
  have HCF := Lib.hid CF
  clear hq CF
  go_enter Tryz.func3, Tryz.ntmps3
  go_wp2_with fail
  refine HCF.out.mono ?_
  rintro e w0 ⟨rfl, hb0⟩
  have HB0 := Lib.hid hb0
  clear hb0
  cases q with
  | false =>
    go_wp2_with fail
    go_ret
    exact ⟨rfl, HB0.out⟩
  | true =>
    have HFW : Hid (z0.length ≤ 100 ∧ ∀ x ∈ z0, x.2.length ≤ 60) := by
      have h9 := HQ.out
      unfold fewB at h9
      simp only [Bool.and_eq_true, decide_eq_true_eq, List.all_eq_true] at h9
      exact h9
    have C0 := Lib.hid (tnew_any w0)
    go_upto_region 6 with (go_at_call 6; refine C0.out.mono ?_; rintro e w1 ⟨b, F1, rfl, hp, hF, hb⟩; have X1 : Hid (Tn w w1 F1 b tk0) := ⟨hp, fun k hk => Nat.le_trans HB0.out.size (hF k hk), HB0.out.trans (hb.mono HB0.out.size)⟩; clear hp hF hb C0)
    go_upto_region 7 with (fail)
    obtain ⟨v1, hv1⟩ : ∃ v, w1.alloc (.cells #[.int .i64 0, .slice none 0 0] 28) = v := ⟨_, rfl⟩
    obtain ⟨b2, hb2⟩ : ∃ q, w1.heap.size = q := ⟨_, rfl⟩
    have X2 : Hid (Two w v1 F1 b tk0 (fun k => k = b2) b2 tk0 [] (.slice none 0 0)) := by
      have hb : Below w1.heap.size w1 v1 := hv1 ▸ (Below.refl _ _).alloc (Nat.le_refl _) _
      have hs : b2 < v1.heap.size := by rw [← hv1, ← hb2]; simp
      have hw1 := X1.out.bel.size
      refine ⟨X1.out.below hb, ⟨fun k hk => by rw [show k = b2 from hk]; exact hs, fun k hk => by have h9 : k < w.heap.size := hk; have := hb.size; omega, rfl, ?_, gown_nil (R := RBT) _ _, fun g hg => (by cases hg), fun y hy => (by cases hy), fun k hk e => by have h9 : k < w.heap.size := hk; have h8 : k = b2 := e; omega⟩, rfl, fun k hk => by have h8 : k = b2 := hk; omega, fun k hf e => by have h8 : k = b2 := e; have := X1.out.ps.2.lt k hf; omega⟩
      rw [← hv1, ← hb2]
      exact heap_alloc_new w1 _
    rw [hv1]
    try simp only [hb2]
    clear hv1 hb2
    go_wp2_with fail
    go_loopw [5] (fun iv wr => ∃ (k : Nat) (F K : Nat → Prop) (t : Tk) (Y : Ys) (vL : Value), k ≤ z0.length ∧ iv = .int .i64 k ∧ Hid (Two w wr F b t K b2 t Y vL)) (fun i _ => z0.length - (intOf i).toNat)
    case atStart => exact ⟨0, F1, _, tk0, [], _, Nat.zero_le _, rfl, X2.out⟩
    case round =>
      obtain ⟨k, F, K, t, Y, vL, hk, rfl, X⟩ := hrel
      clear X1 X2 HCF
      have hl100 := HFW.out.1
      by_cases hlt : k < z0.length
      · have hltz : decide ((k : Int) < z0.length) = true := decide_eq_true (by omega)
        obtain ⟨x, hx⟩ : ∃ x, z0.getD k zb = x := ⟨_, rfl⟩
        have hxm : x ∈ z0 := by rw [← hx, List.getD_eq_getElem?_getD, List.getElem?_eq_getElem hlt]; exact List.getElem_mem hlt
        have hx60 := HFW.out.2 x hxm
        obtain ⟨bk, off, sa, sc, rfl, k1, k2, hos, hob⟩ := bts_at HR.out hlt hx
        have hkl := World.block_lt_of_cell? w _ k1
        have hcx : ∀ W, Below w.heap.size w W → W.cell? ⟨bk, off + k * 2, none⟩ = some (.int .i64 x.1) ∧ W.cell? ⟨bk, off + k * 2 + 1, none⟩ = some (.slice sa x.2.length sc) := fun W hb => ⟨(hb.cell (p := ⟨bk, off + k * 2, none⟩) hkl).trans k1, (hb.cell (p := ⟨bk, off + k * 2 + 1, none⟩) hkl).trans k2⟩
        have HCX := Lib.hid hcx
        have HOS := Lib.hid hos
        have HOB := Lib.hid hob
        have HTK := Lib.hid X.out.ps.ps.1
        obtain ⟨⟨⟨out, e0⟩, t'⟩, hTR⟩ : ∃ z, takeR t x = z := ⟨_, rfl⟩
        have CT := ttake_any x.1 (.slice sa x.2.length sc) x.2 X.out.ps.ps (hos.below X.out.ps.bel) (fun ad n c' e hne hf => by have h1 := hob ad n c' e hne; have h2 := X.out.ps.new _ hf; omega) (by omega)
        rw [show ((x.1, x.2) : Bt) = x from rfl, hTR] at CT
        simp only at CT
        have HCT := Lib.hid CT
        have HTR := Lib.hid hTR
        have HLN : Hid (out.length ≤ 3000) := by
          by_cases hin : TkIn t x
          · obtain ⟨-, -, B, h1, h2, -, h3, -⟩ := take_ok HTK.out hin
            rw [hTR] at h1 h3
            simp only at h1 h3
            have hb : ∀ y ∈ B, y.2.length ≤ 32 := fun y hy => by
              obtain ⟨i, hi, rfl⟩ := List.mem_iff_getElem.1 hy
              rcases (h2 i hi).1 with h4 | h4
              · exact (HTK.out.ok _ h4).2.1.2
              · rw [h4]; exact hin.1.2.1.2
            have hB : ∀ B : List Bt, (∀ y ∈ B, y.2.length ≤ 32) → ((B.map Prod.snd).flatten).length ≤ 32 * B.length := fun B => by
              induction B with
              | nil => intro _; simp
              | cons y B ih =>
                intro h
                rw [List.map_cons, List.flatten_cons, List.length_append, List.length_cons]
                have h5 := h y (by simp)
                have h6 := ih (fun z hz => h z (by simp [hz]))
                omega
            have h7 := hB B hb
            have h8 := held_le HTK.out
            show _ ≤ _
            rw [h1]
            omega
          · obtain ⟨e, he, -⟩ := take_no hin
            rw [hTR] at he
            cases he
            show _ ≤ _
            simp
        obtain ⟨c1, c2⟩ := hcx wr X.out.ps.bel
        clear hcx hos hob hxm hx k1 k2 hkl CT hTR
        go_upto_region 11 with (go_at_call 7; refine HCT.out.mono ?_; rintro e w3 ⟨r3, F3, rfl, hp, hc, -, hF, ho⟩; obtain ⟨a3, c3, rfl⟩ := own_form ho.1; have X3 := Lib.hid (X.out.prog hp hc hF); have HC3 := Lib.hid hc; have HO3 := Lib.hid ho; clear hp hc hF ho)
        clear c1 c2
        have CX := xtake_any x.1 sa sc x.2 X3.out.xz X3.out.yh HTK.out (HOS.out.below X3.out.ps.bel) (fun ad n c' e hne => HOB.out ad n c' e hne) (by omega)
        rw [show ((x.1, x.2) : Bt) = x from rfl, HTR.out] at CX
        have HCX4 := Lib.hid CX
        obtain ⟨c1, c2⟩ := HCX.out w3 X3.out.ps.bel
        clear CX
        go_upto_region 12 with (go_at_call 8; refine HCX4.out.mono ?_; rintro e w4 ⟨r4, rfl, ho, hc, K4, Y4, vL4, hx, hy, hK, hof⟩; obtain ⟨a4, c4, rfl⟩ := own_form ho; have X4 := Lib.hid (X3.out.ref hx hc hy hK); have HC4 := Lib.hid hc; have HO4 := Lib.hid ho; clear ho hc hx hy hK hof)
        clear c1 c2
        have hs4 : Os w4 (.slice a3 out.length c3) out := HO3.out.1.os.chg HC4.out (fun ad n c' e hne hk => by
          have h1 : (Value.slice a3 out.length c3).ownBlock = some ad.block := by rw [e]; rfl
          have h2 := (World.ownsRow.lt HO3.out.1 ad.block h1).1
          have h3 := X.out.xz.lt ad.block hk
          omega)
        have CS := Lib.hid (same_any (.slice a3 out.length c3) (.slice a4 out.length c4) out out w4 hs4 HO4.out.os HLN.out)
        clear hs4
        have hee : (e0 != e0) = false := by simp
        go_wp2_with fail
        refine CS.out.mono ?_
        rintro e w5 ⟨⟨qs, rfl, hqs⟩, hb⟩
        obtain rfl : qs = true := by simpa using hqs
        have X5 := Lib.hid (X4.out.below hb)
        clear hqs hb
        -- acks
        have HTK5 := Lib.hid X5.out.ps.ps.1
        obtain ⟨S, hS⟩ : ∃ S, srt t'.nx (nums t'.H) = S := ⟨_, rfl⟩
        obtain ⟨M, hM⟩ : ∃ M, mk t'.nx S 16 = M := ⟨_, rfl⟩
        have CA := tack_any X5.out.ps.ps
        rw [hS, hM] at CA
        have HCA := Lib.hid CA
        have HSS := Lib.hid hS
        have HMM := Lib.hid hM
        clear CA hS hM
        have HYN : Hid (Y4.length ≤ 16) := by
          have h9 := congrArg List.length X5.out.yh
          rw [List.length_map] at h9
          show _ ≤ _
          rw [h9]
          exact held_le HTK5.out
        have hk1 := hlt
        go_wp2_with (first
          | (go_at_call 10; refine HCA.out.mono ?_; rintro e w6 ⟨F6, rfl, hp, hc, -, hF⟩; have X6 := Lib.hid (X5.out.prog hp hc hF); clear hp hc hF)
          | (go_at_call 11; have CXA := xack_any X6.out.xz HTK5.out.nx (Nat.le_trans HYN.out (by decide)); rw [X6.out.yh, rsrt_srt, HSS.out, HMM.out] at CXA; refine CXA.mono ?_; rintro e w7 ⟨rfl, hb⟩; have X7 := Lib.hid (X6.out.below hb); clear hb CXA)
          | (go_at_call 13; refine (theld_any X7.out.ps.ps).mono ?_; rintro e w8 ⟨u8, F8, rfl, hz, hp, hc, -, hF⟩; rw [HSS.out] at hz; have X8 := Lib.hid (X7.out.prog hp hc hF); have HZ8 := Lib.hid hz; clear hz hp hc hF)
          | (go_at_call 14; refine (xheld_any X8.out.xz (Nat.le_trans HYN.out (by decide))).mono ?_; rintro e w9 ⟨u9, rfl, hz, hb⟩; rw [X8.out.yh, rsrt_srt, HSS.out] at hz; have X9 := Lib.hid (X8.out.below hb); have HZ9 := Lib.hid hz; have HZ8' := Lib.hid (Zs_below HZ8.out hb); clear hz hb)
          | (go_at_call 12; refine (ints_any u8 u9 S S _ HZ8'.out HZ9.out).mono ?_; rintro e w10 ⟨rfl, hb⟩; have X10 := Lib.hid (X9.out.below hb); clear hb))
        go_roundw
        case rel => exact ⟨k + 1, F8, K4, t', Y4, vL4, by omega, by go_num, X10.out⟩
        case measure => simp [intOf]; omega
      · obtain rfl : k = z0.length := by omega
        have hltz : decide ((z0.length : Int) < z0.length) = false := decide_eq_false (by omega)
        have HBE : Hid (Below w.heap.size w wr) := X.out.ps.bel
        go_wp2_with (go_at_call 15; refine (awake15 _).mono ?_; rintro e W9 ⟨rfl, hb9⟩; have HB9 := Lib.hid (HBE.out.trans (hb9.mono HBE.out.size)); clear hb9)
        go_ret
        exact ⟨rfl, HB9.out⟩

set_option maxRecDepth 100000 in
theorem lifted (os : _root_.Go.Os) (started : os.Started) (H : Type) (enc : TypeId × Value → H) :
    ReturnsInHanded {} Tryz.checked os 3 .any (Rows.takerDoesSpec.pre6 enc Tryz.prog Tryz.f3 Rows.takerDoesRow.domain false) (Rows.takerDoesSpec.post enc Tryz.prog Tryz.f3 false true false false) := by
  refine returnsInHanded_of_change (C := Tryz.checked) own started (by kernel_rfl) Tryz.func3
    (ChangeSpec.witness6 (enc := enc) (C := Tryz.checked) false ⟨#[], #[.slice none 0 0], []⟩ 16 (by kernel_rfl) (by kernel_rfl) (by kernel_rfl) (by kernel_rfl)) ?_
  intro W base args ds gs before hval0 hW hcnd _
  have hval : ∀ (j : Nat) t v, Tryz.f3.params[j]? = some t → args[j]? = some v → Value.okWide Tryz.prog W .any base t v := hval0
  have hW' := hW
  obtain ⟨p, q, hA0, hV, rfl, hfz, hnd⟩ := hW
  have hA : DataW.TrodAll enc Tryz.prog W 0 (fun _ => true) true Tryz.f3.params.toList args.toList ds p := hA0
  rw [Tryz.params3] at hA hval
  obtain ⟨v0, vs0, e0, ds0, p0, q0, hargs, rfl, rfl, h0, x0⟩ := trodAll_cons hA
  obtain ⟨rfl, rfl, rfl⟩ := trodAll_nil x0
  obtain rfl : args = #[v0] := by cases args; simp_all
  obtain ⟨rfl, rfl⟩ := trodVars_none hV
  have k0 := h0
  have lt0 : ∀ x ∈ p0, x.block < W.heap.size := by obtain ⟨m, hm⟩ := k0; exact DataW.trod_lt m _ _ _ hm
  obtain ⟨a0, len0, cap0, rfl⟩ := okWide_slice underBS (hval 0 22 v0 rfl rfl)
  obtain ⟨z0, hz0, w0⟩ := bts_form h0
  subst hz0
  clear hA0 hval0
  refine (walk a0 cap0 z0 W w0).mono fun e W' ⟨he, bel⟩ => ?_
  subst he
  exact ⟨_, rfl, _, _, _, [], _, [], hW', trodAll_mk1 (shut_bool Tryz.underlying4 _), (trodAll_cons_mk (Below.trod laidOut (by kernel_rfl) (of_decide_eq_true (by kernel_rfl)) k0 bel lt0) trodAll_mk0), rfl, bel.frame _, fun h => by cases h⟩

theorem over : Rows.takerDoesRow.holds Tryz.pinned (OpenSpec.ofChange Rows.takerDoesSpec) :=
  OpenClaim.holds_of_wide 3 Tryz.f3 rfl rfl rfl rfl rfl rfl rfl ⟨rfl, rfl, rfl, rfl, rfl⟩ rfl rfl rfl rfl rfl (by kernel_rfl) Tryz.func3 (by kernel_rfl)
    (of_decide_eq_true (by kernel_rfl)) (by unfold Func.isWrapper; first | (rw [if_pos (by decide +kernel)]; kernel_rfl) | (rw [if_neg (by decide +kernel)]; exact ⟨rfl, rfl⟩))
    (fun os started H enc _ => lifted os started H enc)

theorem proved : Rows.TakerDoesSaid := over
#print axioms proved
end Go.Proofs.YtfiaghfaijlfjaaGreat.takerDoes
