/- thalweglaw15.TakerCounts: for any row of batches the law answers true; no condition. -/
import Derived.Test.YtfiaghfaijlfjaaPc
import Derived.WalkLawsBesides
import Derived.WalkKit
import Derived.ProofKit
import Derived.OpenShut
import Derived.ShutString
import Derived.ChangeOld
import Derived.Below
namespace Go.Proofs.Ytfiaghfaijlfjaa.takerCounts
open Go.ChangeShapes Go.WideShapes Go.ChangeAt Go.RowKit
open Go.ChangeMaps (open_string shut_string)
set_option linter.unusedVariables false
set_option maxRecDepth 100000

theorem own : ownKnob Try.prog.godebug = none := by kernel_rfl
theorem laidOut : laidOutB Try.prog = true := by kernel_rfl
theorem bel_drew9 {B : Nat} {a w : World} (h : Below B a w) : Below B a w.drew := ⟨h.os, h.tape, h.output, h.size, h.block⟩
structure AkO (w : World) (F : Nat → Prop) (q : Nat) (y : Int × Int × Int × Int) : Prop where
  own : OwnA w q y
  off : ¬ F q
theorem AkO.step {w w' : World} {F F' : Nat → Prop} {q : Nat} {y : Int × Int × Int × Int} (h : AkO w F q y) (hc : Chg F w w') (hF : ∀ k, F' k → F k ∨ w.heap.size ≤ k) : AkO w' F' q y :=
  ⟨owna_chg h.own hc h.off, fun hf => (hF q hf).elim h.off (fun h2 => by have := h.own.lt; omega)⟩
theorem AkO.below {w w' : World} {F : Nat → Prop} {q : Nat} {y : Int × Int × Int × Int} (h : AkO w F q y) (hb : Below w.heap.size w w') : AkO w' F q y := ⟨h.own.below hb, h.off⟩
theorem AkO.new {w : World} {F : Nat → Prop} (hl : ∀ k, F k → k < w.heap.size) (i p x m : Int) (T : TypeId) : AkO (w.alloc (.cells #[.int .i64 i, .int .i64 p, .int .i64 x, .int .i64 m] T)) F w.heap.size (i, p, x, m) := ⟨owna_alloc w i p x m T _ rfl, fun h => Nat.lt_irrefl _ (hl _ h)⟩
theorem bts_at {w : World} {a : Option Addr} {c : Nat} {l : List Bt} (h : Bts w (.slice a l.length c) l) {k : Nat} (hk : k < l.length) {x : Bt} (hx : l.getD k zb = x) : ∃ b off sa sc, a = some ⟨b, off, none⟩ ∧ w.cell? ⟨b, off + k * 2, none⟩ = some (.int .i64 x.1) ∧ w.cell? ⟨b, off + k * 2 + 1, none⟩ = some (.slice sa x.2.length sc) ∧ Os w (.slice sa x.2.length sc) x.2 ∧ ∀ ad n c', Value.slice sa x.2.length sc = .slice (some ad) n c' → x.2 ≠ [] → ad.block < w.heap.size := by
  subst hx
  rcases h with ⟨a', c', e, e0⟩ | ⟨b, off, c', e, hcells⟩
  · rw [e0] at hk
    exact absurd hk (Nat.not_lt_zero _)
  · simp only [Value.slice.injEq] at e
    obtain ⟨rfl, -, rfl⟩ := e
    obtain ⟨h1, s, hs, ho⟩ := hcells k hk
    obtain ⟨sa, sc, rfl⟩ := ho.form
    refine ⟨b, off, sa, sc, rfl, h1, hs, ho, fun ad n c' e hne => ?_⟩
    rcases ho with ⟨a2, c2, e2, _, h0⟩ | ⟨b2, o2, c2, e2, _, h3, _⟩
    · exact absurd h0 hne
    · rw [e2] at e
      simp only [Value.slice.injEq, Option.some.injEq] at e
      rw [← e.1]
      exact h3
set_option maxHeartbeats 16000000 in
theorem walk (a0 : Option Addr) (cap0 : Nat) (z0 : List Bt) (w : World) (r0 : Bts w (.slice a0 z0.length cap0) z0) :
    Calls Try.prog 5 #[.slice a0 z0.length cap0] w fun e w' => e = .returned (.bool true) ∧ Below w.heap.size w w' := by
  have C0 := Lib.hid (tnew_any w)
  have HR := Lib.hid r0
  clear r0
  go_enter Try.func5, Try.ntmps5
  go_upto_region 2 with (go_at_call 8; refine C0.out.mono ?_; rintro e w1 ⟨b, F1, rfl, hp, hF, hb⟩; have X1 : Hid (Tn w w1 F1 b tk0) := ⟨hp, hF, hb⟩; clear hp hF hb C0)
  have CF := few_any a0 cap0 z0 w1 (HR.out.below X1.out.bel)
  obtain ⟨q, hq⟩ : ∃ q, fewB z0 = q := ⟨_, rfl⟩
  rw [hq] at CF
  have HQ := Lib.hid hq
  have HCF := Lib.hid CF
  clear hq CF
  cases q with
  | false =>
    go_upto_region 3 with (go_at_call 13; refine HCF.out.mono ?_; rintro e w2 ⟨rfl, hb⟩; have HB2 := Lib.hid (X1.out.bel.trans (hb.mono X1.out.bel.size)); clear hb)
    go_wp2_with (go_at_call 6; refine (awake15 _).mono ?_; rintro e W9 ⟨rfl, hb9⟩; have HB9 := Lib.hid (HB2.out.trans (hb9.mono HB2.out.size)); clear hb9)
    go_ret
    exact ⟨rfl, HB9.out⟩
  | true =>
    have HFW : Hid (z0.length ≤ 100 ∧ ∀ x ∈ z0, x.2.length ≤ 60) := by
      have h9 := HQ.out
      unfold fewB at h9
      simp only [Bool.and_eq_true, decide_eq_true_eq, List.all_eq_true] at h9
      exact h9
    go_upto_region 4 with (go_at_call 13; refine HCF.out.mono ?_; rintro e w2 ⟨rfl, hb⟩; have X2 := Lib.hid (X1.out.below hb); clear hb)
    go_wp2_with fail
    go_loopw [4] (fun iv wr => ∃ (k : Nat) (F : Nat → Prop) (t : Tk), k ≤ z0.length ∧ iv = .int .i64 k ∧ Hid (Tn w wr F b t)) (fun i _ => z0.length - (intOf i).toNat)
    case atStart => exact ⟨0, F1, tk0, Nat.zero_le _, rfl, X2.out⟩
    case round =>
      obtain ⟨k, F, t, hk, rfl, X⟩ := hrel
      clear X1 X2 HCF
      have hl100 := HFW.out.1
      by_cases hlt : k < z0.length
      · have hltz : decide ((k : Int) < z0.length) = true := decide_eq_true (by omega)
        obtain ⟨x, hx⟩ : ∃ x, z0.getD k zb = x := ⟨_, rfl⟩
        have hxm : x ∈ z0 := by rw [← hx, List.getD_eq_getElem?_getD, List.getElem?_eq_getElem hlt]; exact List.getElem_mem hlt
        have hx60 := HFW.out.2 x hxm
        obtain ⟨bk, off, sa, sc, rfl, k1, k2, hos, hob⟩ := bts_at HR.out hlt hx
        have HOS := Lib.hid hos
        have HOB := Lib.hid hob
        have HXX := Lib.hid (And.intro hx (And.intro hlt hx60))
        have hkl := World.block_lt_of_cell? w _ k1
        have hcx : ∀ W, Below w.heap.size w W → W.cell? ⟨bk, off + k * 2, none⟩ = some (.int .i64 x.1) ∧ W.cell? ⟨bk, off + k * 2 + 1, none⟩ = some (.slice sa x.2.length sc) := fun W hb => ⟨(hb.cell (p := ⟨bk, off + k * 2, none⟩) hkl).trans k1, (hb.cell (p := ⟨bk, off + k * 2 + 1, none⟩) hkl).trans k2⟩
        have HCX := Lib.hid hcx
        clear hcx hos hob hxm hx k1 k2 hkl
        -- was
        have HTK := Lib.hid X.out.ps.1
        have hnx := HTK.out.nx
        obtain ⟨m1, hm1⟩ : ∃ m1, mk t.nx (srt t.nx (nums t.H)) 16 = m1 := ⟨_, rfl⟩
        have CA := tack_any X.out.ps
        rw [hm1] at CA
        have HCA := Lib.hid CA
        clear CA
        go_upto_region 8 with (go_at_call 11; refine HCA.out.mono ?_; rintro e w3 ⟨F3, rfl, hp, hc, -, hF⟩; have X3 := Lib.hid (X.out.next hp hc hF); clear hp hc hF)
        obtain ⟨v3, hv3⟩ : ∃ v, w3.alloc (.cells #[.int .i64 0, .int .i64 0, .int .i64 t.nx, .int .i64 m1] 44) = v := ⟨_, rfl⟩
        obtain ⟨q3, hq3⟩ : ∃ q, w3.heap.size = q := ⟨_, rfl⟩
        have hb3 : Below w3.heap.size w3 v3 := hv3 ▸ (Below.refl _ _).alloc (Nat.le_refl _) _
        have Y3 := Lib.hid (X3.out.below hb3)
        have O3 : Hid (AkO v3 F3 q3 (0, 0, t.nx, m1)) := hv3 ▸ hq3 ▸ AkO.new X3.out.ps.2.lt 0 0 t.nx m1 44
        have HBB3 := Lib.hid hb3
        rw [hv3]
        try simp only [hq3]
        clear hv3 hq3 hb3
        have HCH := Lib.hid (theld_any Y3.out.ps)
        go_upto_region 9 with (go_at_call 12; refine HCH.out.mono ?_; rintro e w4 ⟨u4, F4, rfl, hz, hp, hc, -, hF⟩; obtain ⟨a4, c4, rfl, -, -, -⟩ := Zs_open hz; rw [srt_len_eq HTK.out]; have X4 := Lib.hid (Y3.out.next hp hc hF); have O4 := Lib.hid (O3.out.step hc hF); clear hz hp hc hF)
        -- Take
        obtain ⟨⟨⟨out, e0⟩, t'⟩, hTR⟩ : ∃ z, takeR t x = z := ⟨_, rfl⟩
        have CT := ttake_any x.1 (.slice sa x.2.length sc) x.2 X4.out.ps (HOS.out.below X4.out.bel) (fun ad n c' e hne hf => by have h1 := HOB.out ad n c' e hne; have h2 := X4.out.new _ hf; omega) (by omega)
        rw [show ((x.1, x.2) : Bt) = x from rfl, hTR] at CT
        simp only at CT
        have HCT := Lib.hid CT
        have HTR := Lib.hid hTR
        obtain ⟨k1, k2⟩ := HCX.out w4 X4.out.bel
        clear CT hTR
        go_upto_region 10 with (go_at_call 9; refine HCT.out.mono ?_; rintro e w5 ⟨r5, F5, rfl, hp, hc, -, hF, ho⟩; obtain ⟨a5, c5, rfl⟩ := own_form ho.1; have X5 := Lib.hid (X4.out.next hp hc hF); have O5 := Lib.hid (O4.out.step hc hF); clear hp hc hF ho)
        clear k1 k2
        have HTK5 := Lib.hid X5.out.ps.1
        obtain ⟨m2, hm2⟩ : ∃ m2, mk t'.nx (srt t'.nx (nums t'.H)) 16 = m2 := ⟨_, rfl⟩
        have CA2 := tack_any X5.out.ps
        rw [hm2] at CA2
        have HCA2 := Lib.hid CA2
        have HM2 := Lib.hid hm2
        clear CA2 hm2
        go_upto_region 11 with (go_at_call 11; refine HCA2.out.mono ?_; rintro e w6 ⟨F6, rfl, hp, hc, -, hF⟩; have X6 := Lib.hid (X5.out.next hp hc hF); have P6 := Lib.hid (O5.out.step hc hF); clear hp hc hF)
        obtain ⟨v6, hv6⟩ : ∃ v, w6.alloc (.cells #[.int .i64 0, .int .i64 0, .int .i64 t'.nx, .int .i64 m2] 44) = v := ⟨_, rfl⟩
        obtain ⟨q6, hq6⟩ : ∃ q, w6.heap.size = q := ⟨_, rfl⟩
        have hb6 : Below w6.heap.size w6 v6 := hv6 ▸ (Below.refl _ _).alloc (Nat.le_refl _) _
        have Y6 := Lib.hid (X6.out.below hb6)
        have O6 : Hid (AkO v6 F6 q6 (0, 0, t'.nx, m2)) := hv6 ▸ hq6 ▸ AkO.new X6.out.ps.2.lt 0 0 t'.nx m2 44
        have HBB6 := Lib.hid hb6
        rw [hv6]
        try simp only [hq6]
        clear hv6 hq6 hb6
        have P7 := Lib.hid (P6.out.below HBB6.out)
        obtain ⟨⟨y0, y1, y2, y3⟩, -⟩ := P7.out.own
        obtain ⟨⟨z0_, z1_, z2_, z3_⟩, -⟩ := O6.out.own
        have hnx5 := HTK5.out.nx
        go_upto_region 12 with (fail)
        by_cases hin : TkIn t x
        · obtain ⟨m, hm1_, hm2_, hm3_, hm4_, hm5_⟩ := take_more HTK.out hin
          have he0 := (take_ok HTK.out hin).1
          rw [HTR.out] at hm1_ hm3_ hm4_ hm5_ he0
          simp only at hm1_ hm3_ hm4_ hm5_ he0
          subst he0
          have hmore : (t'.nx - t.nx + 65536) % 65536 = (m : Int) := by unfold far at hm1_; omega
          rw [hmore]
          have HMM := Lib.hid (And.intro hm2_ (And.intro hm3_ (And.intro hm4_ hm5_)))
          have hh16 : t'.H.length ≤ 16 := held_le HTK5.out
          have ht16 : t.H.length ≤ 16 := held_le HTK.out
          have g1 : ((t'.H.length : Int) == t.H.length + 1 - m) = true := by simp; omega
          have g2 : decide ((out.length : Int) < m) = false := decide_eq_false (by omega)
          have HCG := Lib.hid (theld_any Y6.out.ps)
          clear y0 y1 y2 y3 z0_ z1_ z2_ z3_ hm1_ hmore
          have g0 : (t.H.length : Int) + 1 - m = t'.H.length := by omega
          clear g1
          have hm0 : (m = 0 ∧ out = []) ∨ ((m : Int) == 0) = false := by
            rcases Nat.eq_zero_or_pos m with h | h
            · exact .inl ⟨h, hm5_ h⟩
            · exact .inr (beq_false_of_ne (by omega))
          have g3 : m ≤ out.length := hm4_
          have g4 : ¬ out.length < m := by omega
          clear hm3_ hm4_ hm5_
          have HM0 := Lib.hid hm0
          clear hm0
          go_upto_region 14 with (fail)
          rcases HM0.out with ⟨rfl, rfl⟩ | hm0
          all_goals
            go_upto_region 16 with (go_at_call 12; refine HCG.out.mono ?_; rintro e w7 ⟨u7, F7, rfl, hz, hp, hc, -, hF⟩; obtain ⟨a7, c7, rfl, -, -, -⟩ := Zs_open hz; rw [srt_len_eq HTK5.out]; have X7 := Lib.hid (Y6.out.next hp hc hF); have P8 := Lib.hid (O6.out.step hc hF); clear hz hp hc hF)
            clear g0 g2 g3 g4
            try clear hm0
            have HCE := Lib.hid (theld_any X7.out.ps)
            go_upto_region 17 with (go_at_call 12; refine HCE.out.mono ?_; rintro e w9 ⟨u9, F9, rfl, hz, hp, hc, -, hF⟩; have HZ9 := Lib.hid hz; obtain ⟨a9, c9, rfl, -, -, h9⟩ := Zs_open hz; have X9 := Lib.hid (X7.out.next hp hc hF); have P9 := Lib.hid (P8.out.step hc hF); have HC9 := Lib.hid h9; clear hz hp hc hF h9)
            have HNE : Hid (∀ n ∈ srt t'.nx (nums t'.H), n ≠ t'.nx) := fun n hn => srt_ne HTK5.out hn
            have HLS : Hid ((srt t'.nx (nums t'.H)).length ≤ 16) := by show _ ≤ _; rw [srt_len_eq HTK5.out]; exact held_le HTK5.out
            obtain ⟨S, hS⟩ : ∃ S, srt t'.nx (nums t'.H) = S := ⟨_, rfl⟩
            rw [hS] at HC9 HNE HLS HZ9
            try simp only [hS]
            clear hS
            go_wp2_with fail
            go_loopw [12] (fun iv wq => ∃ j : Nat, j ≤ S.length ∧ iv = .int .i64 j ∧ Hid (Below w9.heap.size w9 wq)) (fun i _ => S.length - (intOf i).toNat)
            case atStart => exact ⟨0, Nat.zero_le _, rfl, Below.refl _ _⟩
            case round =>
              obtain ⟨j, hj, rfl, HBJ⟩ := hrel
              have hls := HLS.out
              by_cases hlj : j < S.length
              · have hjz : decide ((j : Int) < S.length) = true := decide_eq_true (by omega)
                obtain ⟨b9, o9, rfl, hc9⟩ := HC9.out j hlj
                have d9 := (HBJ.out.cell (p := ⟨b9, o9 + j, none⟩) (World.block_lt_of_cell? w9 _ hc9)).trans hc9
                obtain ⟨⟨-, -, e9, -⟩, -⟩ := P9.out.own.below HBJ.out
                have hnn : S.getD j 0 ≠ t'.nx := HNE.out _ (by rw [List.getD_eq_getElem?_getD, List.getElem?_eq_getElem hlj]; exact List.getElem_mem hlj)
                generalize S.getD j 0 = n9 at *
                have hq9 : (n9 == t'.nx) = false := beq_false_of_ne hnn
                clear hc9
                go_wp2_with fail
                go_region
                all_goals (go_wp2_with fail; go_roundw)
                case rel => exact ⟨j + 1, by omega, by go_num, bel_drew9 HBJ.out⟩
                case measure => simp [intOf]; omega
              · obtain rfl : j = S.length := by omega
                have hjz : decide ((S.length : Int) < S.length) = false := decide_eq_false (by omega)
                have XE := Lib.hid (X9.out.below HBJ.out)
                have hk1 := HXX.out.2.1
                go_wp2_with fail
                go_roundw
                case rel => exact ⟨k + 1, F9, t', by omega, by go_num, XE.out⟩
                case measure => simp [intOf]; omega
        · obtain ⟨e, he, h3⟩ := take_no hin
          rw [HTR.out] at he
          simp only [Prod.mk.injEq] at he
          obtain ⟨⟨rfl, h4⟩, ht⟩ := he
          subst h4
          subst ht
          have hmm : m1 = m2 := hm1.symm.trans HM2.out
          subst hmm
          have hz1 : (e0 == 0) = false := beq_false_of_ne (by omega)
          have hz2 : (e0 != 0) = true := by rw [bne, hz1]; rfl
          have HCG := Lib.hid (theld_any Y6.out.ps)
          clear hin h3 hm1
          go_upto_region 16 with (go_at_call 12; refine HCG.out.mono ?_; rintro e w7 ⟨u7, F7, rfl, hz, hp, hc, -, hF⟩; obtain ⟨a7, c7, rfl, -, -, -⟩ := Zs_open hz; rw [srt_len_eq HTK5.out]; have X7 := Lib.hid (Y6.out.next hp hc hF); have P8 := Lib.hid (O6.out.step hc hF); clear hz hp hc hF)
          clear hz1 hz2 y0 y1 y2 y3 z0_ z1_ z2_ z3_
          have HCE := Lib.hid (theld_any X7.out.ps)
          go_upto_region 17 with (go_at_call 12; refine HCE.out.mono ?_; rintro e w9 ⟨u9, F9, rfl, hz, hp, hc, -, hF⟩; have HZ9 := Lib.hid hz; obtain ⟨a9, c9, rfl, -, -, h9⟩ := Zs_open hz; have X9 := Lib.hid (X7.out.next hp hc hF); have P9 := Lib.hid (P8.out.step hc hF); have HC9 := Lib.hid h9; clear hz hp hc hF h9)
          have HNE : Hid (∀ n ∈ srt t'.nx (nums t'.H), n ≠ t'.nx) := fun n hn => srt_ne HTK5.out hn
          have HLS : Hid ((srt t'.nx (nums t'.H)).length ≤ 16) := by show _ ≤ _; rw [srt_len_eq HTK5.out]; exact held_le HTK5.out
          obtain ⟨S, hS⟩ : ∃ S, srt t'.nx (nums t'.H) = S := ⟨_, rfl⟩
          rw [hS] at HC9 HNE HLS HZ9
          try simp only [hS]
          clear hS
          go_wp2_with fail
          go_loopw [12] (fun iv wq => ∃ j : Nat, j ≤ S.length ∧ iv = .int .i64 j ∧ Hid (Below w9.heap.size w9 wq)) (fun i _ => S.length - (intOf i).toNat)
          case atStart => exact ⟨0, Nat.zero_le _, rfl, Below.refl _ _⟩
          case round =>
            obtain ⟨j, hj, rfl, HBJ⟩ := hrel
            have hls := HLS.out
            by_cases hlj : j < S.length
            · have hjz : decide ((j : Int) < S.length) = true := decide_eq_true (by omega)
              obtain ⟨b9, o9, rfl, hc9⟩ := HC9.out j hlj
              have d9 := (HBJ.out.cell (p := ⟨b9, o9 + j, none⟩) (World.block_lt_of_cell? w9 _ hc9)).trans hc9
              obtain ⟨⟨-, -, e9, -⟩, -⟩ := P9.out.own.below HBJ.out
              have hnn : S.getD j 0 ≠ t'.nx := HNE.out _ (by rw [List.getD_eq_getElem?_getD, List.getElem?_eq_getElem hlj]; exact List.getElem_mem hlj)
              generalize S.getD j 0 = n9 at *
              have hq9 : (n9 == t'.nx) = false := beq_false_of_ne hnn
              clear hc9
              go_wp2_with fail
              go_region
              all_goals (go_wp2_with fail; go_roundw)
              case rel => exact ⟨j + 1, by omega, by go_num, bel_drew9 HBJ.out⟩
              case measure => simp [intOf]; omega
            · obtain rfl : j = S.length := by omega
              have hjz : decide ((S.length : Int) < S.length) = false := decide_eq_false (by omega)
              have XE := Lib.hid (X9.out.below HBJ.out)
              have hk1 := HXX.out.2.1
              go_wp2_with fail
              go_roundw
              case rel => exact ⟨k + 1, F9, t', by omega, by go_num, XE.out⟩
              case measure => simp [intOf]; omega
      · obtain rfl : k = z0.length := by omega
        have hltz : decide ((z0.length : Int) < z0.length) = false := decide_eq_false (by omega)
        have HBE : Hid (Below w.heap.size w wr) := X.out.bel
        go_wp2_with (go_at_call 6; refine (awake15 _).mono ?_; rintro e W9 ⟨rfl, hb9⟩; have HB9 := Lib.hid (HBE.out.trans (hb9.mono HBE.out.size)); clear hb9)
        go_ret
        exact ⟨rfl, HB9.out⟩

set_option maxRecDepth 100000 in
theorem lifted (os : _root_.Go.Os) (started : os.Started) (H : Type) (enc : TypeId × Value → H) :
    ReturnsInHanded {} Try.checked os 5 .any (Rows.takerCountsSpec.pre6 enc Try.prog Try.f5 Rows.takerCountsRow.domain false) (Rows.takerCountsSpec.post enc Try.prog Try.f5 false true false false) := by
  refine returnsInHanded_of_change (C := Try.checked) own started (by kernel_rfl) Try.func5
    (ChangeSpec.witness6 (enc := enc) (C := Try.checked) false ⟨#[], #[.slice none 0 0], []⟩ 16 (by kernel_rfl) (by kernel_rfl) (by kernel_rfl) (by kernel_rfl)) ?_
  intro W base args ds gs before hval0 hW hcnd _
  have hval : ∀ (j : Nat) t v, Try.f5.params[j]? = some t → args[j]? = some v → Value.okWide Try.prog W .any base t v := hval0
  have hW' := hW
  obtain ⟨p, q, hA0, hV, rfl, hfz, hnd⟩ := hW
  have hA : DataW.TrodAll enc Try.prog W 0 (fun _ => true) true Try.f5.params.toList args.toList ds p := hA0
  rw [Try.params5] at hA hval
  obtain ⟨v0, vs0, e0, ds0, p0, q0, hargs, rfl, rfl, h0, x0⟩ := trodAll_cons hA
  obtain ⟨rfl, rfl, rfl⟩ := trodAll_nil x0
  obtain rfl : args = #[v0] := by cases args; simp_all
  obtain ⟨rfl, rfl⟩ := trodVars_none hV
  have k0 := h0
  have lt0 : ∀ x ∈ p0, x.block < W.heap.size := by obtain ⟨m, hm⟩ := k0; exact DataW.trod_lt m _ _ _ hm
  obtain ⟨a0, len0, cap0, rfl⟩ := okWide_slice underBS (hval 0 24 v0 rfl rfl)
  obtain ⟨z0, hz0, w0⟩ := bts_form h0
  subst hz0
  clear hA0 hval0
  refine (walk a0 cap0 z0 W w0).mono fun e W' ⟨he, bel⟩ => ?_
  subst he
  exact ⟨_, rfl, _, _, _, [], _, [], hW', trodAll_mk1 (shut_bool Try.underlying4 _), (trodAll_cons_mk (Below.trod laidOut (by kernel_rfl) (of_decide_eq_true (by kernel_rfl)) k0 bel lt0) trodAll_mk0), rfl, bel.frame _, fun h => by cases h⟩

theorem over : Rows.takerCountsRow.holds Try.pinned (OpenSpec.ofChange Rows.takerCountsSpec) :=
  OpenClaim.holds_of_wide 5 Try.f5 rfl rfl rfl rfl rfl rfl rfl ⟨rfl, rfl, rfl, rfl, rfl⟩ rfl rfl rfl rfl rfl (by kernel_rfl) Try.func5 (by kernel_rfl)
    (of_decide_eq_true (by kernel_rfl)) (by unfold Func.isWrapper; first | (rw [if_pos (by decide +kernel)]; kernel_rfl) | (rw [if_neg (by decide +kernel)]; exact ⟨rfl, rfl⟩))
    (fun os started H enc _ => lifted os started H enc)

theorem proved : Rows.TakerCountsSaid := over
#print axioms proved
end Go.Proofs.Ytfiaghfaijlfjaa.takerCounts
