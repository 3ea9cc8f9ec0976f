/- Texts Tp4 of this proof, in one. No conditions but on lengths. -/
import Derived.Test.YthnajpckhoomgaaGreatRows
import Derived.Test.YthnajpckhoomgaaGreatU35
import Derived.ArgAppend
import Derived.Below
import Derived.BigQuiet
import Derived.Calls
import Derived.ChangeAlike
import Derived.ChangeArms
import Derived.ChangeMade
import Derived.ChangeOld
import Derived.Deep.Cut
import Derived.Deep.CutBlock
import Derived.Deep.QuietTactic
import Derived.Deep.RegionHeld
import Derived.Deep.RegionLaw
import Derived.Deep.RegionWith
import Derived.Deep.Slices
import Derived.Defers
import Derived.Ground.GgzProg
import Derived.Ground.Names2Prog
import Derived.Laws.AppendOwnNone
import Derived.Laws.BitsLemmas
import Derived.Laws.BytesArg
import Derived.Laws.LoneSync
import Derived.Laws.OwnMore
import Derived.Laws.Pointers
import Derived.Laws.StructEq
import Derived.Lib.Hide
import Derived.Lib.OwnBridge
import Derived.Lib.QuietBelow
import Derived.Lib.SlicesCompact
import Derived.LoopIn
import Derived.LoopTactic
import Derived.Maps.AppendAt
import Derived.Maps.Own
import Derived.Maps.OwnOps
import Derived.Maps.OwnSet
import Derived.Maps.RangeWalk
import Derived.Maps.Views
import Derived.OpenShut
import Derived.Orders
import Derived.Outline
import Derived.OwnWalkIn
import Derived.ProofKit
import Derived.RangeFuncBox
import Derived.RangeFuncCalls
import Derived.RangeFuncLeaves
import Derived.RangeFuncNested
import Derived.RegionCalls
import Derived.RegionTactic
import Derived.Shelf.RegionOpen
import Derived.Shelf.RegionOpenPlain
import Derived.Shelf.SlIterI.Nil
import Derived.Shelf.Slices.CompactI
import Derived.Shelf.Slices.In.SortNone
import Derived.Shelf.Sort.Plain
import Derived.ShutString
import Derived.Sort.Grow
import Derived.StillTail
import Derived.TacticsInMore
import Derived.WalkKit
import Derived.WalkLawsBesides
import Derived.WalkSpells
import Derived.WideShapes
namespace Go.Proofs.YthnajpckhoomgaaGreat
set_option maxRecDepth 100000
set_option linter.unusedVariables false
open Go.RowKit

open Go.Maps
def rfE (t : Tk) (x : Bt) : Int :=
  if ¬ BtOk x.1 x.2 then 1 else if 32768 ≤ far t.nx x.1 then 10 else if 16 < far t.nx x.1 then 1 else if (findH t.H x.1).isSome = true then 9 else 0
theorem take_rf (t : Tk) (x : Bt) : (rfE t x = 0 → TkIn t x) ∧ (rfE t x ≠ 0 → takeR t x = (([], rfE t x), t)) := by
  unfold rfE takeR TkIn
  by_cases h1 : BtOk x.1 x.2
  · rw [if_neg (not_not_intro h1), if_neg (not_not_intro h1)]
    by_cases h2 : 32768 ≤ far t.nx x.1
    · rw [if_pos h2, if_pos h2]
      exact ⟨fun e => absurd e (by decide), fun _ => rfl⟩
    · rw [if_neg h2, if_neg h2]
      by_cases h3 : 16 < far t.nx x.1
      · rw [if_pos h3, if_pos h3]
        exact ⟨fun e => absurd e (by decide), fun _ => rfl⟩
      · rw [if_neg h3, if_neg h3]
        by_cases h4 : (findH t.H x.1).isSome = true
        · rw [if_pos h4, if_pos h4]
          exact ⟨fun e => absurd e (by decide), fun _ => rfl⟩
        · rw [if_neg h4, if_neg h4]
          refine ⟨fun _ => ⟨h1, by omega, ?_⟩, fun e => absurd rfl e⟩
          cases hf : findH t.H x.1 with
          | none => rfl
          | some y => rw [hf] at h4; exact absurd rfl h4
  · rw [if_pos h1, if_pos h1]
    exact ⟨fun e => absurd e (by decide), fun _ => rfl⟩
section
variable {w : World} {F : Nat → Prop} {b : Nat} {t : Tk}
set_option maxHeartbeats 4000000 in
theorem tref_any (n : Int) (v : Value) (ys : List Ob) (h : PT w F b t) (hv : Os w v ys) (hl : ys.length ≤ 3000) : Calls Tryz.prog 119 #[.pointer (some ⟨b, 0, none⟩), .agg #[.int .i64 n, v]] w fun e w' => ∃ F', e = .returned (.int .i64 (rfE t (n, ys))) ∧ PT w' F' b t ∧ (rfE t (n, ys) = 0 → ∃ bm, PTm w' F' b bm t) ∧ Chg F w w' ∧ (∀ k, F k → F' k) ∧ ∀ k, F' k → F k ∨ w.heap.size ≤ k := by
  obtain ⟨W1, hW1⟩ : ∃ W1, w.alloc (.cells #[.int .i64 n, v] 69) = W1 := ⟨_, rfl⟩
  obtain ⟨g0, hg0⟩ : ∃ g0, w.heap.size = g0 := ⟨_, rfl⟩
  have hb1 : Below w.heap.size w W1 := hW1 ▸ (Below.refl _ w).alloc (Nat.le_refl _) _
  have hov : v.oneCell' = true := by
    obtain ⟨a, c, rfl⟩ := hv.form
    rfl
  have hx0 : W1.cell? ⟨g0, 0, none⟩ = some (.int .i64 n) := by rw [← hW1, ← hg0]; simp
  have hx1 : W1.cell? ⟨g0, 1, none⟩ = some v := by rw [← hW1, ← hg0]; simp
  have hgl : g0 < W1.heap.size := World.block_lt_of_cell? W1 _ hx0
  have hp1 := h.below hb1
  have c0 := hp1.2.cN
  have hbl : b < W1.heap.size := World.block_lt_of_cell? W1 _ c0
  have CK := Lib.hid (pcheck_any n v ys W1 (hv.below hb1) hl)
  have HP0 := Lib.hid h
  have HB1 := Lib.hid hb1
  have HP1 := Lib.hid hp1
  have HW1 := Lib.hid hW1
  have HG0 := Lib.hid hg0
  have HX := Lib.hid (And.intro hx0 (And.intro c0 (And.intro hgl hbl)))
  have HT := Lib.hid h.1
  obtain ⟨aV, cV, hvf⟩ := hv.form
  subst hvf
  clear h hv hb1 hp1 hW1 hg0 c0 hgl hbl
  go_enter Tryz.func119, Tryz.ntmps119
  go_upto_region 1 with (fail)
  rw [HW1.out]
  try simp only [HG0.out]
  go_upto_region 2 with (go_at_call 152; refine CK.out.mono ?_; rintro e w2 ⟨rfl, hb2⟩; have HB2 := Lib.hid hb2; clear hx0 hx1 hb2)
  have HB12 : Hid (Below w.heap.size w w2) := HB1.out.trans (HB2.out.mono HB1.out.size)
  by_cases hok : BtOk n ys
  · have he : btc n ys = 0 := if_pos hok
    rw [he]
    have HOK := Lib.hid hok
    obtain ⟨q0, q1, ql0, ql1⟩ := HX.out
    have x0 := (HB2.out.cell (p := ⟨g0, 0, none⟩) ql0).trans q0
    have x1 := (HB2.out.cell (p := ⟨b, 0, none⟩) ql1).trans q1
    have HXX := Lib.hid (And.intro x0 x1)
    have HL0 := Lib.hid (And.intro ql0 ql1)
    clear q0 q1 ql0 ql1 he hok
    go_upto_region 4 with (fail)
    have kc : ∀ w', Below w2.heap.size w2 w' → w'.cell? ⟨g0, 0, none⟩ = some (.int .i64 n) ∧ w'.cell? ⟨b, 0, none⟩ = some (.int .i64 t.nx) := fun w' h => ⟨(h.cell (p := ⟨g0, 0, none⟩) (Nat.lt_of_lt_of_le HL0.out.1 HB2.out.size)).trans HXX.out.1, (h.cell (p := ⟨b, 0, none⟩) (Nat.lt_of_lt_of_le HL0.out.2 HB2.out.size)).trans HXX.out.2⟩
    refine wp_region_typed (C := fun w' => Below w2.heap.size w2 w') (X := fun w w' => Below w.heap.size w w') (n := 34) (by kernel_rfl) (by kernel_rfl) rfl (fun w => Below.refl _ w) (Below.refl _ _).drew ?_
    refine w_is (fun w => Below.refl _ w) _ (.inl rfl) (fun ρ w hC hc hfn hf => by have e0 : ρ (.tmp 0) = _ := hf 0 (by decide); (conv => lhs; simp [execOp, go_sem, hc, e0])) ?_
    refine w_is (fun w => Below.refl _ w) _ (.inl rfl) (fun ρ w hC hc hfn hf => by have e14 : ρ (.tmp 14) = _ := hf 14 (by decide); (conv => lhs; simp [execOp, go_sem, hc, e14])) ?_
    refine w_is (fun w => Below.refl _ w) _ (.inl rfl) (fun ρ w hC hc hfn hf => by have e15 : ρ (.tmp 15) = _ := hf 15 (by decide); (conv => lhs; simp [execOp, go_sem, hc, e15])) ?_
    refine w_is (fun w => Below.refl _ w) _ (.inl rfl) (fun ρ w hC hc hfn hf => by have e16 : ρ (.tmp 16) = _ := hf 16 (by decide); (conv => lhs; simp [execOp, go_sem, hc, e16, kc w hC])) ?_
    refine w_is (fun w => Below.refl _ w) _ (.inl rfl) (fun ρ w hC hc hfn hf => by have e3 : ρ (.tmp 3) = _ := hf 3 (by decide); (conv => lhs; simp [execOp, go_sem, hc, e3])) ?_
    refine w_is (fun w => Below.refl _ w) _ (.inl rfl) (fun ρ w hC hc hfn hf => by have e18 : ρ (.tmp 18) = _ := hf 18 (by decide); (conv => lhs; simp [execOp, go_sem, hc, e18, kc w hC])) ?_
    refine w_call (Is _) (fun _ _ _ h _ => h) 109 (.inl rfl) (fun ρ w hC hc hfn hf => by have e17 : ρ (.tmp 17) = _ := hf 17 (by decide); have e19 : ρ (.tmp 19) = _ := hf 19 (by decide); exact ⟨_, by (conv => lhs; simp [execOp, resolve, invoke, go_sem, hc, hfn, e17, e19]), (far_any t.nx n w).mono fun e w' h => ⟨_, h.1, hC.trans (h.2.mono hC.size), h.2, rfl⟩⟩) ?_
    refine w_is (fun w => Below.refl _ w) _ (.inl rfl) (fun ρ w hC hc hfn hf => by have e20 : ρ (.tmp 20) = _ := hf 20 (by decide); (conv => lhs; simp [execOp, go_sem, hc, e20])) ?_
    intro A W4 hC hn hd hf
    have y0 : A.eval (.tmp 0) = _ := Eq.trans (hf 0) (by conv => lhs; simp [go_sem])
    have y1 : A.eval (.tmp 1) = _ := Eq.trans (hf 1) (by conv => lhs; simp [go_sem])
    have y2 : A.eval (.tmp 2) = _ := Eq.trans (hf 2) (by conv => lhs; simp [go_sem])
    have y3 : A.eval (.tmp 3) = _ := Eq.trans (hf 3) (by conv => lhs; simp [go_sem])
    have y4 : A.eval (.tmp 4) = _ := Eq.trans (hf 4) (by conv => lhs; simp [go_sem])
    have y5 : A.eval (.tmp 5) = _ := Eq.trans (hf 5) (by conv => lhs; simp [go_sem])
    have y6 : A.eval (.tmp 6) = _ := hf 6
    have y7 : A.eval (.tmp 7) = _ := Eq.trans (hf 7) (by conv => lhs; simp [go_sem])
    have y8 : A.eval (.tmp 8) = _ := Eq.trans (hf 8) (by conv => lhs; simp [go_sem])
    have y9 : A.eval (.tmp 9) = _ := Eq.trans (hf 9) (by conv => lhs; simp [go_sem])
    have y10 : A.eval (.tmp 10) = _ := Eq.trans (hf 10) (by conv => lhs; simp [go_sem])
    have y11 : A.eval (.tmp 11) = _ := Eq.trans (hf 11) (by conv => lhs; simp [go_sem])
    have y12 : A.eval (.tmp 12) = _ := Eq.trans (hf 12) (by conv => lhs; simp [go_sem])
    have y13 : A.eval (.tmp 13) = _ := Eq.trans (hf 13) (by conv => lhs; simp [go_sem])
    have y14 : A.eval (.tmp 14) = _ := hf 14
    have y15 : A.eval (.tmp 15) = _ := hf 15
    have y16 : A.eval (.tmp 16) = _ := hf 16
    have y17 : A.eval (.tmp 17) = _ := hf 17
    have y18 : A.eval (.tmp 18) = _ := hf 18
    have y19 : A.eval (.tmp 19) = _ := hf 19
    have y20 : A.eval (.tmp 20) = _ := hf 20
    have y21 : A.eval (.tmp 21) = _ := Eq.trans (hf 21) (by conv => lhs; simp [go_sem])
    have y22 : A.eval (.tmp 22) = _ := Eq.trans (hf 22) (by conv => lhs; simp [go_sem])
    have y23 : A.eval (.tmp 23) = _ := Eq.trans (hf 23) (by conv => lhs; simp [go_sem])
    have y24 : A.eval (.tmp 24) = _ := Eq.trans (hf 24) (by conv => lhs; simp [go_sem])
    have y25 : A.eval (.tmp 25) = _ := Eq.trans (hf 25) (by conv => lhs; simp [go_sem])
    have y26 : A.eval (.tmp 26) = _ := Eq.trans (hf 26) (by conv => lhs; simp [go_sem])
    have y27 : A.eval (.tmp 27) = _ := Eq.trans (hf 27) (by conv => lhs; simp [go_sem])
    have y28 : A.eval (.tmp 28) = _ := Eq.trans (hf 28) (by conv => lhs; simp [go_sem])
    have y29 : A.eval (.tmp 29) = _ := Eq.trans (hf 29) (by conv => lhs; simp [go_sem])
    have y30 : A.eval (.tmp 30) = _ := Eq.trans (hf 30) (by conv => lhs; simp [go_sem])
    have y31 : A.eval (.tmp 31) = _ := Eq.trans (hf 31) (by conv => lhs; simp [go_sem])
    have y32 : A.eval (.tmp 32) = _ := Eq.trans (hf 32) (by conv => lhs; simp [go_sem])
    have y33 : A.eval (.tmp 33) = _ := Eq.trans (hf 33) (by conv => lhs; simp [go_sem])
    clear hf
    have hA := frame_eq hn
    rw [show List.range 34 = [0, 1, 2, 3, 4, 5, 6, 7, 8, 9, 10, 11, 12, 13, 14, 15, 16, 17, 18, 19, 20, 21, 22, 23, 24, 25, 26, 27, 28, 29, 30, 31, 32, 33] from rfl, hd] at hA
    simp only [List.map_cons, List.map_nil, y0, y1, y2, y3, y4, y5, y6, y7, y8, y9, y10, y11, y12, y13, y14, y15, y16, y17, y18, y19, y20, y21, y22, y23, y24, y25, y26, y27, y28, y29, y30, y31, y32, y33] at hA
    clear y0 y1 y2 y3 y4 y5 y6 y7 y8 y9 y10 y11 y12 y13 y14 y15 y16 y17 y18 y19 y20 y21 y22 y23 y24 y25 y26 y27 y28 y29 y30 y31 y32 y33
    clear hn hd
    subst hA
    have HB3 := Lib.hid hC
    clear kc hC x0 x1
    have o0 := (HB3.out.cell (p := ⟨g0, 0, none⟩) (Nat.lt_of_lt_of_le HL0.out.1 HB2.out.size)).trans HXX.out.1
    have o1 := (HB3.out.cell (p := ⟨b, 0, none⟩) (Nat.lt_of_lt_of_le HL0.out.2 HB2.out.size)).trans HXX.out.2
    have HB13 : Hid (Below w.heap.size w W4) := HB12.out.trans (HB3.out.mono HB12.out.size)
    have HO := Lib.hid (And.intro o0 o1)
    clear o0 o1
    obtain ⟨d, hd⟩ : ∃ d, far t.nx n = d := ⟨_, rfl⟩
    rw [hd]
    have HD := Lib.hid hd
    clear hd
    by_cases h2 : 32768 ≤ d
    · have HE : Hid (rfE t (n, ys) = 10) := by show _ = _; unfold rfE; rw [if_neg (not_not_intro HOK.out), if_pos (by rw [HD.out]; exact h2)]
      have hdd : decide (32768 ≤ d) = true := decide_eq_true h2
      go_wp2_with fail
      go_ret
      rw [HE.out]
      first | exact ⟨F, rfl, PT.below HP0.out HB13.out, fun e => absurd e (by decide), chg0 HB13.out, fun k hk => hk, fun k hk => .inl hk⟩ | exact ⟨rfl, F, PT.below HP0.out HB13.out, fun e => absurd e (by decide), chg0 HB13.out, fun k hk => hk, fun k hk => .inl hk⟩
    · have hdd : decide (32768 ≤ d) = false := decide_eq_false h2
      by_cases h3 : 16 < d
      · have HE : Hid (rfE t (n, ys) = 1) := by show _ = _; unfold rfE; rw [if_neg (not_not_intro HOK.out), if_neg (by rw [HD.out]; exact h2), if_pos (by rw [HD.out]; exact h3)]
        have hd3 : decide (16 < d) = true := decide_eq_true h3
        go_wp2_with fail
        go_ret
        rw [HE.out]
        first | exact ⟨F, rfl, PT.below HP0.out HB13.out, fun e => absurd e (by decide), chg0 HB13.out, fun k hk => hk, fun k hk => .inl hk⟩ | exact ⟨rfl, F, PT.below HP0.out HB13.out, fun e => absurd e (by decide), chg0 HB13.out, fun k hk => hk, fun k hk => .inl hk⟩
      · have hd3 : decide (16 < d) = false := decide_eq_false h3
        have HN2 := Lib.hid h2
        have HN3 := Lib.hid h3
        have CM := Lib.hid (hold_pt (HP0.out.below HB13.out).drew)
        have y0 := HO.out.1
        clear h2 h3
        go_upto_region 9 with (fail)
        clear hdd hd3
        go_region_with (go_at_call 120; refine CM.out.mono ?_; rintro e w4 ⟨bm, F2, rfl, hp, hc, hF, hF2⟩; have o0 := (hc.cell (Nat.lt_of_lt_of_le HL0.out.1 (Nat.le_trans HB2.out.size HB3.out.size)) (fun hf => by have := HP0.out.2.lt _ hf; have := HG0.out; omega)).trans y0; obtain ⟨lv, hlook, hspec⟩ := hp.look HOK.out.1; have HP4 := Lib.hid hp; have HC4 := Lib.hid hc; have HF4 := Lib.hid hF; have HG4 := Lib.hid hF2; have HSP := Lib.hid hspec; clear hp hc hF hF2 hspec)
        all_goals
          have HCF : Hid (Chg F w w4) := (((chg0 HB13.out).drew).trans (G := F) HC4.out (fun _ _ h => h))
          have HGF : Hid (∀ k, F2 k → F k ∨ w.heap.size ≤ k) := fun k hk => (HG4.out k hk).imp (fun h => h) (fun h => Nat.le_trans HB13.out.size h)
          clear y0 o0 CM
          obtain ⟨q, hq⟩ : ∃ q, (findH t.H n).isSome = q := ⟨_, rfl⟩
          have HQ := Lib.hid hq
          try simp only [hq]
          clear hq hlook
          cases q with
          | true =>
            have HE : Hid (rfE t (n, ys) = 9) := by show _ = _; unfold rfE; rw [if_neg (not_not_intro HOK.out), if_neg (by rw [HD.out]; have := HN2.out; omega), if_neg (by rw [HD.out]; have := HN3.out; omega), if_pos HQ.out]
            go_wp2_with fail
            go_ret
            rw [HE.out]
            first | exact ⟨F2, rfl, ⟨HT.out, .inl ⟨bm, HP4.out⟩⟩, fun e => absurd e (by decide), HCF.out, HF4.out, HGF.out⟩ | exact ⟨rfl, F2, ⟨HT.out, .inl ⟨bm, HP4.out⟩⟩, fun e => absurd e (by decide), HCF.out, HF4.out, HGF.out⟩
          | false =>
            have HE : Hid (rfE t (n, ys) = 0) := by show _ = _; unfold rfE; rw [if_neg (not_not_intro HOK.out), if_neg (by rw [HD.out]; have := HN2.out; omega), if_neg (by rw [HD.out]; have := HN3.out; omega), if_neg (by rw [HQ.out]; decide)]
            go_wp2_with fail
            go_ret
            rw [HE.out]
            first | exact ⟨F2, rfl, ⟨HT.out, .inl ⟨bm, HP4.out⟩⟩, fun _ => ⟨bm, HP4.out⟩, HCF.out, HF4.out, HGF.out⟩ | exact ⟨rfl, F2, ⟨HT.out, .inl ⟨bm, HP4.out⟩⟩, fun _ => ⟨bm, HP4.out⟩, HCF.out, HF4.out, HGF.out⟩
  · have he : btc n ys = 1 := if_neg hok
    rw [he]
    have HE : Hid (rfE t (n, ys) = 1) := by show _ = _; unfold rfE; rw [if_pos hok]
    clear hok he
    go_wp2_with fail
    go_ret
    rw [HE.out]
    first | exact ⟨F, rfl, PT.below HP0.out HB12.out, fun e => absurd e (by decide), chg0 HB12.out, fun k hk => hk, fun k hk => .inl hk⟩ | exact ⟨rfl, F, PT.below HP0.out HB12.out, fun e => absurd e (by decide), chg0 HB12.out, fun k hk => hk, fun k hk => .inl hk⟩
end
end Go.Proofs.YthnajpckhoomgaaGreat
