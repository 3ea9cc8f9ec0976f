/- Why a batch is not taken. No conditions but on lengths. What is told now: the batches whose turn it is. No conditions but on lengths. The program's Take. No conditions but on lengths. A taker that is nil; the document's examples. No conditions. Rows of batches, of rows of objects, of numbers as arguments; whether batches are looked at; how many are held. No conditions. -/
import Derived.Test.YtfiaghfaijlfjaaGreatPb
import Derived.Test.YtfiaghfaijlfjaaGreatBm
import Derived.Test.YtfiaghfaijlfjaaGreatOth
import Derived.Test.YtfiaghfaijlfjaaGreatTyp4
import Derived.Test.YtfiaghfaijlfjaaGreatObf
import Derived.Test.YtfiaghfaijlfjaaGreatWit
namespace Go.Proofs.YtfiaghfaijlfjaaGreat
set_option maxRecDepth 100000
set_option linter.unusedVariables false
open Go.RowKit

open Go.Maps
theorem bel_undrew {w w' : World} (h : Below w.drew.heap.size w.drew w') : Below w.heap.size w w' := ⟨h.os, h.tape, h.output, h.size, h.block⟩
def rfE (t : Tk) (x : Bt) : Int :=
  if ¬ BtOk x.1 x.2 then 1 else if 32768 ≤ far t.nx x.1 then 10 else if 16 < far t.nx x.1 then 1 else if (findH t.H x.1).isSome = true then 9 else 0
theorem take_rf (t : Tk) (x : Bt) : (rfE t x = 0 → TkIn t x) ∧ (rfE t x ≠ 0 → takeR t x = (([], rfE t x), t)) := by
  unfold rfE takeR TkIn
  by_cases h1 : BtOk x.1 x.2
  · rw [if_neg (not_not_intro h1), if_neg (not_not_intro h1)]
    by_cases h2 : 32768 ≤ far t.nx x.1
    · rw [if_pos h2, if_pos h2]
      exact ⟨fun e => absurd e (by decide), fun _ => rfl⟩
    · rw [if_neg h2, if_neg h2]
      by_cases h3 : 16 < far t.nx x.1
      · rw [if_pos h3, if_pos h3]
        exact ⟨fun e => absurd e (by decide), fun _ => rfl⟩
      · rw [if_neg h3, if_neg h3]
        by_cases h4 : (findH t.H x.1).isSome = true
        · rw [if_pos h4, if_pos h4]
          exact ⟨fun e => absurd e (by decide), fun _ => rfl⟩
        · rw [if_neg h4, if_neg h4]
          refine ⟨fun _ => ⟨h1, by omega, ?_⟩, fun e => absurd rfl e⟩
          cases hf : findH t.H x.1 with
          | none => rfl
          | some y => rw [hf] at h4; exact absurd rfl h4
  · rw [if_pos h1, if_pos h1]
    exact ⟨fun e => absurd e (by decide), fun _ => rfl⟩
section
variable {w : World} {F : Nat → Prop} {b : Nat} {t : Tk}
set_option maxHeartbeats 4000000 in
theorem tref_any (n : Int) (v : Value) (ys : List Ob) (h : PT w F b t) (hv : Os w v ys) (hl : ys.length ≤ 3000) : Calls Tryz.prog 23 #[.pointer (some ⟨b, 0, none⟩), .agg #[.int .i64 n, v]] w fun e w' => ∃ F', e = .returned (.int .i64 (rfE t (n, ys))) ∧ PT w' F' b t ∧ (rfE t (n, ys) = 0 → ∃ bm, PTm w' F' b bm t) ∧ Chg F w w' ∧ (∀ k, F k → F' k) ∧ ∀ k, F' k → F k ∨ w.heap.size ≤ k := by
  obtain ⟨W1, hW1⟩ : ∃ W1, w.alloc (.cells #[.int .i64 n, v] 34) = W1 := ⟨_, rfl⟩
  obtain ⟨g0, hg0⟩ : ∃ g0, w.heap.size = g0 := ⟨_, rfl⟩
  have hb1 : Below w.heap.size w W1 := hW1 ▸ (Below.refl _ w).alloc (Nat.le_refl _) _
  have hov : v.oneCell' = true := by
    obtain ⟨a, c, rfl⟩ := hv.form
    rfl
  have hx0 : W1.cell? ⟨g0, 0, none⟩ = some (.int .i64 n) := by rw [← hW1, ← hg0]; simp
  have hx1 : W1.cell? ⟨g0, 1, none⟩ = some v := by rw [← hW1, ← hg0]; simp
  have hgl : g0 < W1.heap.size := World.block_lt_of_cell? W1 _ hx0
  have hp1 := h.below hb1
  have c0 := hp1.2.cN
  have hbl : b < W1.heap.size := World.block_lt_of_cell? W1 _ c0
  have CK := Lib.hid (pcheck_any n v ys W1 (hv.below hb1) hl)
  have HP0 := Lib.hid h
  have HB1 := Lib.hid hb1
  have HP1 := Lib.hid hp1
  have HW1 := Lib.hid hW1
  have HG0 := Lib.hid hg0
  have HX := Lib.hid (And.intro hx0 (And.intro c0 (And.intro hgl hbl)))
  have HT := Lib.hid h.1
  obtain ⟨aV, cV, hvf⟩ := hv.form
  subst hvf
  clear h hv hb1 hp1 hW1 hg0 c0 hgl hbl
  go_enter Tryz.func23, Tryz.ntmps23
  go_upto_region 1 with (fail)
  rw [HW1.out]
  try simp only [HG0.out]
  go_upto_region 2 with (go_at_call 49; refine CK.out.mono ?_; rintro e w2 ⟨rfl, hb2⟩; have HB2 := Lib.hid hb2; clear hx0 hx1 hb2)
  have HB12 : Hid (Below w.heap.size w w2) := HB1.out.trans (HB2.out.mono HB1.out.size)
  by_cases hok : BtOk n ys
  · have he : btc n ys = 0 := if_pos hok
    rw [he]
    have HOK := Lib.hid hok
    obtain ⟨q0, q1, ql0, ql1⟩ := HX.out
    have x0 := (HB2.out.cell (p := ⟨g0, 0, none⟩) ql0).trans q0
    have x1 := (HB2.out.cell (p := ⟨b, 0, none⟩) ql1).trans q1
    have HXX := Lib.hid (And.intro x0 x1)
    have HL0 := Lib.hid (And.intro ql0 ql1)
    clear q0 q1 ql0 ql1 he hok
    go_upto_region 4 with (fail)
    have kc : ∀ w', Below w2.heap.size w2 w' → w'.cell? ⟨g0, 0, none⟩ = some (.int .i64 n) ∧ w'.cell? ⟨b, 0, none⟩ = some (.int .i64 t.nx) := fun w' h => ⟨(h.cell (p := ⟨g0, 0, none⟩) (Nat.lt_of_lt_of_le HL0.out.1 HB2.out.size)).trans HXX.out.1, (h.cell (p := ⟨b, 0, none⟩) (Nat.lt_of_lt_of_le HL0.out.2 HB2.out.size)).trans HXX.out.2⟩
    refine wp_region_typed (C := fun w' => Below w2.heap.size w2 w') (X := fun w w' => Below w.heap.size w w') (n := 34) (by kernel_rfl) (by kernel_rfl) rfl (fun w => Below.refl _ w) (Below.refl _ _).drew ?_
    refine w_is (fun w => Below.refl _ w) _ (.inl rfl) (fun ρ w hC hc hfn hf => by have e0 : ρ (.tmp 0) = _ := hf 0 (by decide); (conv => lhs; simp [execOp, go_sem, hc, e0])) ?_
    refine w_is (fun w => Below.refl _ w) _ (.inl rfl) (fun ρ w hC hc hfn hf => by have e14 : ρ (.tmp 14) = _ := hf 14 (by decide); (conv => lhs; simp [execOp, go_sem, hc, e14])) ?_
    refine w_is (fun w => Below.refl _ w) _ (.inl rfl) (fun ρ w hC hc hfn hf => by have e15 : ρ (.tmp 15) = _ := hf 15 (by decide); (conv => lhs; simp [execOp, go_sem, hc, e15])) ?_
    refine w_is (fun w => Below.refl _ w) _ (.inl rfl) (fun ρ w hC hc hfn hf => by have e16 : ρ (.tmp 16) = _ := hf 16 (by decide); (conv => lhs; simp [execOp, go_sem, hc, e16, kc w hC])) ?_
    refine w_is (fun w => Below.refl _ w) _ (.inl rfl) (fun ρ w hC hc hfn hf => by have e3 : ρ (.tmp 3) = _ := hf 3 (by decide); (conv => lhs; simp [execOp, go_sem, hc, e3])) ?_
    refine w_is (fun w => Below.refl _ w) _ (.inl rfl) (fun ρ w hC hc hfn hf => by have e18 : ρ (.tmp 18) = _ := hf 18 (by decide); (conv => lhs; simp [execOp, go_sem, hc, e18, kc w hC])) ?_
    refine w_call (Is _) (fun _ _ _ h _ => h) 45 (.inl rfl) (fun ρ w hC hc hfn hf => by have e17 : ρ (.tmp 17) = _ := hf 17 (by decide); have e19 : ρ (.tmp 19) = _ := hf 19 (by decide); exact ⟨_, by (conv => lhs; simp [execOp, resolve, invoke, go_sem, hc, hfn, e17, e19]), (far_any t.nx n w).mono fun e w' h => ⟨_, h.1, hC.trans (h.2.mono hC.size), h.2, rfl⟩⟩) ?_
    refine w_is (fun w => Below.refl _ w) _ (.inl rfl) (fun ρ w hC hc hfn hf => by have e20 : ρ (.tmp 20) = _ := hf 20 (by decide); (conv => lhs; simp [execOp, go_sem, hc, e20])) ?_
    intro A W4 hC hn hd hf
    have y0 : A.eval (.tmp 0) = _ := Eq.trans (hf 0) (by conv => lhs; simp [go_sem])
    have y1 : A.eval (.tmp 1) = _ := Eq.trans (hf 1) (by conv => lhs; simp [go_sem])
    have y2 : A.eval (.tmp 2) = _ := Eq.trans (hf 2) (by conv => lhs; simp [go_sem])
    have y3 : A.eval (.tmp 3) = _ := Eq.trans (hf 3) (by conv => lhs; simp [go_sem])
    have y4 : A.eval (.tmp 4) = _ := Eq.trans (hf 4) (by conv => lhs; simp [go_sem])
    have y5 : A.eval (.tmp 5) = _ := Eq.trans (hf 5) (by conv => lhs; simp [go_sem])
    have y6 : A.eval (.tmp 6) = _ := hf 6
    have y7 : A.eval (.tmp 7) = _ := Eq.trans (hf 7) (by conv => lhs; simp [go_sem])
    have y8 : A.eval (.tmp 8) = _ := Eq.trans (hf 8) (by conv => lhs; simp [go_sem])
    have y9 : A.eval (.tmp 9) = _ := Eq.trans (hf 9) (by conv => lhs; simp [go_sem])
    have y10 : A.eval (.tmp 10) = _ := Eq.trans (hf 10) (by conv => lhs; simp [go_sem])
    have y11 : A.eval (.tmp 11) = _ := Eq.trans (hf 11) (by conv => lhs; simp [go_sem])
    have y12 : A.eval (.tmp 12) = _ := Eq.trans (hf 12) (by conv => lhs; simp [go_sem])
    have y13 : A.eval (.tmp 13) = _ := Eq.trans (hf 13) (by conv => lhs; simp [go_sem])
    have y14 : A.eval (.tmp 14) = _ := hf 14
    have y15 : A.eval (.tmp 15) = _ := hf 15
    have y16 : A.eval (.tmp 16) = _ := hf 16
    have y17 : A.eval (.tmp 17) = _ := hf 17
    have y18 : A.eval (.tmp 18) = _ := hf 18
    have y19 : A.eval (.tmp 19) = _ := hf 19
    have y20 : A.eval (.tmp 20) = _ := hf 20
    have y21 : A.eval (.tmp 21) = _ := Eq.trans (hf 21) (by conv => lhs; simp [go_sem])
    have y22 : A.eval (.tmp 22) = _ := Eq.trans (hf 22) (by conv => lhs; simp [go_sem])
    have y23 : A.eval (.tmp 23) = _ := Eq.trans (hf 23) (by conv => lhs; simp [go_sem])
    have y24 : A.eval (.tmp 24) = _ := Eq.trans (hf 24) (by conv => lhs; simp [go_sem])
    have y25 : A.eval (.tmp 25) = _ := Eq.trans (hf 25) (by conv => lhs; simp [go_sem])
    have y26 : A.eval (.tmp 26) = _ := Eq.trans (hf 26) (by conv => lhs; simp [go_sem])
    have y27 : A.eval (.tmp 27) = _ := Eq.trans (hf 27) (by conv => lhs; simp [go_sem])
    have y28 : A.eval (.tmp 28) = _ := Eq.trans (hf 28) (by conv => lhs; simp [go_sem])
    have y29 : A.eval (.tmp 29) = _ := Eq.trans (hf 29) (by conv => lhs; simp [go_sem])
    have y30 : A.eval (.tmp 30) = _ := Eq.trans (hf 30) (by conv => lhs; simp [go_sem])
    have y31 : A.eval (.tmp 31) = _ := Eq.trans (hf 31) (by conv => lhs; simp [go_sem])
    have y32 : A.eval (.tmp 32) = _ := Eq.trans (hf 32) (by conv => lhs; simp [go_sem])
    have y33 : A.eval (.tmp 33) = _ := Eq.trans (hf 33) (by conv => lhs; simp [go_sem])
    clear hf
    have hA := frame_eq hn
    rw [show List.range 34 = [0, 1, 2, 3, 4, 5, 6, 7, 8, 9, 10, 11, 12, 13, 14, 15, 16, 17, 18, 19, 20, 21, 22, 23, 24, 25, 26, 27, 28, 29, 30, 31, 32, 33] from rfl, hd] at hA
    simp only [List.map_cons, List.map_nil, y0, y1, y2, y3, y4, y5, y6, y7, y8, y9, y10, y11, y12, y13, y14, y15, y16, y17, y18, y19, y20, y21, y22, y23, y24, y25, y26, y27, y28, y29, y30, y31, y32, y33] at hA
    clear y0 y1 y2 y3 y4 y5 y6 y7 y8 y9 y10 y11 y12 y13 y14 y15 y16 y17 y18 y19 y20 y21 y22 y23 y24 y25 y26 y27 y28 y29 y30 y31 y32 y33
    clear hn hd
    subst hA
    have HB3 := Lib.hid hC
    clear kc hC x0 x1
    have o0 := (HB3.out.cell (p := ⟨g0, 0, none⟩) (Nat.lt_of_lt_of_le HL0.out.1 HB2.out.size)).trans HXX.out.1
    have o1 := (HB3.out.cell (p := ⟨b, 0, none⟩) (Nat.lt_of_lt_of_le HL0.out.2 HB2.out.size)).trans HXX.out.2
    have HB13 : Hid (Below w.heap.size w W4) := HB12.out.trans (HB3.out.mono HB12.out.size)
    have HO := Lib.hid (And.intro o0 o1)
    clear o0 o1
    obtain ⟨d, hd⟩ : ∃ d, far t.nx n = d := ⟨_, rfl⟩
    rw [hd]
    have HD := Lib.hid hd
    clear hd
    by_cases h2 : 32768 ≤ d
    · have HE : Hid (rfE t (n, ys) = 10) := by show _ = _; unfold rfE; rw [if_neg (not_not_intro HOK.out), if_pos (by rw [HD.out]; exact h2)]
      have hdd : decide (32768 ≤ d) = true := decide_eq_true h2
      go_wp2_with fail
      go_ret
      rw [HE.out]
      first | exact ⟨F, rfl, PT.below HP0.out HB13.out, fun e => absurd e (by decide), chg0 HB13.out, fun k hk => hk, fun k hk => .inl hk⟩ | exact ⟨rfl, F, PT.below HP0.out HB13.out, fun e => absurd e (by decide), chg0 HB13.out, fun k hk => hk, fun k hk => .inl hk⟩
    · have hdd : decide (32768 ≤ d) = false := decide_eq_false h2
      by_cases h3 : 16 < d
      · have HE : Hid (rfE t (n, ys) = 1) := by show _ = _; unfold rfE; rw [if_neg (not_not_intro HOK.out), if_neg (by rw [HD.out]; exact h2), if_pos (by rw [HD.out]; exact h3)]
        have hd3 : decide (16 < d) = true := decide_eq_true h3
        go_wp2_with fail
        go_ret
        rw [HE.out]
        first | exact ⟨F, rfl, PT.below HP0.out HB13.out, fun e => absurd e (by decide), chg0 HB13.out, fun k hk => hk, fun k hk => .inl hk⟩ | exact ⟨rfl, F, PT.below HP0.out HB13.out, fun e => absurd e (by decide), chg0 HB13.out, fun k hk => hk, fun k hk => .inl hk⟩
      · have hd3 : decide (16 < d) = false := decide_eq_false h3
        have HN2 := Lib.hid h2
        have HN3 := Lib.hid h3
        have CM := Lib.hid (hold_pt (HP0.out.below HB13.out).drew)
        have y0 := HO.out.1
        clear h2 h3
        go_upto_region 9 with (fail)
        clear hdd hd3
        go_region_with (go_at_call 25; refine CM.out.mono ?_; rintro e w4 ⟨bm, F2, rfl, hp, hc, hF, hF2⟩; have o0 := (hc.cell (Nat.lt_of_lt_of_le HL0.out.1 (Nat.le_trans HB2.out.size HB3.out.size)) (fun hf => by have := HP0.out.2.lt _ hf; have := HG0.out; omega)).trans y0; obtain ⟨lv, hlook, hspec⟩ := hp.look HOK.out.1; have HP4 := Lib.hid hp; have HC4 := Lib.hid hc; have HF4 := Lib.hid hF; have HG4 := Lib.hid hF2; have HSP := Lib.hid hspec; clear hp hc hF hF2 hspec)
        all_goals
          have HCF : Hid (Chg F w w4) := (((chg0 HB13.out).drew).trans (G := F) HC4.out (fun _ _ h => h))
          have HGF : Hid (∀ k, F2 k → F k ∨ w.heap.size ≤ k) := fun k hk => (HG4.out k hk).imp (fun h => h) (fun h => Nat.le_trans HB13.out.size h)
          clear y0 o0 CM
          obtain ⟨q, hq⟩ : ∃ q, (findH t.H n).isSome = q := ⟨_, rfl⟩
          have HQ := Lib.hid hq
          try simp only [hq]
          clear hq hlook
          cases q with
          | true =>
            have HE : Hid (rfE t (n, ys) = 9) := by show _ = _; unfold rfE; rw [if_neg (not_not_intro HOK.out), if_neg (by rw [HD.out]; have := HN2.out; omega), if_neg (by rw [HD.out]; have := HN3.out; omega), if_pos HQ.out]
            go_wp2_with fail
            go_ret
            rw [HE.out]
            first | exact ⟨F2, rfl, ⟨HT.out, .inl ⟨bm, HP4.out⟩⟩, fun e => absurd e (by decide), HCF.out, HF4.out, HGF.out⟩ | exact ⟨rfl, F2, ⟨HT.out, .inl ⟨bm, HP4.out⟩⟩, fun e => absurd e (by decide), HCF.out, HF4.out, HGF.out⟩
          | false =>
            have HE : Hid (rfE t (n, ys) = 0) := by show _ = _; unfold rfE; rw [if_neg (not_not_intro HOK.out), if_neg (by rw [HD.out]; have := HN2.out; omega), if_neg (by rw [HD.out]; have := HN3.out; omega), if_neg (by rw [HQ.out]; decide)]
            go_wp2_with fail
            go_ret
            rw [HE.out]
            first | exact ⟨F2, rfl, ⟨HT.out, .inl ⟨bm, HP4.out⟩⟩, fun _ => ⟨bm, HP4.out⟩, HCF.out, HF4.out, HGF.out⟩ | exact ⟨rfl, F2, ⟨HT.out, .inl ⟨bm, HP4.out⟩⟩, fun _ => ⟨bm, HP4.out⟩, HCF.out, HF4.out, HGF.out⟩
  · have he : btc n ys = 1 := if_neg hok
    rw [he]
    have HE : Hid (rfE t (n, ys) = 1) := by show _ = _; unfold rfE; rw [if_pos hok]
    clear hok he
    go_wp2_with fail
    go_ret
    rw [HE.out]
    first | exact ⟨F, rfl, PT.below HP0.out HB12.out, fun e => absurd e (by decide), chg0 HB12.out, fun k hk => hk, fun k hk => .inl hk⟩ | exact ⟨rfl, F, PT.below HP0.out HB12.out, fun e => absurd e (by decide), chg0 HB12.out, fun k hk => hk, fun k hk => .inl hk⟩
end
end Go.Proofs.YtfiaghfaijlfjaaGreat

namespace Go.Proofs.YtfiaghfaijlfjaaGreat
set_option maxRecDepth 100000
set_option linter.unusedVariables false
open Go.RowKit

open Go.Maps
def LkOk (w : World) (F : Nat → Prop) (b bm : Nat) (t : Tk) (v : Value) : Prop :=
  (findH t.H t.nx = none ∧ v = .slice none 0 0) ∨ ∃ x g c, findH t.H t.nx = some x ∧ v = .slice (some ⟨g, 0, none⟩) x.2.length c ∧ Os w v x.2 ∧ F g ∧ g ≠ b ∧ g ≠ bm
theorem LkOk.below {w w' : World} {F : Nat → Prop} {b bm : Nat} {t : Tk} {v : Value} (h : LkOk w F b bm t v) (hb : Below w.heap.size w w') : LkOk w' F b bm t v :=
  h.imp (fun h => h) (fun ⟨x, g, c, h1, h2, h3, h4⟩ => ⟨x, g, c, h1, h2, h3.below hb, h4⟩)
theorem runT_none {t : Tk} (h : findH t.H t.nx = none) : ∀ f, runT f t = ([], t)
  | 0 => rfl
  | f + 1 => by simp only [runT, h]
theorem runT_some {t : Tk} {x : Bt} (h : findH t.H t.nx = some x) (nd : (nums t.H).Nodup) : runT t.H.length t = (x.2 ++ (runT (dropH t.H t.nx).length ⟨nxt t.nx, dropH t.H t.nx⟩).1, (runT (dropH t.H t.nx).length ⟨nxt t.nx, dropH t.H t.nx⟩).2) := by
  have h1 := dropH_len h nd
  rw [← h1]
  simp only [runT, h]
def lenS : Value → Nat
  | .slice _ n _ => n
  | _ => 0
section
variable {w : World} {F : Nat → Prop} {b bm : Nat} {t : Tk}
/-- What is looked up, the same as long as nothing turns. -/
theorem PTm.looks (h : PTm w F b bm t) (hn : 0 ≤ t.nx ∧ t.nx ≤ 65535) : ∃ v, (∀ w', Below w.heap.size w w' → (Instr.lookup 75 (.map (some bm)) (.int .i64 t.nx) true).run Tryz.prog w' = .ok (.tuple #[v, .bool (findH t.H t.nx).isSome]) w') ∧ LkOk w F b bm t v := by
  obtain ⟨D, h1, h2⟩ := h.m
  have hl := h.lt bm h.fm
  have go : ∀ w', Below w.heap.size w w' → ∃ v ps, (Instr.lookup 75 (.map (some bm)) (.int .i64 t.nx) true).run Tryz.prog w' = .ok (.tuple #[v, .bool (findH t.H t.nx).isSome]) w' ∧ sliceElem v = some (D.atKey (.int .i64 t.nx) .nil, ps) := fun w' hb => by
    obtain ⟨v, ps, hrun, hv⟩ := World.ownsMap.look_ok (h1.chg (F := fun _ => False) (chg0 hb) (fun g => g)) lawI underMP (zeroS w') (zd := .nil) (zp := []) rfl (keyI hn)
    rw [h2.has] at hrun
    exact ⟨v, ps, hrun, hv⟩
  cases hf : findH t.H t.nx with
  | none =>
    refine ⟨.slice none 0 0, fun w' hb => ?_, .inl ⟨hf, rfl⟩⟩
    obtain ⟨v, ps, hrun, hv⟩ := go w' hb
    rw [atKey_of_not_has (by rw [h2.has, hf]; rfl)] at hv
    rw [hf, sliceElem_nil hv] at hrun
    exact hrun
  | some x =>
    obtain ⟨hx, hxn⟩ := findH_some hf
    obtain ⟨g, c, k1, k2, k3⟩ := h2.at_ x hx
    refine ⟨.slice (some ⟨g, 0, none⟩) x.2.length c, fun w' hb => ?_, .inr ⟨x, g, c, hf, rfl, k2, k3⟩⟩
    obtain ⟨v, ps, hrun, hv⟩ := go w' hb
    rw [← hxn, k1] at hv
    rw [hf, sliceElem_inv hv] at hrun
    exact hrun
set_option maxHeartbeats 8000000 in
theorem tturns_any (h : PTm w F b bm t) (hm : TkMid t) (hl : t.H.length ≤ 17) : Calls Tryz.prog 26 #[.pointer (some ⟨b, 0, none⟩)] w fun e w' => ∃ r, e = .returned r ∧ OwO w' w.heap.size r (runT t.H.length t).1 ∧ PTm w' F b bm (runT t.H.length t).2 ∧ Chg F w w' := by
  have HPX := Lib.hid h
  have HM := Lib.hid hm
  have HL := Lib.hid hl
  have HFL : Hid (∀ k, F k → k < w.heap.size) := h.lt
  have kc : ∀ w', Below w.heap.size w w' → w'.cell? ⟨b, 0, none⟩ = some (.int .i64 t.nx) := fun w' hb => (h.below hb).q.cN
  obtain ⟨lv, hlook, hspec⟩ := h.looks hm.nx
  have HSP := Lib.hid hspec
  clear h hm hl hspec
  go_enter Tryz.func26, Tryz.ntmps26
  go_upto_region 2 with (fail)
  refine wp_region_typed (C := fun w' => Below w.heap.size w w') (X := fun w w' => Below w.heap.size w w') (n := 45) (by kernel_rfl) (by kernel_rfl) rfl (fun w => Below.refl _ w) (Below.refl _ _).drew ?_
  refine w_is (fun w => Below.refl _ w) _ (.inl rfl) (fun ρ w hC hc hfn hf => by have e0 : ρ (.tmp 0) = _ := hf 0 (by decide); (conv => lhs; simp [execOp, go_sem, hc, e0])) ?_
  refine w_call (Is _) (fun _ _ _ h _ => h) 25 (.inl rfl) (fun ρ w hC hc hfn hf => by have e7 : ρ (.tmp 7) = _ := hf 7 (by decide); exact ⟨_, by (conv => lhs; simp [execOp, resolve, invoke, go_sem, hc, hfn, e7]), (hold_m (HPX.out.below hC)).mono fun e w' h => ⟨_, h.1, hC.trans (h.2.mono hC.size), h.2, rfl⟩⟩) ?_
  refine w_is (fun w => Below.refl _ w) _ (.inl rfl) (fun ρ w hC hc hfn hf => by have e0 : ρ (.tmp 0) = _ := hf 0 (by decide); (conv => lhs; simp [execOp, go_sem, hc, e0])) ?_
  refine w_is (fun w => Below.refl _ w) _ (.inl rfl) (fun ρ w hC hc hfn hf => by have e9 : ρ (.tmp 9) = _ := hf 9 (by decide); (conv => lhs; simp [execOp, go_sem, hc, e9])) ?_
  refine w_is (fun w => Below.refl _ w) _ (.inl rfl) (fun ρ w hC hc hfn hf => by have e10 : ρ (.tmp 10) = _ := hf 10 (by decide); (conv => lhs; simp [execOp, go_sem, hc, e10])) ?_
  refine w_is (fun w => Below.refl _ w) _ (.inl rfl) (fun ρ w hC hc hfn hf => by have e11 : ρ (.tmp 11) = _ := hf 11 (by decide); (conv => lhs; simp [execOp, go_sem, hc, e11, kc w hC])) ?_
  refine w_is (fun w => Below.refl _ w) _ (.inl rfl) (fun ρ w hC hc hfn hf => by have e8 : ρ (.tmp 8) = _ := hf 8 (by decide); have e12 : ρ (.tmp 12) = _ := hf 12 (by decide); (conv => lhs; simp [execOp, go_sem, hc, e8, e12, hlook w hC])) ?_
  refine w_is (fun w => Below.refl _ w) _ (.inl rfl) (fun ρ w hC hc hfn hf => by have e13 : ρ (.tmp 13) = _ := hf 13 (by decide); (conv => lhs; simp [execOp, go_sem, hc, e13])) ?_
  refine w_is (fun w => Below.refl _ w) _ (.inl rfl) (fun ρ w hC hc hfn hf => by have e6 : ρ (.tmp 6) = _ := hf 6 (by decide); (conv => lhs; simp [execOp, go_sem, hc, e6])) ?_
  refine w_is (fun w => Below.refl _ w) _ (.inl rfl) (fun ρ w hC hc hfn hf => by have e6 : ρ (.tmp 6) = _ := hf 6 (by decide); (conv => lhs; simp [execOp, go_sem, hc, e6])) ?_
  refine w_is (fun w => Below.refl _ w) _ (.inl rfl) (fun ρ w hC hc hfn hf => by have e14 : ρ (.tmp 14) = _ := hf 14 (by decide); (conv => lhs; simp [execOp, go_sem, hc, e14])) ?_
  refine w_is (fun w => Below.refl _ w) _ (.inl rfl) (fun ρ w hC hc hfn hf => by have e15 : ρ (.tmp 15) = _ := hf 15 (by decide); (conv => lhs; simp [execOp, go_sem, hc, e15])) ?_
  intro A W4 hC hn hd hf
  have y0 : A.eval (.tmp 0) = _ := Eq.trans (hf 0) (by conv => lhs; simp [go_sem])
  have y1 : A.eval (.tmp 1) = _ := Eq.trans (hf 1) (by conv => lhs; simp [go_sem])
  have y2 : A.eval (.tmp 2) = _ := Eq.trans (hf 2) (by conv => lhs; simp [go_sem])
  have y3 : A.eval (.tmp 3) = _ := Eq.trans (hf 3) (by conv => lhs; simp [go_sem])
  have y4 : A.eval (.tmp 4) = _ := hf 4
  have y5 : A.eval (.tmp 5) = _ := hf 5
  have y6 : A.eval (.tmp 6) = _ := hf 6
  have y7 : A.eval (.tmp 7) = _ := hf 7
  have y8 : A.eval (.tmp 8) = _ := hf 8
  have y9 : A.eval (.tmp 9) = _ := hf 9
  have y10 : A.eval (.tmp 10) = _ := hf 10
  have y11 : A.eval (.tmp 11) = _ := hf 11
  have y12 : A.eval (.tmp 12) = _ := hf 12
  have y13 : A.eval (.tmp 13) = _ := hf 13
  have y14 : A.eval (.tmp 14) = _ := hf 14
  have y15 : A.eval (.tmp 15) = _ := hf 15
  have y16 : A.eval (.tmp 16) = _ := Eq.trans (hf 16) (by conv => lhs; simp [go_sem])
  have y17 : A.eval (.tmp 17) = _ := Eq.trans (hf 17) (by conv => lhs; simp [go_sem])
  have y18 : A.eval (.tmp 18) = _ := Eq.trans (hf 18) (by conv => lhs; simp [go_sem])
  have y19 : A.eval (.tmp 19) = _ := Eq.trans (hf 19) (by conv => lhs; simp [go_sem])
  have y20 : A.eval (.tmp 20) = _ := Eq.trans (hf 20) (by conv => lhs; simp [go_sem])
  have y21 : A.eval (.tmp 21) = _ := Eq.trans (hf 21) (by conv => lhs; simp [go_sem])
  have y22 : A.eval (.tmp 22) = _ := Eq.trans (hf 22) (by conv => lhs; simp [go_sem])
  have y23 : A.eval (.tmp 23) = _ := Eq.trans (hf 23) (by conv => lhs; simp [go_sem])
  have y24 : A.eval (.tmp 24) = _ := Eq.trans (hf 24) (by conv => lhs; simp [go_sem])
  have y25 : A.eval (.tmp 25) = _ := Eq.trans (hf 25) (by conv => lhs; simp [go_sem])
  have y26 : A.eval (.tmp 26) = _ := Eq.trans (hf 26) (by conv => lhs; simp [go_sem])
  have y27 : A.eval (.tmp 27) = _ := Eq.trans (hf 27) (by conv => lhs; simp [go_sem])
  have y28 : A.eval (.tmp 28) = _ := Eq.trans (hf 28) (by conv => lhs; simp [go_sem])
  have y29 : A.eval (.tmp 29) = _ := Eq.trans (hf 29) (by conv => lhs; simp [go_sem])
  have y30 : A.eval (.tmp 30) = _ := Eq.trans (hf 30) (by conv => lhs; simp [go_sem])
  have y31 : A.eval (.tmp 31) = _ := Eq.trans (hf 31) (by conv => lhs; simp [go_sem])
  have y32 : A.eval (.tmp 32) = _ := Eq.trans (hf 32) (by conv => lhs; simp [go_sem])
  have y33 : A.eval (.tmp 33) = _ := Eq.trans (hf 33) (by conv => lhs; simp [go_sem])
  have y34 : A.eval (.tmp 34) = _ := Eq.trans (hf 34) (by conv => lhs; simp [go_sem])
  have y35 : A.eval (.tmp 35) = _ := Eq.trans (hf 35) (by conv => lhs; simp [go_sem])
  have y36 : A.eval (.tmp 36) = _ := Eq.trans (hf 36) (by conv => lhs; simp [go_sem])
  have y37 : A.eval (.tmp 37) = _ := Eq.trans (hf 37) (by conv => lhs; simp [go_sem])
  have y38 : A.eval (.tmp 38) = _ := Eq.trans (hf 38) (by conv => lhs; simp [go_sem])
  have y39 : A.eval (.tmp 39) = _ := Eq.trans (hf 39) (by conv => lhs; simp [go_sem])
  have y40 : A.eval (.tmp 40) = _ := Eq.trans (hf 40) (by conv => lhs; simp [go_sem])
  have y41 : A.eval (.tmp 41) = _ := Eq.trans (hf 41) (by conv => lhs; simp [go_sem])
  have y42 : A.eval (.tmp 42) = _ := Eq.trans (hf 42) (by conv => lhs; simp [go_sem])
  have y43 : A.eval (.tmp 43) = _ := Eq.trans (hf 43) (by conv => lhs; simp [go_sem])
  have y44 : A.eval (.tmp 44) = _ := Eq.trans (hf 44) (by conv => lhs; simp [go_sem])
  clear hf
  have hA := frame_eq hn
  rw [show List.range 45 = [0, 1, 2, 3, 4, 5, 6, 7, 8, 9, 10, 11, 12, 13, 14, 15, 16, 17, 18, 19, 20, 21, 22, 23, 24, 25, 26, 27, 28, 29, 30, 31, 32, 33, 34, 35, 36, 37, 38, 39, 40, 41, 42, 43, 44] from rfl, hd] at hA
  simp only [List.map_cons, List.map_nil, y0, y1, y2, y3, y4, y5, y6, y7, y8, y9, y10, y11, y12, y13, y14, y15, y16, y17, y18, y19, y20, y21, y22, y23, y24, y25, y26, y27, y28, y29, y30, y31, y32, y33, y34, y35, y36, y37, y38, y39, y40, y41, y42, y43, y44] at hA
  clear y0 y1 y2 y3 y4 y5 y6 y7 y8 y9 y10 y11 y12 y13 y14 y15 y16 y17 y18 y19 y20 y21 y22 y23 y24 y25 y26 y27 y28 y29 y30 y31 y32 y33 y34 y35 y36 y37 y38 y39 y40 y41 y42 y43 y44
  clear hn hd
  subst hA
  have HB2 := Lib.hid hC
  have HP2 := Lib.hid (HPX.out.below hC)
  have HS2 := Lib.hid (HSP.out.below hC)
  clear hlook kc hC
  go_wp2_with fail
  go_loopw [3, 4, 5] (fun tv lv qv wr => ∃ (t' : Tk) (acc : List Ob) (a : Option Addr) (c : Nat), tv = .slice a acc.length c ∧ qv = .bool (findH t'.H t'.nx).isSome ∧ Hid (PTm wr F b bm t') ∧ Hid (TkMid t') ∧ Hid (runT t.H.length t = (acc ++ (runT t'.H.length t').1, (runT t'.H.length t').2)) ∧ Hid (LkOk wr F b bm t' lv) ∧ Hid (OwO wr w.heap.size (.slice a acc.length c) acc) ∧ Hid (Chg F w wr) ∧ Hid (acc.length + 32 * t'.H.length ≤ 544)) (fun tv _ _ _ => 600 - lenS tv)
  case atStart => exact ⟨t, [], none, 0, rfl, rfl, HP2.out, HM.out, by show _ = _; rw [List.nil_append], HS2.out, OwO_nil _ _, chg0 HB2.out, by have := HL.out; show _ ≤ _; simp; omega⟩
  case round =>
    obtain ⟨t', acc, a, c, rfl, rfl, HP3, HM2, HR, HLV, HO, HC, HN⟩ := hrel
    clear HP2 HS2 HB2 HPX HSP
    rcases HLV.out with ⟨hf, hv⟩ | ⟨x, g, cx, hf, hv, hox, hFg, hgb, hgm⟩
    · have HF := Lib.hid hf
      have hq : (findH t'.H t'.nx).isSome = false := by rw [hf]; rfl
      try simp only [hq]
      subst hv
      clear hf hq
      go_wp2_with fail
      go_ret
      have hr := HR.out
      rw [runT_none HF.out, List.append_nil] at hr
      rw [hr]
      exact ⟨_, rfl, HO.out, HP3.out, HC.out⟩
    · have hq : (findH t'.H t'.nx).isSome = true := by rw [hf]; rfl
      try simp only [hq]
      have hxm := (findH_some hf).1
      have hbk := HM2.out.ok x hxm
      have hxl : x.2.length ≤ 32 ∧ 1 ≤ x.2.length := ⟨hbk.2.1.2, hbk.2.1.1⟩
      have hdl := dropH_len hf HM2.out.nd
      have HRS := Lib.hid (runT_some hf HM2.out.nd)
      have hnn := HN.out
      obtain ⟨r5, w5, hr5, ho5, hg5, hb5⟩ := run_gappo wr 29 w.heap.size _ acc HO.out (.slice (some ⟨g, 0, none⟩) x.2.length cx) x.2 (hv ▸ hox) (by omega) HC.out.size
      have hown : ∀ k, (Value.slice a acc.length c).ownBlock = some k → w.heap.size ≤ k := fun k hk => (World.ownsRow.lt HO.out k hk).1
      have hc5 : Chg (fun k => w.heap.size ≤ k) wr w5 := (Chg.refl _ wr).grown hg5 (fun k hk => .inl (hown k hk))
      have HP5 := Lib.hid (HP3.out.keep hc5 (fun k hk h => by have := HFL.out k hk; have h' : w.heap.size ≤ k := h; omega))
      have HC5 : Hid (Chg F w w5) := HC.out.trans hc5 (fun k hk h => by have h' : w.heap.size ≤ k := h; omega)
      obtain ⟨a5, c5, rfl⟩ := own_form ho5
      have HO5 := Lib.hid ho5
      obtain ⟨acc2, ha2⟩ : ∃ acc2, acc ++ x.2 = acc2 := ⟨_, rfl⟩
      rw [ha2] at hr5 HO5
      have HA2 : Hid (acc2.length = acc.length + x.2.length ∧ acc ++ x.2 = acc2) := ⟨by rw [← ha2, List.length_append], ha2⟩
      have HNM := Lib.hid (And.intro hxl (And.intro hdl hnn))
      have HF := Lib.hid hf
      subst hv
      clear hq hxm hbk hxl hdl hnn ho5 hg5 hb5 hown hc5 hox hFg hgb hgm ha2 hf
      go_upto_region 6 with (at_builtin; refine app_go rfl (.tmp 27) (.tmp 28) 29 rfl _ _ _ _ rfl rfl hr5 ?_)
      clear hr5
      have kc6 : ∀ w', Below w5.heap.size w5 w' → w'.cell? ⟨b, 0, none⟩ = some (.int .i64 t'.nx) := fun w' hb => (HP5.out.below hb).q.cN
      refine T3.wp_region_tail (C := fun w' => Below w5.heap.size w5 w') (X := fun _ w w' => Below w.heap.size w w') (n := 45) 6 (by kernel_rfl) (by kernel_rfl) (by kernel_rfl) (by kernel_rfl) rfl (fun _ w => Below.refl _ w) (Below.refl _ _).drew ?_
      simp only [List.take_succ_cons, List.take_zero, List.drop_succ_cons, List.drop_zero]
      refine T3.w_is (fun _ w => Below.refl _ w) rfl _ (.inl rfl) (fun ρ w hC hc hfn hf => by have e0 : ρ (.tmp 0) = _ := hf 0 (by decide); (conv => lhs; simp [execOp, go_sem, hc, e0])) ?_
      refine T3.w_call rfl (Is _) (fun _ _ _ _ _ h _ => h) 25 (.inl rfl) (fun ρ w hC hc hfn hf => by have e30 : ρ (.tmp 30) = _ := hf 30 (by decide); exact ⟨_, by (conv => lhs; simp [execOp, resolve, invoke, go_sem, hc, hfn, e30]), (hold_m (HP5.out.below hC)).mono fun e w' h => ⟨_, h.1, hC.trans (h.2.mono hC.size), h.2, rfl⟩⟩) ?_
      refine T3.w_is (fun _ w => Below.refl _ w) rfl _ (.inl rfl) (fun ρ w hC hc hfn hf => by have e0 : ρ (.tmp 0) = _ := hf 0 (by decide); (conv => lhs; simp [execOp, go_sem, hc, e0])) ?_
      refine T3.w_is (fun _ w => Below.refl _ w) rfl _ (.inl rfl) (fun ρ w hC hc hfn hf => by have e32 : ρ (.tmp 32) = _ := hf 32 (by decide); (conv => lhs; simp [execOp, go_sem, hc, e32])) ?_
      refine T3.w_is (fun _ w => Below.refl _ w) rfl _ (.inl rfl) (fun ρ w hC hc hfn hf => by have e33 : ρ (.tmp 33) = _ := hf 33 (by decide); (conv => lhs; simp [execOp, go_sem, hc, e33])) ?_
      refine T3.w_is (fun _ w => Below.refl _ w) rfl _ (.inl rfl) (fun ρ w hC hc hfn hf => by have e34 : ρ (.tmp 34) = _ := hf 34 (by decide); (conv => lhs; simp [execOp, go_sem, hc, e34, kc6 w hC])) ?_
      intro A V6 hC hn hd hf
      have y0 : A.eval (.tmp 0) = _ := Eq.trans (hf 0) (by conv => lhs; simp [go_sem])
      have y1 : A.eval (.tmp 1) = _ := Eq.trans (hf 1) (by conv => lhs; simp [go_sem])
      have y2 : A.eval (.tmp 2) = _ := Eq.trans (hf 2) (by conv => lhs; simp [go_sem])
      have y3 : A.eval (.tmp 3) = _ := Eq.trans (hf 3) (by conv => lhs; simp [go_sem])
      have y4 : A.eval (.tmp 4) = _ := Eq.trans (hf 4) (by conv => lhs; simp [go_sem])
      have y5 : A.eval (.tmp 5) = _ := Eq.trans (hf 5) (by conv => lhs; simp [go_sem])
      have y6 : A.eval (.tmp 6) = _ := Eq.trans (hf 6) (by conv => lhs; simp [go_sem])
      have y7 : A.eval (.tmp 7) = _ := Eq.trans (hf 7) (by conv => lhs; simp [go_sem])
      have y8 : A.eval (.tmp 8) = _ := Eq.trans (hf 8) (by conv => lhs; simp [go_sem])
      have y9 : A.eval (.tmp 9) = _ := Eq.trans (hf 9) (by conv => lhs; simp [go_sem])
      have y10 : A.eval (.tmp 10) = _ := Eq.trans (hf 10) (by conv => lhs; simp [go_sem])
      have y11 : A.eval (.tmp 11) = _ := Eq.trans (hf 11) (by conv => lhs; simp [go_sem])
      have y12 : A.eval (.tmp 12) = _ := Eq.trans (hf 12) (by conv => lhs; simp [go_sem])
      have y13 : A.eval (.tmp 13) = _ := Eq.trans (hf 13) (by conv => lhs; simp [go_sem])
      have y14 : A.eval (.tmp 14) = _ := Eq.trans (hf 14) (by conv => lhs; simp [go_sem])
      have y15 : A.eval (.tmp 15) = _ := Eq.trans (hf 15) (by conv => lhs; simp [go_sem])
      have y16 : A.eval (.tmp 16) = _ := Eq.trans (hf 16) (by conv => lhs; simp [go_sem])
      have y17 : A.eval (.tmp 17) = _ := Eq.trans (hf 17) (by conv => lhs; simp [go_sem])
      have y18 : A.eval (.tmp 18) = _ := Eq.trans (hf 18) (by conv => lhs; simp [go_sem])
      have y19 : A.eval (.tmp 19) = _ := Eq.trans (hf 19) (by conv => lhs; simp [go_sem])
      have y20 : A.eval (.tmp 20) = _ := Eq.trans (hf 20) (by conv => lhs; simp [go_sem])
      have y21 : A.eval (.tmp 21) = _ := Eq.trans (hf 21) (by conv => lhs; simp [go_sem])
      have y22 : A.eval (.tmp 22) = _ := Eq.trans (hf 22) (by conv => lhs; simp [go_sem])
      have y23 : A.eval (.tmp 23) = _ := Eq.trans (hf 23) (by conv => lhs; simp [go_sem])
      have y24 : A.eval (.tmp 24) = _ := Eq.trans (hf 24) (by conv => lhs; simp [go_sem])
      have y25 : A.eval (.tmp 25) = _ := Eq.trans (hf 25) (by conv => lhs; simp [go_sem])
      have y26 : A.eval (.tmp 26) = _ := Eq.trans (hf 26) (by conv => lhs; simp [go_sem])
      have y27 : A.eval (.tmp 27) = _ := Eq.trans (hf 27) (by conv => lhs; simp [go_sem])
      have y28 : A.eval (.tmp 28) = _ := Eq.trans (hf 28) (by conv => lhs; simp [go_sem])
      have y29 : A.eval (.tmp 29) = _ := Eq.trans (hf 29) (by conv => lhs; simp [go_sem])
      have y30 : A.eval (.tmp 30) = _ := hf 30
      have y31 : A.eval (.tmp 31) = _ := hf 31
      have y32 : A.eval (.tmp 32) = _ := hf 32
      have y33 : A.eval (.tmp 33) = _ := hf 33
      have y34 : A.eval (.tmp 34) = _ := hf 34
      have y35 : A.eval (.tmp 35) = _ := hf 35
      have y36 : A.eval (.tmp 36) = _ := Eq.trans (hf 36) (by conv => lhs; simp [go_sem])
      have y37 : A.eval (.tmp 37) = _ := Eq.trans (hf 37) (by conv => lhs; simp [go_sem])
      have y38 : A.eval (.tmp 38) = _ := Eq.trans (hf 38) (by conv => lhs; simp [go_sem])
      have y39 : A.eval (.tmp 39) = _ := Eq.trans (hf 39) (by conv => lhs; simp [go_sem])
      have y40 : A.eval (.tmp 40) = _ := Eq.trans (hf 40) (by conv => lhs; simp [go_sem])
      have y41 : A.eval (.tmp 41) = _ := Eq.trans (hf 41) (by conv => lhs; simp [go_sem])
      have y42 : A.eval (.tmp 42) = _ := Eq.trans (hf 42) (by conv => lhs; simp [go_sem])
      have y43 : A.eval (.tmp 43) = _ := Eq.trans (hf 43) (by conv => lhs; simp [go_sem])
      have y44 : A.eval (.tmp 44) = _ := Eq.trans (hf 44) (by conv => lhs; simp [go_sem])
      clear hf
      have hA := frame_eq hn
      rw [show List.range 45 = [0, 1, 2, 3, 4, 5, 6, 7, 8, 9, 10, 11, 12, 13, 14, 15, 16, 17, 18, 19, 20, 21, 22, 23, 24, 25, 26, 27, 28, 29, 30, 31, 32, 33, 34, 35, 36, 37, 38, 39, 40, 41, 42, 43, 44] from rfl, hd] at hA
      simp only [List.map_cons, List.map_nil, y0, y1, y2, y3, y4, y5, y6, y7, y8, y9, y10, y11, y12, y13, y14, y15, y16, y17, y18, y19, y20, y21, y22, y23, y24, y25, y26, y27, y28, y29, y30, y31, y32, y33, y34, y35, y36, y37, y38, y39, y40, y41, y42, y43, y44] at hA
      clear y0 y1 y2 y3 y4 y5 y6 y7 y8 y9 y10 y11 y12 y13 y14 y15 y16 y17 y18 y19 y20 y21 y22 y23 y24 y25 y26 y27 y28 y29 y30 y31 y32 y33 y34 y35 y36 y37 y38 y39 y40 y41 y42 y43 y44
      clear hn hd
      subst hA
      have HP6 := Lib.hid (HP5.out.below hC)
      have HC6 : Hid (Chg F w V6) := HC5.out.trans (G := fun _ => False) (chg0 hC) (fun _ _ e => e.elim)
      have HO6 := Lib.hid (HO5.out.below hC)
      obtain ⟨w7, hdel, hp7, hc7⟩ := HP6.out.drop (ty := 0) HM2.out.nx HF.out HM2.out.nd
      have hbmF : F bm := HP6.out.fm
      have hbmw := HFL.out bm hbmF
      have HP7 := Lib.hid hp7
      have HC7 : Hid (Chg F w w7) := HC6.out.trans hc7 (fun k _ e => by rw [show k = bm from e]; exact hbmF)
      have HO7 : Hid (OwO w7 w.heap.size (.slice a5 acc2.length c5) acc2) := own_chg HO6.out hc7 (fun k hk e => by have h1 := (World.ownsRow.lt HO6.out k hk).1; have h2 : k = bm := e; omega)
      clear kc6 hC hp7 hc7 hbmF hbmw
      have c7 := HP7.out.q.cN
      go_upto_region 7 with (fail)
      clear hdel
      have hzn : z_nxt t'.nx = nxt t'.nx := by unfold z_nxt nxt; omega
      have hfin8 : ∀ w8, Below w7.heap.size w7 w8 → w8.cell? ⟨b, 0, none⟩ = some (.int .i64 t'.nx) ∧ (∀ j, w8.frozen? ⟨b, j, none⟩ = false) := fun w8 h8 => ⟨(HP7.out.below h8).q.cN, (HP7.out.below h8).q.fz⟩
      have HF8 := Lib.hid hfin8
      have HZN := Lib.hid hzn
      clear hfin8 hzn
      go_upto_region 4 with (go_at_call 52; refine (z_next_any t'.nx _).mono ?_; rintro e w8 ⟨rfl, hb8⟩; obtain ⟨c8, f8⟩ := HF8.out w8 hb8; have HB8 := Lib.hid hb8; clear hb8 c7)
      have HP9' := (HP7.out.below HB8.out).next (z_nxt t'.nx)
      have hc9 := chg_pt w8 b 0 (.int .i64 (z_nxt t'.nx))
      have hbw := HFL.out b HP7.out.fb
      have HO9 : Hid (OwO (w8.setCell ⟨b, 0, none⟩ (.int .i64 (z_nxt t'.nx))) w.heap.size (.slice a5 acc2.length c5) acc2) := own_chg (HO7.out.below HB8.out) hc9 (fun k hk e => by have h1 := (World.ownsRow.lt HO7.out k hk).1; have h2 : k = b := e; omega)
      have HC9 : Hid (Chg F w (w8.setCell ⟨b, 0, none⟩ (.int .i64 (z_nxt t'.nx)))) := (HC7.out.trans (G := fun _ => False) (chg0 HB8.out) (fun _ _ e => e.elim)).trans hc9 (fun k _ e => by rw [show k = b from e]; exact HP7.out.fb)
      have HP9 := Lib.hid HP9'
      clear HP9' hc9 hbw c8 f8
      obtain ⟨w9, hw9⟩ : ∃ w9, w8.setCell ⟨b, 0, none⟩ (.int .i64 (z_nxt t'.nx)) = w9 := ⟨_, rfl⟩
      rw [hw9] at HP9 HC9 HO9
      rw [hw9]
      have HM9 : Hid (TkMid ⟨z_nxt t'.nx, dropH t'.H t'.nx⟩) := by have h9 := mid_step HM2.out HF.out; rw [← HZN.out] at h9; exact h9
      have kc9 : ∀ w', Below w9.heap.size w9 w' → w'.cell? ⟨b, 0, none⟩ = some (.int .i64 (z_nxt t'.nx)) := fun w' hb => (HP9.out.below hb).q.cN
      obtain ⟨lv9, hlook9, hspec9⟩ := HP9.out.looks HM9.out.nx
      simp only at hlook9
      have HSP9 := Lib.hid hspec9
      clear hspec9 hw9
      refine wp_region_typed (C := fun w' => Below w9.heap.size w9 w') (X := fun w w' => Below w.heap.size w w') (n := 45) (by kernel_rfl) (by kernel_rfl) rfl (fun w => Below.refl _ w) (Below.refl _ _).drew ?_
      refine w_is (fun w => Below.refl _ w) _ (.inl rfl) (fun ρ w hC hc hfn hf => by have e0 : ρ (.tmp 0) = _ := hf 0 (by decide); (conv => lhs; simp [execOp, go_sem, hc, e0])) ?_
      refine w_call (Is _) (fun _ _ _ h _ => h) 25 (.inl rfl) (fun ρ w hC hc hfn hf => by have e18 : ρ (.tmp 18) = _ := hf 18 (by decide); exact ⟨_, by (conv => lhs; simp [execOp, resolve, invoke, go_sem, hc, hfn, e18]), (hold_m (HP9.out.below hC)).mono fun e w' h => ⟨_, h.1, hC.trans (h.2.mono hC.size), h.2, rfl⟩⟩) ?_
      refine w_is (fun w => Below.refl _ w) _ (.inl rfl) (fun ρ w hC hc hfn hf => by have e0 : ρ (.tmp 0) = _ := hf 0 (by decide); (conv => lhs; simp [execOp, go_sem, hc, e0])) ?_
      refine w_is (fun w => Below.refl _ w) _ (.inl rfl) (fun ρ w hC hc hfn hf => by have e20 : ρ (.tmp 20) = _ := hf 20 (by decide); (conv => lhs; simp [execOp, go_sem, hc, e20])) ?_
      refine w_is (fun w => Below.refl _ w) _ (.inl rfl) (fun ρ w hC hc hfn hf => by have e21 : ρ (.tmp 21) = _ := hf 21 (by decide); (conv => lhs; simp [execOp, go_sem, hc, e21])) ?_
      refine w_is (fun w => Below.refl _ w) _ (.inl rfl) (fun ρ w hC hc hfn hf => by have e22 : ρ (.tmp 22) = _ := hf 22 (by decide); (conv => lhs; simp [execOp, go_sem, hc, e22, kc9 w hC])) ?_
      refine w_is (fun w => Below.refl _ w) _ (.inl rfl) (fun ρ w hC hc hfn hf => by have e19 : ρ (.tmp 19) = _ := hf 19 (by decide); have e23 : ρ (.tmp 23) = _ := hf 23 (by decide); (conv => lhs; simp [execOp, go_sem, hc, e19, e23, hlook9 w hC])) ?_
      refine w_is (fun w => Below.refl _ w) _ (.inl rfl) (fun ρ w hC hc hfn hf => by have e24 : ρ (.tmp 24) = _ := hf 24 (by decide); (conv => lhs; simp [execOp, go_sem, hc, e24])) ?_
      refine w_is (fun w => Below.refl _ w) _ (.inl rfl) (fun ρ w hC hc hfn hf => by have e17 : ρ (.tmp 17) = _ := hf 17 (by decide); (conv => lhs; simp [execOp, go_sem, hc, e17])) ?_
      refine w_is (fun w => Below.refl _ w) _ (.inl rfl) (fun ρ w hC hc hfn hf => by have e17 : ρ (.tmp 17) = _ := hf 17 (by decide); (conv => lhs; simp [execOp, go_sem, hc, e17])) ?_
      refine w_is (fun w => Below.refl _ w) _ (.inl rfl) (fun ρ w hC hc hfn hf => by have e25 : ρ (.tmp 25) = _ := hf 25 (by decide); (conv => lhs; simp [execOp, go_sem, hc, e25])) ?_
      refine w_is (fun w => Below.refl _ w) _ (.inl rfl) (fun ρ w hC hc hfn hf => by have e26 : ρ (.tmp 26) = _ := hf 26 (by decide); (conv => lhs; simp [execOp, go_sem, hc, e26])) ?_
      intro A W4 hC hn hd hf
      have y0 : A.eval (.tmp 0) = _ := Eq.trans (hf 0) (by conv => lhs; simp [go_sem])
      have y1 : A.eval (.tmp 1) = _ := Eq.trans (hf 1) (by conv => lhs; simp [go_sem])
      have y2 : A.eval (.tmp 2) = _ := Eq.trans (hf 2) (by conv => lhs; simp [go_sem])
      have y3 : A.eval (.tmp 3) = _ := Eq.trans (hf 3) (by conv => lhs; simp [go_sem])
      have y4 : A.eval (.tmp 4) = _ := hf 4
      have y5 : A.eval (.tmp 5) = _ := hf 5
      have y6 : A.eval (.tmp 6) = _ := Eq.trans (hf 6) (by conv => lhs; simp [go_sem])
      have y7 : A.eval (.tmp 7) = _ := Eq.trans (hf 7) (by conv => lhs; simp [go_sem])
      have y8 : A.eval (.tmp 8) = _ := Eq.trans (hf 8) (by conv => lhs; simp [go_sem])
      have y9 : A.eval (.tmp 9) = _ := Eq.trans (hf 9) (by conv => lhs; simp [go_sem])
      have y10 : A.eval (.tmp 10) = _ := Eq.trans (hf 10) (by conv => lhs; simp [go_sem])
      have y11 : A.eval (.tmp 11) = _ := Eq.trans (hf 11) (by conv => lhs; simp [go_sem])
      have y12 : A.eval (.tmp 12) = _ := Eq.trans (hf 12) (by conv => lhs; simp [go_sem])
      have y13 : A.eval (.tmp 13) = _ := Eq.trans (hf 13) (by conv => lhs; simp [go_sem])
      have y14 : A.eval (.tmp 14) = _ := Eq.trans (hf 14) (by conv => lhs; simp [go_sem])
      have y15 : A.eval (.tmp 15) = _ := Eq.trans (hf 15) (by conv => lhs; simp [go_sem])
      have y16 : A.eval (.tmp 16) = _ := Eq.trans (hf 16) (by conv => lhs; simp [go_sem])
      have y17 : A.eval (.tmp 17) = _ := hf 17
      have y18 : A.eval (.tmp 18) = _ := hf 18
      have y19 : A.eval (.tmp 19) = _ := hf 19
      have y20 : A.eval (.tmp 20) = _ := hf 20
      have y21 : A.eval (.tmp 21) = _ := hf 21
      have y22 : A.eval (.tmp 22) = _ := hf 22
      have y23 : A.eval (.tmp 23) = _ := hf 23
      have y24 : A.eval (.tmp 24) = _ := hf 24
      have y25 : A.eval (.tmp 25) = _ := hf 25
      have y26 : A.eval (.tmp 26) = _ := hf 26
      have y27 : A.eval (.tmp 27) = _ := Eq.trans (hf 27) (by conv => lhs; simp [go_sem])
      have y28 : A.eval (.tmp 28) = _ := Eq.trans (hf 28) (by conv => lhs; simp [go_sem])
      have y29 : A.eval (.tmp 29) = _ := Eq.trans (hf 29) (by conv => lhs; simp [go_sem])
      have y30 : A.eval (.tmp 30) = _ := Eq.trans (hf 30) (by conv => lhs; simp [go_sem])
      have y31 : A.eval (.tmp 31) = _ := Eq.trans (hf 31) (by conv => lhs; simp [go_sem])
      have y32 : A.eval (.tmp 32) = _ := Eq.trans (hf 32) (by conv => lhs; simp [go_sem])
      have y33 : A.eval (.tmp 33) = _ := Eq.trans (hf 33) (by conv => lhs; simp [go_sem])
      have y34 : A.eval (.tmp 34) = _ := Eq.trans (hf 34) (by conv => lhs; simp [go_sem])
      have y35 : A.eval (.tmp 35) = _ := Eq.trans (hf 35) (by conv => lhs; simp [go_sem])
      have y36 : A.eval (.tmp 36) = _ := Eq.trans (hf 36) (by conv => lhs; simp [go_sem])
      have y37 : A.eval (.tmp 37) = _ := Eq.trans (hf 37) (by conv => lhs; simp [go_sem])
      have y38 : A.eval (.tmp 38) = _ := Eq.trans (hf 38) (by conv => lhs; simp [go_sem])
      have y39 : A.eval (.tmp 39) = _ := Eq.trans (hf 39) (by conv => lhs; simp [go_sem])
      have y40 : A.eval (.tmp 40) = _ := Eq.trans (hf 40) (by conv => lhs; simp [go_sem])
      have y41 : A.eval (.tmp 41) = _ := Eq.trans (hf 41) (by conv => lhs; simp [go_sem])
      have y42 : A.eval (.tmp 42) = _ := Eq.trans (hf 42) (by conv => lhs; simp [go_sem])
      have y43 : A.eval (.tmp 43) = _ := Eq.trans (hf 43) (by conv => lhs; simp [go_sem])
      have y44 : A.eval (.tmp 44) = _ := Eq.trans (hf 44) (by conv => lhs; simp [go_sem])
      clear hf
      have hA := frame_eq hn
      rw [show List.range 45 = [0, 1, 2, 3, 4, 5, 6, 7, 8, 9, 10, 11, 12, 13, 14, 15, 16, 17, 18, 19, 20, 21, 22, 23, 24, 25, 26, 27, 28, 29, 30, 31, 32, 33, 34, 35, 36, 37, 38, 39, 40, 41, 42, 43, 44] from rfl, hd] at hA
      simp only [List.map_cons, List.map_nil, y0, y1, y2, y3, y4, y5, y6, y7, y8, y9, y10, y11, y12, y13, y14, y15, y16, y17, y18, y19, y20, y21, y22, y23, y24, y25, y26, y27, y28, y29, y30, y31, y32, y33, y34, y35, y36, y37, y38, y39, y40, y41, y42, y43, y44] at hA
      clear y0 y1 y2 y3 y4 y5 y6 y7 y8 y9 y10 y11 y12 y13 y14 y15 y16 y17 y18 y19 y20 y21 y22 y23 y24 y25 y26 y27 y28 y29 y30 y31 y32 y33 y34 y35 y36 y37 y38 y39 y40 y41 y42 y43 y44
      clear hn hd
      subst hA
      have HPE := Lib.hid (HP9.out.below hC)
      have HSE := Lib.hid (HSP9.out.below hC)
      have HOE := Lib.hid (HO9.out.below hC)
      have HCE : Hid (Chg F w W4) := HC9.out.trans (G := fun _ => False) (chg0 hC) (fun _ _ e => e.elim)
      clear hlook9 kc9 hC
      go_wp2_with fail
      go_roundw
      case rel =>
        obtain ⟨⟨hx1, hx2⟩, hdl, hnn⟩ := HNM.out
        refine ⟨⟨z_nxt t'.nx, dropH t'.H t'.nx⟩, acc2, a5, c5, rfl, rfl, HPE.out, HM9.out, ?_, HSE.out, HOE.out, HCE.out, ?_⟩
        · show _ = _
          rw [HR.out, HRS.out, ← HA2.out.2, HZN.out, List.append_assoc]
        · show acc2.length + 32 * (dropH t'.H t'.nx).length ≤ 544
          have := HA2.out.1
          omega
      case measure =>
        obtain ⟨⟨hx1, hx2⟩, hdl, hnn⟩ := HNM.out
        have := HA2.out.1
        simp only [lenS]
        omega
end
end Go.Proofs.YtfiaghfaijlfjaaGreat

namespace Go.Proofs.YtfiaghfaijlfjaaGreat
set_option maxRecDepth 100000
set_option linter.unusedVariables false
open Go.RowKit

open Go.Maps
/-- Objects of one's own that lie in no block of F. -/
def OwN1 (w : World) (S : Nat) (F : Nat → Prop) (v : Value) (ys : List Ob) : Prop := OwO w S v ys ∧ ∀ g, v.ownBlock = some g → ¬ F g
theorem own_some {w : World} {S : Nat} {a : Option Addr} {c : Nat} {ys : List Ob} (h : OwO w S (.slice a ys.length c) ys) (hn : 1 ≤ ys.length) : ∃ g, a = some ⟨g, 0, none⟩ ∧ S ≤ g ∧ g < w.heap.size := by
  rcases h.2 with ⟨h1, h2⟩ | ⟨g, cap, cur, hv, _⟩
  · omega
  · simp only [Value.slice.injEq] at hv
    obtain ⟨rfl, -, rfl⟩ := hv
    obtain ⟨h1, h2⟩ := World.ownsRow.lt h g rfl
    exact ⟨g, rfl, h1, h2⟩
section
variable {w : World} {F : Nat → Prop} {b : Nat} {t : Tk}
set_option maxHeartbeats 8000000 in
theorem ttake_any (n : Int) (v : Value) (ys : List Ob) (h : PT w F b t) (hv : Os w v ys) (hoff : ∀ a n c, v = .slice (some a) n c → ys ≠ [] → ¬ F a.block) (hl : ys.length ≤ 3000) : Calls Tryz.prog 7 #[.pointer (some ⟨b, 0, none⟩), .agg #[.int .i64 n, v]] w fun e w' => ∃ r F', e = .returned (.tuple #[r, .int .i64 (takeR t (n, ys)).1.2]) ∧ PT w' F' b (takeR t (n, ys)).2 ∧ Chg F w w' ∧ (∀ k, F k → F' k) ∧ (∀ k, F' k → F k ∨ w.heap.size ≤ k) ∧ OwN1 w' w.heap.size F' r (takeR t (n, ys)).1.1 := by
  obtain ⟨W1, hW1⟩ : ∃ W1, w.alloc (.cells #[.int .i64 n, v] 34) = W1 := ⟨_, rfl⟩
  obtain ⟨g0, hg0⟩ : ∃ g0, w.heap.size = g0 := ⟨_, rfl⟩
  have hb1 : Below w.heap.size w W1 := hW1 ▸ (Below.refl _ w).alloc (Nat.le_refl _) _
  have hov : v.oneCell' = true := by
    obtain ⟨a, c, rfl⟩ := hv.form
    rfl
  have hx0 : W1.cell? ⟨g0, 0, none⟩ = some (.int .i64 n) := by rw [← hW1, ← hg0]; simp
  have hx1 : W1.cell? ⟨g0, 1, none⟩ = some v := by rw [← hW1, ← hg0]; simp
  have hgl : g0 < W1.heap.size := World.block_lt_of_cell? W1 _ hx0
  have CR := Lib.hid (tref_any n v ys (h.below hb1) (hv.below hb1) hl)
  have HNF : Hid (¬ F g0) := fun hk => by have := h.2.lt _ hk; omega
  have HV1 := Lib.hid (hv.below hb1)
  have HL := Lib.hid hl
  have HP0 := Lib.hid h
  have HB1 := Lib.hid hb1
  have HW1 := Lib.hid hW1
  have HG0 := Lib.hid hg0
  have HOFF := Lib.hid hoff
  have HX := Lib.hid (And.intro hx0 (And.intro hx1 hgl))
  obtain ⟨aV, cV, hvf⟩ := hv.form
  subst hvf
  clear h hv hb1 hW1 hg0 hgl hoff hl
  go_enter Tryz.func7, Tryz.ntmps7
  go_upto_region 3 with (fail)
  rw [HW1.out]
  try simp only [HG0.out]
  go_upto_region 4 with (go_at_call 23; refine CR.out.mono ?_; rintro e w2 ⟨F2, rfl, hp, hp0, hc, hF, hF2⟩; have HP2' := Lib.hid hp; have HPZ := Lib.hid hp0; have HC2 := Lib.hid hc; have HF2 := Lib.hid hF; have HG2 := Lib.hid hF2; clear hp hp0 hc hF hF2 hx0 hx1)
  have HCC : Hid (Chg F w w2) := (chg0 HB1.out).trans HC2.out (fun _ _ h => h)
  have HGG : Hid (∀ k, F2 k → F k ∨ w.heap.size ≤ k) := fun k hk => (HG2.out k hk).imp (fun h => h) (fun h => Nat.le_trans HB1.out.size h)
  obtain ⟨e0, he0⟩ : ∃ e0, rfE t (n, ys) = e0 := ⟨_, rfl⟩
  have HTR := Lib.hid (take_rf t (n, ys))
  rw [he0] at HTR HPZ
  try simp only [he0]
  have HE0 := Lib.hid he0
  clear he0 CR
  by_cases hz : e0 = 0
  · subst hz
    obtain ⟨bm, hpm⟩ := HPZ.out rfl
    have HP2 := Lib.hid hpm
    have HIN := Lib.hid (HTR.out.1 rfl)
    have HV2 : Hid (Os w2 (.slice aV ys.length cV) ys) := HV1.out.chg HC2.out (fun a n c e hn => HOFF.out a n c e hn)
    have kc6 : ∀ w', Below w2.heap.size w2 w' → w'.cell? ⟨g0, 0, none⟩ = some (.int .i64 n) ∧ w'.cell? ⟨g0, 1, none⟩ = some (.slice aV ys.length cV) := fun w' hb => by
      obtain ⟨q0, q1, q2⟩ := HX.out
      have hs := HC2.out.size
      exact ⟨(hb.cell (p := ⟨g0, 0, none⟩) (Nat.lt_of_lt_of_le q2 hs)).trans ((HC2.out.cell q2 HNF.out).trans q0), (hb.cell (p := ⟨g0, 1, none⟩) (Nat.lt_of_lt_of_le q2 hs)).trans ((HC2.out.cell q2 HNF.out).trans q1)⟩
    clear hpm HP2'
    go_upto_region 6 with (fail)
    refine T3.wp_region_tail (C := fun w' => Below w2.heap.size w2 w') (X := fun _ w w' => Below w.heap.size w w') (n := 24) 7 (by kernel_rfl) (by kernel_rfl) (by kernel_rfl) (by kernel_rfl) rfl (fun _ w => Below.refl _ w) (Below.refl _ _).drew ?_
    simp only [List.take_succ_cons, List.take_zero, List.drop_succ_cons, List.drop_zero]
    refine T3.w_is (fun _ w => Below.refl _ w) rfl _ (.inl rfl) (fun ρ w hC hc hfn hf => by have e0 : ρ (.tmp 0) = _ := hf 0 (by decide); (conv => lhs; simp [execOp, go_sem, hc, e0])) ?_
    refine T3.w_call rfl (Is _) (fun _ _ _ _ _ h _ => h) 25 (.inl rfl) (fun ρ w hC hc hfn hf => by have e15 : ρ (.tmp 15) = _ := hf 15 (by decide); exact ⟨_, by (conv => lhs; simp [execOp, resolve, invoke, go_sem, hc, hfn, e15]), (hold_m (HP2.out.below hC)).mono fun e w' h => ⟨_, h.1, hC.trans (h.2.mono hC.size), h.2, rfl⟩⟩) ?_
    refine T3.w_is (fun _ w => Below.refl _ w) rfl _ (.inl rfl) (fun ρ w hC hc hfn hf => by have e3 : ρ (.tmp 3) = _ := hf 3 (by decide); (conv => lhs; simp [execOp, go_sem, hc, e3])) ?_
    refine T3.w_is (fun _ w => Below.refl _ w) rfl _ (.inl rfl) (fun ρ w hC hc hfn hf => by have e17 : ρ (.tmp 17) = _ := hf 17 (by decide); (conv => lhs; simp [execOp, go_sem, hc, e17, kc6 w hC])) ?_
    refine T3.w_is (fun _ w => Below.refl _ w) rfl _ (.inl rfl) (fun ρ w hC hc hfn hf => by have e3 : ρ (.tmp 3) = _ := hf 3 (by decide); (conv => lhs; simp [execOp, go_sem, hc, e3])) ?_
    refine T3.w_is (fun _ w => Below.refl _ w) rfl _ (.inl rfl) (fun ρ w hC hc hfn hf => by have e19 : ρ (.tmp 19) = _ := hf 19 (by decide); (conv => lhs; simp [execOp, go_sem, hc, e19, kc6 w hC])) ?_
    refine T3.w_call rfl (NewCl w2 ys) (NewCl.keeps w2 _ 6) 24 (.inl rfl) (fun ρ w hC hc hfn hf => by have e20 : ρ (.tmp 20) = _ := hf 20 (by decide); exact ⟨_, by (conv => lhs; simp [execOp, resolve, invoke, go_sem, hc, hfn, e20]), (oclone_any (.slice aV ys.length cV) ys w (HV2.out.below hC) HL.out).mono fun e w' h => by obtain ⟨⟨a, c, h1, h2⟩, h3⟩ := h; exact ⟨_, h1, hC.trans (h3.mono hC.size), h3, ⟨a, c, rfl, h2.mono0 hC.size⟩⟩⟩) ?_
    intro A V5 hC hn hd hf
    obtain ⟨a2, c2, y21, ho⟩ := (show (NewCl w2 ys) (A.eval (.tmp 21)) V5 from hf 21)
    have y0 : A.eval (.tmp 0) = _ := Eq.trans (hf 0) (by conv => lhs; simp [go_sem])
    have y1 : A.eval (.tmp 1) = _ := Eq.trans (hf 1) (by conv => lhs; simp [go_sem])
    have y2 : A.eval (.tmp 2) = _ := Eq.trans (hf 2) (by conv => lhs; simp [go_sem])
    have y3 : A.eval (.tmp 3) = _ := Eq.trans (hf 3) (by conv => lhs; simp [go_sem])
    have y4 : A.eval (.tmp 4) = _ := Eq.trans (hf 4) (by conv => lhs; simp [go_sem])
    have y5 : A.eval (.tmp 5) = _ := Eq.trans (hf 5) (by conv => lhs; simp [go_sem])
    have y6 : A.eval (.tmp 6) = _ := Eq.trans (hf 6) (by conv => lhs; simp [go_sem])
    have y7 : A.eval (.tmp 7) = _ := Eq.trans (hf 7) (by conv => lhs; simp [go_sem])
    have y8 : A.eval (.tmp 8) = _ := Eq.trans (hf 8) (by conv => lhs; simp [go_sem])
    have y9 : A.eval (.tmp 9) = _ := Eq.trans (hf 9) (by conv => lhs; simp [go_sem])
    have y10 : A.eval (.tmp 10) = _ := Eq.trans (hf 10) (by conv => lhs; simp [go_sem])
    have y11 : A.eval (.tmp 11) = _ := Eq.trans (hf 11) (by conv => lhs; simp [go_sem])
    have y12 : A.eval (.tmp 12) = _ := Eq.trans (hf 12) (by conv => lhs; simp [go_sem])
    have y13 : A.eval (.tmp 13) = _ := Eq.trans (hf 13) (by conv => lhs; simp [go_sem])
    have y14 : A.eval (.tmp 14) = _ := Eq.trans (hf 14) (by conv => lhs; simp [go_sem])
    have y15 : A.eval (.tmp 15) = _ := hf 15
    have y16 : A.eval (.tmp 16) = _ := hf 16
    have y17 : A.eval (.tmp 17) = _ := hf 17
    have y18 : A.eval (.tmp 18) = _ := hf 18
    have y19 : A.eval (.tmp 19) = _ := hf 19
    have y20 : A.eval (.tmp 20) = _ := hf 20
    have y22 : A.eval (.tmp 22) = _ := Eq.trans (hf 22) (by conv => lhs; simp [go_sem])
    have y23 : A.eval (.tmp 23) = _ := Eq.trans (hf 23) (by conv => lhs; simp [go_sem])
    clear hf
    have hA := frame_eq hn
    rw [show List.range 24 = [0, 1, 2, 3, 4, 5, 6, 7, 8, 9, 10, 11, 12, 13, 14, 15, 16, 17, 18, 19, 20, 21, 22, 23] from rfl, hd] at hA
    simp only [List.map_cons, List.map_nil, y0, y1, y2, y3, y4, y5, y6, y7, y8, y9, y10, y11, y12, y13, y14, y15, y16, y17, y18, y19, y20, y21, y22, y23] at hA
    clear y0 y1 y2 y3 y4 y5 y6 y7 y8 y9 y10 y11 y12 y13 y14 y15 y16 y17 y18 y19 y20 y21 y22 y23
    clear hn hd
    subst hA
    have hyl : 1 ≤ ys.length := HIN.out.1.2.1.1
    obtain ⟨g, rfl, hg1, hg2⟩ := own_some ho hyl
    have hfl := HP2.out.lt
    have hsz := hC.size
    have hpm := (HP2.out.below hC).mono (F' := fun k => F2 k ∨ k = g) (fun k hk => .inl hk) (fun k hk => hk.elim (fun h => by have := hfl k h; omega) (fun e => by rw [show k = g from e]; exact hg2))
    have hgb : g ≠ b := fun e => by have := hfl b HP2.out.fb; omega
    have hgm : g ≠ bm := fun e => by have := hfl bm HP2.out.fm; omega
    obtain ⟨w6, hst, hp6, hc6⟩ := hpm.store HIN.out.1.1 HIN.out.2.2 (by have := held_le HP0.out.1; omega) ho.os (.inr rfl) hgb hgm
    have HM6 := Lib.hid (mid_in HP0.out.1 HIN.out)
    have hll : (t.H ++ [(n, ys)]).length = t.H.length + 1 := by rw [List.length_append]; rfl
    have CT := tturns_any hp6 HM6.out (by have := held_le HP0.out.1; rw [hll]; omega)
    have hti := take_in HIN.out
    simp only [hll] at CT
    have HC6 : Hid (Chg F w w6) := (HCC.out.trans (G := fun _ => False) (chg0 hC) (fun _ _ e => e.elim)).trans hc6 (fun k hk e => by rw [show k = bm from e]; exact (HGG.out bm HP2.out.fm).elim (fun h => h) (fun h => by have h' : k = bm := e; omega))
    have HG6 : Hid (∀ k, (F2 k ∨ k = g) → F k ∨ w.heap.size ≤ k) := fun k hk => hk.elim (HGG.out k) (fun e => .inr (by have := HCC.out.size; rw [show k = g from e]; omega))
    have HCT := Lib.hid CT
    have HTI := Lib.hid hti
    have HS6 : Hid (w.heap.size ≤ w6.heap.size) := HC6.out.size
    have HL6 : Hid (∀ k, (F2 k ∨ k = g) → k < w6.heap.size) := hp6.lt
    have HTK := Lib.hid (tkok_take HP0.out.1 (n, ys))
    clear hyl hg1 hg2 hfl hsz hpm hgb hgm hp6 hc6 hll CT hti ho hC kc6
    go_wp2_with (go_at_call 26; refine HCT.out.mono ?_; rintro e w7 ⟨r, rfl, ho7, hp7, hc7⟩; have HO7 := Lib.hid ho7; have HP7 := Lib.hid hp7; have HC7 := Lib.hid hc7; clear ho7 hp7 hc7)
    have HOF : Hid (OwN1 w7 w.heap.size (fun k => F2 k ∨ k = g) r (takeR t (n, ys)).1.1) := by
      rw [HTI.out]
      exact ⟨gown_mono HO7.out HS6.out, fun k hk hf => by have h1 := (World.ownsRow.lt HO7.out k hk).1; have h2 := HL6.out k hf; omega⟩
    have HPF : Hid (PT w7 (fun k => F2 k ∨ k = g) b (takeR t (n, ys)).2) := ⟨HTK.out, .inl ⟨bm, by rw [HTI.out]; exact HP7.out⟩⟩
    have HCF : Hid (Chg F w w7) := HC6.out.trans HC7.out (fun k hk h => (HG6.out k h).elim (fun h => h) (fun h => by omega))
    have HEF : Hid ((takeR t (n, ys)).1.2 = 0) := by rw [HTI.out]; rfl
    exact bodyPost_ret (v := .tuple #[r, .int .i64 0]) (by simp [results, Tryz.results7, go_sem]) rfl ⟨r, _, by rw [HEF.out], HPF.out, HCF.out, fun k hk => .inl (HF2.out k hk), HG6.out, HOF.out⟩
  · have hr := HTR.out.2 hz
    have hne : (e0 != 0) = true := bne_iff_ne.2 hz
    have HR := Lib.hid hr
    have hd : (e0 == 0) = false := beq_false_of_ne hz
    clear hr
    go_wp2_with fail
    have HPE : Hid (PT w2 F2 b (takeR t (n, ys)).2) := by rw [HR.out]; exact HP2'.out
    have HVE : Hid ((takeR t (n, ys)).1.2 = e0 ∧ (takeR t (n, ys)).1.1 = []) := by rw [HR.out]; exact ⟨rfl, rfl⟩
    exact bodyPost_ret (v := .tuple #[.slice none 0 0, .int .i64 e0]) (by simp [results, Tryz.results7, go_sem]) rfl ⟨_, F2, by rw [HVE.out.1], HPE.out, HCC.out, HF2.out, HGG.out, by rw [HVE.out.2]; exact ⟨OwO_nil _ _, fun g hg => by cases hg⟩⟩
end
end Go.Proofs.YtfiaghfaijlfjaaGreat

namespace Go.Proofs.YtfiaghfaijlfjaaGreat
set_option maxRecDepth 100000
set_option linter.unusedVariables false
open Go.RowKit

open Go.Maps
theorem tniltake (n : Int) (v : Value) (hv : v.oneCell' = true) (w : World) : Calls Tryz.prog 7 #[.pointer none, .agg #[.int .i64 n, v]] w fun e w' => e = .returned (.tuple #[.slice none 0 0, .int .i64 3]) ∧ Below w.heap.size w w' := by
  obtain ⟨W1, hW1⟩ : ∃ W1, w.alloc (.cells #[.int .i64 n, v] 34) = W1 := ⟨_, rfl⟩
  have HB : Hid (Below w.heap.size w W1) := hW1 ▸ (Below.refl _ w).alloc (Nat.le_refl _) _
  have HW := Lib.hid hW1
  clear hW1
  go_enter Tryz.func7, Tryz.ntmps7
  go_upto_region 1 with (fail)
  rw [HW.out]
  go_wp2_with fail
  exact bodyPost_ret (v := .tuple #[.slice none 0 0, .int .i64 3]) (by simp [results, Tryz.results7, go_sem]) rfl ⟨rfl, HB.out⟩
theorem tnilheld (w : World) : Calls Tryz.prog 13 #[.pointer none] w fun e w' => e = .returned (.slice none 0 0) ∧ Below w.heap.size w w' := by
  go_enter Tryz.func13, Tryz.ntmps13
  go_wp2_with fail
  go_ret
  exact ⟨rfl, Below.refl _ _⟩
theorem tnilack (w : World) : Calls Tryz.prog 10 #[.pointer none] w fun e w' => e = .returned (.agg #[.int .i64 0, .int .i64 0, .int .i64 0, .int .i64 0]) ∧ Below w.heap.size w w' := by
  obtain ⟨W1, hW1⟩ : ∃ W1, w.alloc (.cells #[.int .i64 0, .int .i64 0, .int .i64 0, .int .i64 0] 37) = W1 := ⟨_, rfl⟩
  obtain ⟨g0, hg0⟩ : ∃ g0, w.heap.size = g0 := ⟨_, rfl⟩
  have HB : Hid (Below w.heap.size w W1) := hW1 ▸ (Below.refl _ w).alloc (Nat.le_refl _) _
  have hr : OwnA W1 g0 (0, 0, 0, 0) := hg0 ▸ hW1 ▸ owna_alloc w 0 0 0 0 37 w.heap.size rfl
  have HS := Lib.hid (OwnA.set hr 0 0 0 0)
  have HBF : Hid (Below w.heap.size w (put4 W1 g0 0 0 0 0)) := bel_put4 HB.out (by omega) 0 0 0 0
  have HW := Lib.hid hW1
  have HG := Lib.hid hg0
  obtain ⟨⟨r0, r1, r2, r3⟩, rf⟩ := hr
  clear hW1 hg0
  go_enter Tryz.func10, Tryz.ntmps10
  go_upto_region 1 with (fail)
  rw [HW.out]
  try simp only [HG.out]
  go_wp2_with fail
  obtain ⟨s0_, s1_, s2_, s3_⟩ := HS.out.1
  have HBF' := HBF.out
  simp only [put4] at s0_ s1_ s2_ s3_ HBF'
  generalize (((W1.setCell ⟨g0, 0, none⟩ (.int .i64 0)).setCell ⟨g0, 1, none⟩ (.int .i64 0)).setCell ⟨g0, 2, none⟩ (.int .i64 0)).setCell ⟨g0, 3, none⟩ (.int .i64 0) = W5 at *
  exact bodyPost_ret (v := .agg #[.int .i64 0, .int .i64 0, .int .i64 0, .int .i64 0]) (by simp [results, Tryz.results10, go_sem, s0_, s1_, s2_, s3_]) rfl ⟨rfl, HBF'⟩
/-- A request. -/
def qry (d : Int) : Ob := ⟨1, d, false, 0, 0, 0, 0, 0, 0, 0, 0, 0⟩
theorem tk_1 : takeR tk0 (1, [qry 6]) = (([], 0), ⟨0, [(1, [qry 6])]⟩) := by rfl
theorem tk_2 : takeR ⟨0, [(1, [qry 6])]⟩ (0, [qry 5]) = (([qry 5, qry 6], 0), ⟨2, []⟩) := by rfl
theorem tk_3 : takeR ⟨2, []⟩ (0, [qry 5]) = (([], 10), ⟨2, []⟩) := by rfl
theorem tk_4 : mk 0 (srt 0 (nums [(1, [qry 6])])) 16 = 1 := by rw [← rsrt_srt]; decide
theorem tk_5 : mk 2 (srt 2 (nums [])) 16 = 0 := by rw [← rsrt_srt]; decide
set_option maxHeartbeats 4000000 in
theorem one_any (n d : Int) (w : World) : Calls Tryz.prog 37 #[.int .i64 n, .int .i64 d] w fun e w' => ∃ g, e = .returned (.agg #[.int .i64 n, .slice (some ⟨g, 0, none⟩) 1 1]) ∧ Below w.heap.size w w' ∧ w.heap.size ≤ g ∧ Os w' (.slice (some ⟨g, 0, none⟩) 1 1) [qry d] := by
  go_enter Tryz.func37, Tryz.ntmps37
  go_wp2_with fail
  have hc : ∀ j, j < 12 → (((w.alloc (.cells #[.int .i64 n, .slice (some ⟨w.heap.size + 1, 0, none⟩) 1 1] 34)).alloc (.cells #[.int .i64 1, .int .i64 d, .bool false, .int .i64 0, .int .i64 0, .int .i64 0, .int .i64 0, .int .i64 0, .int .i64 0, .int .i64 0, .int .i64 0, .int .i64 0] 53)).cell? ⟨w.heap.size + 1, j, none⟩) = (qry d).cl[j]? := fun j hj => by
    have h12 : j = 0 ∨ j = 1 ∨ j = 2 ∨ j = 3 ∨ j = 4 ∨ j = 5 ∨ j = 6 ∨ j = 7 ∨ j = 8 ∨ j = 9 ∨ j = 10 ∨ j = 11 := by omega
    rcases h12 with rfl | rfl | rfl | rfl | rfl | rfl | rfl | rfl | rfl | rfl | rfl | rfl <;> simp [Ob.cl, qry]
  have hb : Below w.heap.size w ((w.alloc (.cells #[.int .i64 n, .slice (some ⟨w.heap.size + 1, 0, none⟩) 1 1] 34)).alloc (.cells #[.int .i64 1, .int .i64 d, .bool false, .int .i64 0, .int .i64 0, .int .i64 0, .int .i64 0, .int .i64 0, .int .i64 0, .int .i64 0, .int .i64 0, .int .i64 0] 53)) := ((Below.refl _ w).alloc (Nat.le_refl _) _).alloc (by simp) _
  exact bodyPost_ret (v := .agg #[.int .i64 n, .slice (some ⟨w.heap.size + 1, 0, none⟩) 1 1]) (by simp [results, Tryz.results37, go_sem]) rfl ⟨_, rfl, hb, by omega, .inr ⟨w.heap.size + 1, 0, 1, rfl, Nat.le_refl _, by simp, fun i hi j hj => by
    obtain rfl : i = 0 := by have h9 : i < 1 := hi; omega
    rw [show 0 + 0 * 12 + j = j by omega]
    exact hc j hj⟩⟩
theorem off_new {F : Nat → Prop} {N g l l' : Nat} {ys : List Ob} (hl : ∀ k, F k → k < N) (hg : N ≤ g) : ∀ a n c, Value.slice (some ⟨g, 0, none⟩) l l' = .slice (some a) n c → ys ≠ [] → ¬ F a.block := fun a n c e _ hf => by
  have e' : (⟨g, 0, none⟩ : Addr) = a := by
    simp only [Value.slice.injEq, Option.some.injEq] at e
    exact e.1
  subst e'
  have h9 : g < N := hl _ hf
  omega
/-- A taker that was made since w0. -/
structure Tn (w0 w : World) (F : Nat → Prop) (b : Nat) (t : Tk) : Prop where
  ps : PT w F b t
  new : ∀ k, F k → w0.heap.size ≤ k
  bel : Below w0.heap.size w0 w
section
variable {w0 w w' : World} {F F' : Nat → Prop} {b : Nat} {t t' : Tk}
theorem Tn.next (h : Tn w0 w F b t) (hp : PT w' F' b t') (hc : Chg F w w') (hF : ∀ k, F' k → F k ∨ w.heap.size ≤ k) : Tn w0 w' F' b t' :=
  ⟨hp, fun k hk => (hF k hk).elim (h.new k) (fun g => Nat.le_trans h.bel.size g), h.bel.trans (hc.below h.bel.size h.new)⟩
theorem Tn.below (h : Tn w0 w F b t) (hb : Below w.heap.size w w') : Tn w0 w' F b t := ⟨h.ps.below hb, h.new, h.bel.trans (hb.mono h.bel.size)⟩
end
set_option maxHeartbeats 16000000 in
theorem awake15 (w : World) : Calls Tryz.prog 15 #[] w fun e w' => e = .returned (.bool true) ∧ Below w.heap.size w w' := by
  have C0 := Lib.hid (tnew_any w)
  go_enter Tryz.func15, Tryz.ntmps15
  go_upto_region 4 with (go_at_call 6; refine C0.out.mono ?_; rintro e w1 ⟨b, F1, rfl, hp, hF, hb⟩; have X1 : Hid (Tn w w1 F1 b tk0) := ⟨hp, hF, hb⟩; clear hp hF hb C0)
  go_upto_region 5 with (first | (go_at_call 37; refine (one_any 1 6 _).mono ?_; rintro e w3a ⟨g3, rfl, hb, hg, ho⟩; have X3a := Lib.hid (X1.out.below hb); have HB3a := Lib.hid hb; have HO3 := Lib.hid ho; have HG3 := Lib.hid hg; clear hb hg ho) | (go_at_call 7; refine (ttake_any 1 _ [qry 6] X3a.out.ps HO3.out (off_new X1.out.ps.2.lt HG3.out) (by decide)).mono ?_; rw [tk_1]; rintro e w3 ⟨r3, F3, rfl, hp, hc, -, hF, ho⟩; obtain ⟨a3, c3, rfl⟩ := own_form ho.1; have X3 := Lib.hid (X3a.out.next hp hc hF); have HC3 := Lib.hid hc; have HR3 := Lib.hid ho; have HF3 := Lib.hid hF; clear hp hc hF ho))
  have CA4 := tack_any X3.out.ps
  dsimp only at CA4
  rw [tk_4] at CA4
  have HA4 := Lib.hid CA4
  clear CA4
  go_upto_region 6 with (go_at_call 10; refine HA4.out.mono ?_; rintro e w4 ⟨F4, rfl, hp, hc, -, hF⟩; have X4 := Lib.hid (X3.out.next hp hc hF); have HC4 := Lib.hid hc; have HF4 := Lib.hid hF; clear hp hc hF)
  obtain ⟨v4, hv4⟩ : ∃ v, w4.alloc (.cells #[.int .i64 0, .int .i64 0, .int .i64 0, .int .i64 1] 37) = v := ⟨_, rfl⟩
  obtain ⟨q4, hq4⟩ : ∃ q, w4.heap.size = q := ⟨_, rfl⟩
  have hb4 : Below w4.heap.size w4 v4 := hv4 ▸ (Below.refl _ _).alloc (Nat.le_refl _) _
  have Y4 := Lib.hid (X4.out.below hb4)
  have HW4 : Hid (OwnA v4 q4 (0, 0, 0, 1)) := hv4 ▸ hq4 ▸ owna_alloc w4 0 0 0 1 37 w4.heap.size rfl
  have HN4 : Hid (¬ F4 q4) := fun h => by have := X4.out.ps.2.lt _ h; omega
  have HBB4 := Lib.hid hb4
  rw [hv4]
  try simp only [hq4]
  clear hv4 hq4 hb4
  go_upto_region 7 with (first | (go_at_call 37; refine (one_any 0 5 _).mono ?_; rintro e w5a ⟨g5, rfl, hb, hg, ho⟩; have X5a := Lib.hid (Y4.out.below hb); have HB5a := Lib.hid hb; have HO5 := Lib.hid ho; have HG5 := Lib.hid hg; clear hb hg ho) | (go_at_call 7; refine (ttake_any 0 _ [qry 5] X5a.out.ps HO5.out (off_new Y4.out.ps.2.lt HG5.out) (by decide)).mono ?_; rw [tk_2]; rintro e w5 ⟨r5, F5, rfl, hp, hc, -, hF, ho⟩; obtain ⟨a5, c5, rfl⟩ := own_form ho.1; have X5 := Lib.hid (X5a.out.next hp hc hF); have HC5 := Lib.hid hc; have HR5 := Lib.hid ho; have HF5 := Lib.hid hF; clear hp hc hF ho))
  obtain ⟨g5r, rfl, hg5a, hg5b⟩ := own_some HR5.out.1 (by decide)
  have hos := HR5.out.1.os
  have HQ5 : Hid (w5.cell? ⟨g5r, 1, none⟩ = some (.int .i64 5) ∧ w5.cell? ⟨g5r, 13, none⟩ = some (.int .i64 6) ∧ g5r < w5.heap.size ∧ ¬ F5 g5r) := by
    have hnf := HR5.out.2 g5r rfl
    rcases hos with ⟨a, cap, hv, _, h0⟩ | ⟨bq, off, cap, hv, _, _, h4⟩
    · cases h0
    · simp only [Value.slice.injEq, Option.some.injEq, Addr.mk.injEq, and_true] at hv
      obtain ⟨⟨rfl, rfl⟩, -⟩ := hv
      exact ⟨h4 0 (by decide) 1 (by decide), h4 1 (by decide) 1 (by decide), hg5b, hnf⟩
  have HW5 := Lib.hid (owna_chg (HW4.out.below HB5a.out) HC5.out HN4.out)
  clear hos hg5a hg5b
  go_upto_region 8 with (first | (go_at_call 37; refine (one_any 0 5 _).mono ?_; rintro e w6a ⟨g6, rfl, hb, hg, ho⟩; have X6a := Lib.hid (X5.out.below hb); have HB6a := Lib.hid hb; have HO6 := Lib.hid ho; have HG6 := Lib.hid hg; clear hb hg ho) | (go_at_call 7; refine (ttake_any 0 _ [qry 5] X6a.out.ps HO6.out (off_new X5.out.ps.2.lt HG6.out) (by decide)).mono ?_; rw [tk_3]; rintro e w6 ⟨r6, F6, rfl, hp, hc, -, hF, ho⟩; obtain ⟨a6, c6, rfl⟩ := own_form ho.1; have X6 := Lib.hid (X6a.out.next hp hc hF); have HC6 := Lib.hid hc; have HR6 := Lib.hid ho; have HF6 := Lib.hid hF; clear hp hc hF ho))
  have CA7 := tack_any X6.out.ps
  dsimp only at CA7
  rw [tk_5] at CA7
  have HA7 := Lib.hid CA7
  clear CA7
  go_upto_region 9 with (go_at_call 10; refine HA7.out.mono ?_; rintro e w7 ⟨F7, rfl, hp, hc, -, hF⟩; have X7 := Lib.hid (X6.out.next hp hc hF); have HC7 := Lib.hid hc; clear hp hc hF)
  obtain ⟨v7, hv7⟩ : ∃ v, w7.alloc (.cells #[.int .i64 0, .int .i64 0, .int .i64 2, .int .i64 0] 37) = v := ⟨_, rfl⟩
  obtain ⟨q7, hq7⟩ : ∃ q, w7.heap.size = q := ⟨_, rfl⟩
  have hb7 : Below w7.heap.size w7 v7 := hv7 ▸ (Below.refl _ _).alloc (Nat.le_refl _) _
  have Y7 := Lib.hid (X7.out.below hb7)
  obtain ⟨⟨z0, z1, z2, z3⟩, -⟩ : OwnA v7 q7 (0, 0, 2, 0) := hv7 ▸ hq7 ▸ owna_alloc w7 0 0 2 0 37 w7.heap.size rfl
  have hq4 := HW4.out.lt
  have hs5 := HB5a.out.size
  have n5 : ¬ F5 q4 := fun h => (HF5.out _ h).elim HN4.out (fun h => by omega)
  have hs6 := HB6a.out.size
  have hs5' := HC5.out.size
  have n6 : ¬ F6 q4 := fun h => (HF6.out _ h).elim n5 (fun h => by omega)
  obtain ⟨u5, u6, ul, un⟩ := HQ5.out
  have m6 : ¬ F6 g5r := fun h => (HF6.out _ h).elim un (fun h => by omega)
  obtain ⟨⟨y0, y1, y2, y3⟩, -⟩ := (owna_chg (owna_chg (HW5.out.below HB6a.out) HC6.out n5) HC7.out n6).below hb7
  have hs6' := HC6.out.size
  have hs7 := HC7.out.size
  have x5 := ((hb7.cell (p := ⟨g5r, 1, none⟩) (show g5r < w7.heap.size by omega)).trans ((HC7.out.cell (show g5r < w6.heap.size by omega) m6).trans ((HC6.out.cell (show g5r < w6a.heap.size by omega) un).trans (HB6a.out.cell (p := ⟨g5r, 1, none⟩) ul)))).trans u5
  have x6 := ((hb7.cell (p := ⟨g5r, 13, none⟩) (show g5r < w7.heap.size by omega)).trans ((HC7.out.cell (show g5r < w6.heap.size by omega) m6).trans ((HC6.out.cell (show g5r < w6a.heap.size by omega) un).trans (HB6a.out.cell (p := ⟨g5r, 13, none⟩) ul)))).trans u6
  rw [hv7]
  try simp only [hq7]
  clear hv7 hq7 hb7 hq4 hs5 n5 hs6 hs5' n6 u5 u6 ul un m6 hs6' hs7
  go_wp2_with fail
  go_ret
  exact ⟨rfl, Y7.out.bel⟩
end Go.Proofs.YtfiaghfaijlfjaaGreat

namespace Go.Proofs.YtfiaghfaijlfjaaGreat
set_option maxRecDepth 100000
set_option linter.unusedVariables false
open Go.RowKit

open Go.Maps
theorem cellsBT9 : Tryz.prog.cellsOf 34 = 2 := by kernel_rfl
/-- Rows of batches, as they read in w. -/
noncomputable def RBW (w : World) : RowT where
  α := {q : Bt × Value // q.2.oneCell' = true ∧ Os w q.2 q.1.2}
  d := ⟨((0, []), .slice none 0 0), rfl, Os_nil w⟩
  cl := fun q => [.int .i64 q.1.1.1, q.1.2]
  K := 2
  T := 34
  SL := 22
  zero := .agg #[.int .i64 0, .slice none 0 0]
  bytes := 32
  hcl := fun _ => rfl
  hK := by decide
  hone := fun q u hu => by
    simp only [List.mem_cons, List.not_mem_nil, or_false] at hu
    rcases hu with rfl | rfl
    · rfl
    · exact q.2.1
  hSL := underBS
  hinfo := infoBT
  hz := rfl
  hb := by decide
  hc := cellsBT9
theorem bts_form {H : Type} {enc : TypeId × Value → H} {w : World} {base : Nat} {spare : Nat → Bool} {held : Bool} {x : Option Addr} {l c : Nat} {d : DataW H} {p : List MemPlace}
    (h : DataW.Trod enc Tryz.prog w base spare held 22 (.slice x l c) d p) : ∃ ys : List Bt, ys.length = l ∧ Bts w (.slice x l c) ys := by
  obtain ⟨fuel, hf⟩ := h
  obtain ⟨a, cap, ys, h1, h2⟩ := gs_trod (R := RBW w) (u := .slice x l c) (fun n' cs X h1 h2 => by
    obtain ⟨c0, c1, rfl⟩ : ∃ c0 c1, cs = [c0, c1] := by
      match cs, h1 with
      | [c0, c1], _ => exact ⟨c0, c1, rfl⟩
    obtain ⟨xs, M, _, _, _, hl, hx⟩ := DataW.trod_struct underBT h2
    obtain ⟨k, rfl, _⟩ := int_cell (cell_form (j := 0) (T := 3) (O := 0) (v := c0) hl hx (by kernel_rfl) (by kernel_rfl) rfl)
    obtain ⟨y1, hy1⟩ := cell_form (j := 1) (T := 29) (O := 1) (v := c1) hl hx (by kernel_rfl) (by kernel_rfl) rfl
    obtain ⟨a, cap, os, rfl, ho⟩ := os_trod' hy1
    exact ⟨⟨((k, os), .slice a os.length cap), rfl, ho⟩, rfl⟩) hf
  simp only [Value.slice.injEq] at h1
  obtain ⟨rfl, hl, rfl⟩ := h1
  refine ⟨ys.map fun q => q.1.1, by rw [List.length_map]; exact hl.symm, ?_⟩
  by_cases h0 : l = 0
  · refine .inl ⟨x, c, by rw [h0], ?_⟩
    have : List.length (α := (RBW w).α) ys = 0 := by rw [← hl]; exact h0
    rw [List.eq_nil_of_length_eq_zero this]
    rfl
  · have h3 : ∀ i, i < List.length (α := (RBW w).α) ys → ∃ b off, x = some ⟨b, off, none⟩ ∧ w.cell? ⟨b, off + i * 2, none⟩ = some (.int .i64 ((ys.map fun q => q.1.1).getD i zb).1) ∧ ∃ s, w.cell? ⟨b, off + i * 2 + 1, none⟩ = some s ∧ Os w s ((ys.map fun q => q.1.1).getD i zb).2 := fun i hi => by
      obtain ⟨b, off, e1, _, e3⟩ := Gs.at (R := RBW w) (by rw [← hl]; exact h2) hi
      have e4 := e3 0 (show 0 < 2 by decide)
      have e5 := e3 1 (show 1 < 2 by decide)
      have e6 : (ys.map fun q => q.1.1).getD i zb = (ys.getD i (RBW w).d).1.1 := by
        rw [List.getD_eq_getElem?_getD, List.getD_eq_getElem?_getD, List.getElem?_map, List.getElem?_eq_getElem hi]
        rfl
      rw [e6]
      exact ⟨b, off, e1, e4, (ys.getD i (RBW w).d).1.2, e5, (ys.getD i (RBW w).d).2.2⟩
    obtain ⟨b, off, rfl, _⟩ := h3 0 (by omega)
    refine .inr ⟨b, off, c, by rw [List.length_map, hl], fun i hi => ?_⟩
    rw [List.length_map] at hi
    obtain ⟨b', off', e, k⟩ := h3 i hi
    cases e
    exact k
noncomputable def RI9 : RowT where
  α := Int
  d := 0
  cl := fun n => [.int .i64 n]
  K := 1
  T := 3
  SL := 40
  zero := .int .i64 0
  bytes := 8
  hcl := fun _ => rfl
  hK := by decide
  hone := fun y u hu => by simp only [List.mem_singleton] at hu; subst hu; rfl
  hSL := underI3
  hinfo := infoI3
  hz := rfl
  hb := by decide
  hc := by kernel_rfl
def Is9 (w : World) (v : Value) (l : List Int) : Prop := Gs RI9 w v l
theorem is9_form {H : Type} {enc : TypeId × Value → H} {w : World} {base : Nat} {spare : Nat → Bool} {held : Bool} {x : Option Addr} {l c : Nat} {d : DataW H} {p : List MemPlace}
    (h : DataW.Trod enc Tryz.prog w base spare held 40 (.slice x l c) d p) : ∃ ys : List Int, ys.length = l ∧ Is9 w (.slice x l c) ys := by
  obtain ⟨fuel, hf⟩ := h
  obtain ⟨a, cap, ys, h1, h2⟩ := gs_trod (R := RI9) (u := .slice x l c) (fun n' cs X h1 h2 => by
    obtain ⟨c0, rfl⟩ : ∃ c0, cs = [c0] := by
      match cs, h1 with
      | [c0], _ => exact ⟨c0, rfl⟩
    obtain ⟨k, hk, _⟩ := int_cell (show ∃ y, DataW.trod enc Tryz.prog w base spare held n' 3 [c0] = some y from ⟨X, h2⟩)
    subst hk
    exact ⟨(k : Int), rfl⟩) hf
  simp only [Value.slice.injEq] at h1
  have hl : l = List.length (α := Int) ys := h1.2.1
  exact ⟨ys, hl.symm, h2⟩
theorem Is9.below {w w' : World} {v : Value} {l : List Int} (h : Is9 w v l) (hb : Below w.heap.size w w') : Is9 w' v l := Gs.below (R := RI9) h hb
theorem Is9.at {w : World} {a : Option Addr} {c : Nat} {l : List Int} (h : Is9 w (.slice a l.length c) l) {i : Nat} (hi : i < l.length) : ∃ b off, a = some ⟨b, off, none⟩ ∧ b < w.heap.size ∧ w.cell? ⟨b, off + i, none⟩ = some (.int .i64 (l.getD i 0)) := by
  obtain ⟨b, off, h1, h2, h3⟩ := Gs.at (R := RI9) h hi
  have h4 := h3 0 (show 0 < 1 by decide)
  rw [show off + i * RI9.K + 0 = off + i from by show off + i * 1 + 0 = _; omega] at h4
  exact ⟨b, off, h1, h2, h4⟩
/-- Are batches looked at? -/
def fewB (l : List Bt) : Bool := decide (l.length ≤ 100) && l.all fun x => decide (x.2.length ≤ 60)
set_option maxHeartbeats 4000000 in
theorem few_any (a : Option Addr) (c : Nat) (l : List Bt) (w : World) (h : Bts w (.slice a l.length c) l) : Calls Tryz.prog 5 #[.slice a l.length c] w fun e w' => e = .returned (.bool (fewB l)) ∧ Below w.heap.size w w' := by
  have HV := Lib.hid h
  clear h
  by_cases hl : l.length ≤ 100
  · have hd1 : decide ((l.length : Int) ≤ 100) = true := decide_eq_true (by omega)
    have HL := Lib.hid hl
    clear hl
    go_enter Tryz.func5, Tryz.ntmps5
    go_wp2_with fail
    go_loopw [3] (fun iv wr => ∃ k : Nat, k ≤ l.length ∧ iv = .int .i64 k ∧ Hid ((l.take k).all (fun x => decide (x.2.length ≤ 60)) = true) ∧ Hid (wr = w)) (fun iv _ => l.length - (intOf iv).toNat)
    case atStart => exact ⟨0, Nat.zero_le _, rfl, rfl, rfl⟩
    case round =>
      obtain ⟨k, hk, rfl, HA, HW⟩ := hrel
      obtain rfl := HW.out
      by_cases hlt : k < l.length
      · have hltz : decide ((k : Int) < l.length) = true := decide_eq_true (by omega)
        rcases HV.out with ⟨a', c', e, e0⟩ | ⟨bk, off, c', e, hcells⟩
        · rw [e0] at hlt
          exact absurd hlt (Nat.not_lt_zero _)
        · simp only [Value.slice.injEq] at e
          obtain ⟨rfl, -, rfl⟩ := e
          obtain ⟨-, s, hs, ho⟩ := hcells k hlt
          obtain ⟨sa, sc, rfl⟩ := ho.form
          obtain ⟨y, hy⟩ : ∃ y, l.getD k zb = y := ⟨_, rfl⟩
          rw [hy] at hs ho
          have HY := Lib.hid hy
          have htk : l.take (k + 1) = l.take k ++ [y] := by
            rw [List.take_succ_eq_append_getElem hlt, ← hy]
            simp [List.getD, hlt]
          have HTK := Lib.hid htk
          have hl100 := HL.out
          clear hcells ho hy htk
          by_cases hy60 : (60 : Int) < y.2.length
          · have hd2 : decide ((60 : Int) < y.2.length) = true := decide_eq_true hy60
            have HF : Hid (fewB l = false) := by
              show _ = _
              unfold fewB
              have : (l.all fun x => decide (x.2.length ≤ 60)) = false := by
                rw [List.all_eq_false]
                exact ⟨y, by rw [← HY.out, List.getD_eq_getElem?_getD, List.getElem?_eq_getElem hlt]; exact List.getElem_mem hlt, by simp; omega⟩
              rw [this, Bool.and_false]
            go_wp2_with fail
            go_ret
            rw [HF.out]
            exact ⟨rfl, Below.refl _ _⟩
          · have hd2 : decide ((60 : Int) < y.2.length) = false := decide_eq_false hy60
            have HA2 : Hid ((l.take (k + 1)).all (fun x => decide (x.2.length ≤ 60)) = true) := by
              show _ = _
              rw [HTK.out, List.all_append, HA.out]
              simp; omega
            go_wp2_with fail
            go_roundw
            case rel => exact ⟨k + 1, by omega, by go_num, HA2.out, by first | exact rfl | exact trivial⟩
            case measure => simp [intOf]; omega
      · obtain rfl : k = l.length := by omega
        have hltz : decide ((l.length : Int) < l.length) = false := decide_eq_false (by omega)
        have HF : Hid (fewB l = true) := by
          show _ = _
          unfold fewB
          have := HA.out
          rw [List.take_length] at this
          rw [this, decide_eq_true HL.out]
          rfl
        go_wp2_with fail
        go_ret
        rw [HF.out]
        exact ⟨rfl, Below.refl _ _⟩
  · have hd1 : decide ((l.length : Int) ≤ 100) = false := decide_eq_false (by omega)
    have HF : Hid (fewB l = false) := by
      show _ = _
      unfold fewB
      rw [decide_eq_false hl, Bool.false_and]
    have hd0 : decide ((0 : Int) < l.length) = true := decide_eq_true (by omega)
    have hd2 : decide (l.length ≤ 100) = false := decide_eq_false hl
    have hd3 : decide (0 < l.length) = true := decide_eq_true (by omega)
    have hd4 : ¬ l.length ≤ 100 := hl
    have hd5 : 0 < l.length := by omega
    clear hl
    go_enter Tryz.func5, Tryz.ntmps5
    go_wp2_with fail
    go_loopw [3] (fun iv wr => iv = .int .i64 0 ∧ wr = w) (fun iv _ => 0)
    case atStart => exact ⟨rfl, rfl⟩
    case round =>
      obtain ⟨rfl, rfl⟩ := hrel
      go_wp2_with fail
      go_ret
      rw [HF.out]
      exact ⟨rfl, Below.refl _ _⟩
theorem srt_perm {t : Tk} (h : TkOk t) : (srt t.nx (nums t.H)).Perm (nums t.H) := by
  refine (List.perm_ext_iff_of_nodup ?_ h.nd).2 fun x => ?_
  · have h1 := (srt_nice t.nx (nums t.H)).1
    exact (List.pairwise_map.1 h1).imp (fun h e => by rw [e] at h; exact absurd h (Int.lt_irrefl _))
  · rw [srt_mem]
    have hr : ∀ a ∈ nums t.H, left a = a := fun a ha => by
      unfold nums at ha
      obtain ⟨y, hy, rfl⟩ := List.mem_map.1 ha
      have := (h.ok y hy).1
      unfold left
      omega
    constructor
    · rintro ⟨a, ha, e⟩
      rw [← e, hr a ha]
      exact ha
    · intro hx
      exact ⟨x, hx, hr x hx⟩
theorem srt_len_eq {t : Tk} (h : TkOk t) : (srt t.nx (nums t.H)).length = t.H.length := by
  rw [(srt_perm h).length_eq]
  unfold nums
  rw [List.length_map]
theorem srt_ne {t : Tk} (h : TkOk t) {n : Int} (hn : n ∈ srt t.nx (nums t.H)) : n ≠ t.nx := by
  have h1 := (srt_perm h).mem_iff.1 hn
  unfold nums at h1
  obtain ⟨y, hy, rfl⟩ := List.mem_map.1 h1
  have h2 := (h.near y hy).1
  intro e
  rw [e] at h2
  unfold far at h2
  omega
end Go.Proofs.YtfiaghfaijlfjaaGreat
