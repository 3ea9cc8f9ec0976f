/- A beacon without an echo: the program's Without. No conditions but on lengths. -/
import Derived.Test.YtaflgabjpcfgpaaGsp
namespace Go.Proofs.Ytaflgabjpcfgpaa
set_option maxRecDepth 100000
open Go.RowKit

set_option maxHeartbeats 32000000 in
theorem without_any (M : Int) (v : Value) (ys : List (Int × Int)) (id : Int) (w : World) (hE : El w v ys) (hl : ys.length ≤ 1000) :
    Calls Try.prog 15 #[.agg #[.int .i64 M, v], .int .i64 id] w fun e w' => (∃ u k, e = .returned (.tuple #[u, .int .i64 k]) ∧
      ((¬ BeOk M ys ∧ u = .agg #[.int .i64 0, .slice none 0 0] ∧ k = 1) ∨ (BeOk M ys ∧ hear ys id = none ∧ u = .agg #[.int .i64 0, .slice none 0 0] ∧ k = 7) ∨
       (BeOk M ys ∧ hear ys id ≠ none ∧ k = 0 ∧ ∃ u', u = .agg #[.int .i64 M, u'] ∧ OwE w' w.heap.size u' (wout ys id)))) ∧ Below w.heap.size w w' := by
  obtain ⟨a, c, rfl⟩ := hE.1.form
  obtain ⟨W1, hW1⟩ : ∃ W1, W1 = w.alloc (.cells #[.int .i64 M, .slice a ys.length c] 24) := ⟨_, rfl⟩
  obtain ⟨w2, hw2⟩ : ∃ w2, w2 = W1.alloc (.cells #[.int .i64 0, .slice none 0 0] 24) := ⟨_, rfl⟩
  have hs1 : W1.heap.size = w.heap.size + 1 := by rw [hW1]; simp
  have hs2 : w2.heap.size = w.heap.size + 2 := by rw [hw2]; simp [hs1]
  have hb1 : Below w.heap.size w W1 := by rw [hW1]; exact (Below.refl _ w).alloc (Nat.le_refl _) _
  have hb2 : Below w.heap.size w w2 := by rw [hw2]; exact hb1.alloc (by omega) _
  have HB2 := Lib.hid hb2
  have hb12 : Below W1.heap.size W1 w2 := by rw [hw2]; exact (Below.refl _ W1).alloc (Nat.le_refl _) _
  have OX := Lib.hid ((show OwnB2 W1 w.heap.size M (.slice a ys.length c) by rw [hW1]; exact ownb2_alloc w M (.slice a ys.length c) 24 w.heap.size rfl).below hb12)
  have OR := Lib.hid (show OwnB2 w2 (w.heap.size + 1) 0 (.slice none 0 0) by rw [hw2, ← hs1]; exact ownb2_alloc W1 0 (.slice none 0 0) 24 W1.heap.size rfl)
  have HE2 := Lib.hid (hE.below hb2)
  have HS2 := Lib.hid hs2
  clear hE hb1 hb2 hb12 hs1 hs2
  obtain ⟨q, hq⟩ : ∃ q : Bool, q = true ↔ BeOk M ys := ⟨decide (BeOk M ys), decide_eq_true_iff⟩
  have C1 := Lib.hid (check_fix M _ ys q hq w2 HE2.out (by omega))
  have HQ := Lib.hid hq
  clear hq
  obtain ⟨⟨x0, x1⟩, xf⟩ := OX.out
  obtain ⟨⟨r0, r1⟩, rf⟩ := OR.out
  go_enter Try.func15, Try.ntmps15
  go_upto_region 1 with (fail)
  rw [← hW1, ← hw2]
  clear hw2 hW1
  go_wp2_with fail
  refine C1.out.mono ?_
  rintro e w3 ⟨rfl, hb⟩
  have HB3 := Lib.hid (HB2.out.trans (hb.mono HB2.out.size))
  have OX3 := Lib.hid (OX.out.below hb)
  have OR3 := Lib.hid (OR.out.below hb)
  have HE3 := Lib.hid (HE2.out.below hb)
  have HS3 : Hid (w.heap.size + 2 ≤ w3.heap.size) := by show _ ≤ _; have := hb.size; have := HS2.out; omega
  clear hb x0 x1 xf r0 r1 rf C1 OX OR HE2
  obtain ⟨⟨x0, x1⟩, xf⟩ := OX3.out
  obtain ⟨⟨r0, r1⟩, rf⟩ := OR3.out
  cases q with
  | false =>
    have HO : Hid (¬ BeOk M ys) := fun h => by cases HQ.out.2 h
    go_wp2_with fail
    have hs := (OR3.out.set 0 (.slice none 0 0)).1
    have hbs := belb_set2 (b := w.heap.size + 1) HB3.out (by omega) 0 (.slice none 0 0)
    generalize (w3.setCell ⟨w.heap.size + 1, 0, none⟩ (.int .i64 0)).setCell ⟨w.heap.size + 1, 1, none⟩ (.slice none 0 0) = W5 at *
    obtain ⟨s0_, s1_⟩ := hs
    exact bodyPost_ret (v := .tuple #[.agg #[.int .i64 0, .slice none 0 0], .int .i64 1]) (by simp [results, Try.results15, go_sem, s0_, s1_]) rfl ⟨⟨_, _, rfl, .inl ⟨HO.out, rfl, rfl⟩⟩, hbs⟩
  | true =>
    have HO : Hid (BeOk M ys) := HQ.out.1 rfl
    have C2 := Lib.hid (heard_any M _ ys id w3 HE3.out (by omega))
    go_wp2_with fail
    refine C2.out.mono ?_
    rintro e w4 ⟨rfl, hb⟩
    have HB4 := Lib.hid (HB3.out.trans (hb.mono HB3.out.size))
    have OX4 := Lib.hid (OX3.out.below hb)
    have OR4 := Lib.hid (OR3.out.below hb)
    have HE4 := Lib.hid (HE3.out.below hb)
    have HS4 : Hid (w.heap.size + 2 ≤ w4.heap.size) := Nat.le_trans HS3.out hb.size
    clear hb x0 x1 xf r0 r1 rf C2 OX3 OR3 HE3
    obtain ⟨⟨x0, x1⟩, xf⟩ := OX4.out
    obtain ⟨⟨r0, r1⟩, rf⟩ := OR4.out
    cases hh : hear ys id with
    | none =>
      have HH := Lib.hid hh
      clear hh
      simp only [Option.isSome_none, Option.getD_none]
      go_wp2_with fail
      have hs := (OR4.out.set 0 (.slice none 0 0)).1
      have hbs := belb_set2 (b := w.heap.size + 1) HB4.out (by omega) 0 (.slice none 0 0)
      generalize (w4.setCell ⟨w.heap.size + 1, 0, none⟩ (.int .i64 0)).setCell ⟨w.heap.size + 1, 1, none⟩ (.slice none 0 0) = W5 at *
      obtain ⟨s0_, s1_⟩ := hs
      exact bodyPost_ret (v := .tuple #[.agg #[.int .i64 0, .slice none 0 0], .int .i64 7]) (by simp [results, Try.results15, go_sem, s0_, s1_]) rfl ⟨⟨_, _, rfl, .inr (.inl ⟨HO.out, HH.out, rfl, rfl⟩)⟩, hbs⟩
    | some ep =>
      have HH := Lib.hid hh
      clear hh
      have C3 := Lib.hid (others_any _ ys id w4 HE4.out (by omega))
      simp only [Option.isSome_some, Option.getD_some]
      go_wp2_with fail
      refine C3.out.mono ?_
      rintro e w5 ⟨⟨u1, u2, rfl, hu1, hu2, hap⟩, hb⟩
      obtain ⟨a3, c3, rfl⟩ := hu1.form
      obtain ⟨a4, c4, rfl⟩ := hu2.form
      have HB5 := Lib.hid (HB4.out.trans (hb.mono HB4.out.size))
      have OX5 := Lib.hid (OX4.out.below hb)
      have OR5 := Lib.hid (OR4.out.below hb)
      obtain ⟨B2, hB2⟩ : ∃ B2, w.heap.size + 2 = B2 := ⟨_, rfl⟩
      have HSW : Hid (B2 ≤ w5.heap.size) := by show _ ≤ _; have := hb.size; have := HS4.out; omega
      have HU1 : Hid (OwE w5 B2 (.slice a3 (loE ys id).length c3) (loE ys id)) := hu1.mono (by have := HS4.out; omega)
      have HU2 : Hid (OwE w5 B2 (.slice a4 (hiE ys id).length c4) (hiE ys id)) := hu2.mono (by have := HS4.out; omega)
      have HAP : Hid (Value.ownBlock (.slice a4 (hiE ys id).length c4) = none ∨ Value.ownBlock (.slice a4 (hiE ys id).length c4) ≠ Value.ownBlock (.slice a3 (loE ys id).length c3)) := by
        show _ ∨ _
        cases hq : Value.ownBlock (.slice a4 (hiE ys id).length c4) with
        | none => exact .inl rfl
        | some b => exact .inr (fun e => hap b e.symm hq)
      have HLEN : Hid ((loE ys id).length + (hiE ys id).length ≤ 3000) := by show _ ≤ _; have := loE_len ys id; have := hiE_len ys id; omega
      clear hb x0 x1 xf r0 r1 rf C3 OX4 OR4 HE4 hu1 hu2 hap
      obtain ⟨⟨x0, x1⟩, xf⟩ := OX5.out
      obtain ⟨⟨r0, r1⟩, rf⟩ := OR5.out
      have HWO := Lib.hid (lohi_wout HO.out id)
      generalize loE ys id = lo at *
      generalize hiE ys id = hi at *
      have kc : ∀ w', Below B2 w5 w' → w'.cell? ⟨w.heap.size, 0, none⟩ = some (.int .i64 M) := fun w' h => (h.cell (p := ⟨w.heap.size, 0, none⟩) (by show w.heap.size < B2; omega)).trans x0
      go_wp2_with fail
      refine T3.wp_region_tail (C := fun w' => Below B2 w5 w' ∧ OwE w' B2 (.slice a3 lo.length c3) (lo) ∧ OwE w' B2 (.slice a4 hi.length c4) (hi)) (X := GX (Value.ownBlock (.slice a3 lo.length c3)) 4) (n := 39) 5 (by kernel_rfl) (by kernel_rfl) (by kernel_rfl) (by kernel_rfl) rfl (GX_refl _ 4) ⟨(Below.refl _ _).drew, gown_below HU1.out (Below.refl _ _).drew, gown_below HU2.out (Below.refl _ _).drew⟩ ?_
      simp only [List.take_succ_cons, List.take_zero, List.drop_succ_cons, List.drop_zero]
      refine T3.w_is (GX_refl _ 4) rfl _ (.inl rfl) (fun ρ w hC hc hfn hf => by have e2 : ρ (.tmp 2) = _ := hf 2 (by decide); (conv => lhs; simp [execOp, go_sem, hc, e2])) ?_
      refine T3.w_is (GX_refl _ 4) rfl _ (.inl rfl) (fun ρ w hC hc hfn hf => by have e33 : ρ (.tmp 33) = _ := hf 33 (by decide); (conv => lhs; simp [execOp, go_sem, hc, e33, kc w hC.1])) ?_
      refine T3.w_is (GX_refl _ 4) rfl _ (.inl rfl) (fun ρ w hC hc hfn hf => by have e9 : ρ (.tmp 9) = _ := hf 9 (by decide); (conv => lhs; simp [execOp, go_sem, hc, e9])) ?_
      refine T3.w_is (GX_refl _ 4) rfl _ (.inl rfl) (fun ρ w hC hc hfn hf => by have e10 : ρ (.tmp 10) = _ := hf 10 (by decide); (conv => lhs; simp [execOp, go_sem, hc, e10])) ?_
      refine T3.w_make rfl (NewOE B2 ((lo) ++ (hi))) (NewOE.keeps 4) (.inl rfl) (fun ρ w hC hc hfn hf => by have e35 : ρ (.tmp 35) = _ := hf 35 (by decide); have e36 : ρ (.tmp 36) = _ := hf 36 (by decide); obtain ⟨r, wq, hr, hq1, hq2, hq3⟩ := run_gapps RE w 22 B2 (.slice a3 lo.length c3) (lo) (show w.ownsRow B2 RE.T RE.K (.slice a3 lo.length c3) (lo).length (gflat RE (lo)) from hC.2.1) B2 (.slice a4 hi.length c4) (hi) (show w.ownsRow B2 RE.T RE.K (.slice a4 hi.length c4) (hi).length (gflat RE (hi)) from hC.2.2) HLEN.out (Nat.le_trans HSW.out hC.1.size); exact ⟨_, wq, gexec_append rfl e35 e36 hr, ⟨hC.1.trans ((Below.refl B2 w).grown hq2 (Nat.le_trans HSW.out hC.1.size) (fun k hk => (hC.2.1.lt k hk).1)), hq3, World.ownsRow.kept hC.2.2 hq2 HAP.out⟩, GX_at rfl hq2, OwE.form hq1, hq1⟩) ?_
      intro A V5 hC hn hd hf
      obtain ⟨⟨aq, cq, y37⟩, OQ⟩ := (show NewOE B2 ((lo) ++ (hi)) (A.eval (.tmp 37)) V5 from hf 37)
      obtain ⟨Lq, hLq⟩ : ∃ Lq, ((lo) ++ (hi)).length = Lq := ⟨_, rfl⟩
      rw [hLq] at y37
      have HLq := Lib.hid hLq
      clear hLq
      rw [y37] at OQ
      have y0 : A.eval (.tmp 0) = _ := Eq.trans (hf 0) (by conv => lhs; simp [go_sem])
      have y1 : A.eval (.tmp 1) = _ := Eq.trans (hf 1) (by conv => lhs; simp [go_sem])
      have y2 : A.eval (.tmp 2) = _ := Eq.trans (hf 2) (by conv => lhs; simp [go_sem])
      have y3 : A.eval (.tmp 3) = _ := Eq.trans (hf 3) (by conv => lhs; simp [go_sem])
      have y4 : A.eval (.tmp 4) = _ := Eq.trans (hf 4) (by conv => lhs; simp [go_sem])
      have y5 : A.eval (.tmp 5) = _ := Eq.trans (hf 5) (by conv => lhs; simp [go_sem])
      have y6 : A.eval (.tmp 6) = _ := Eq.trans (hf 6) (by conv => lhs; simp [go_sem])
      have y7 : A.eval (.tmp 7) = _ := Eq.trans (hf 7) (by conv => lhs; simp [go_sem])
      have y8 : A.eval (.tmp 8) = _ := Eq.trans (hf 8) (by conv => lhs; simp [go_sem])
      have y9 : A.eval (.tmp 9) = _ := Eq.trans (hf 9) (by conv => lhs; simp [go_sem])
      have y10 : A.eval (.tmp 10) = _ := Eq.trans (hf 10) (by conv => lhs; simp [go_sem])
      have y11 : A.eval (.tmp 11) = _ := Eq.trans (hf 11) (by conv => lhs; simp [go_sem])
      have y12 : A.eval (.tmp 12) = _ := Eq.trans (hf 12) (by conv => lhs; simp [go_sem])
      have y13 : A.eval (.tmp 13) = _ := Eq.trans (hf 13) (by conv => lhs; simp [go_sem])
      have y14 : A.eval (.tmp 14) = _ := Eq.trans (hf 14) (by conv => lhs; simp [go_sem])
      have y15 : A.eval (.tmp 15) = _ := Eq.trans (hf 15) (by conv => lhs; simp [go_sem])
      have y16 : A.eval (.tmp 16) = _ := Eq.trans (hf 16) (by conv => lhs; simp [go_sem])
      have y17 : A.eval (.tmp 17) = _ := Eq.trans (hf 17) (by conv => lhs; simp [go_sem])
      have y18 : A.eval (.tmp 18) = _ := Eq.trans (hf 18) (by conv => lhs; simp [go_sem])
      have y19 : A.eval (.tmp 19) = _ := Eq.trans (hf 19) (by conv => lhs; simp [go_sem])
      have y20 : A.eval (.tmp 20) = _ := Eq.trans (hf 20) (by conv => lhs; simp [go_sem])
      have y21 : A.eval (.tmp 21) = _ := Eq.trans (hf 21) (by conv => lhs; simp [go_sem])
      have y22 : A.eval (.tmp 22) = _ := Eq.trans (hf 22) (by conv => lhs; simp [go_sem])
      have y23 : A.eval (.tmp 23) = _ := Eq.trans (hf 23) (by conv => lhs; simp [go_sem])
      have y24 : A.eval (.tmp 24) = _ := Eq.trans (hf 24) (by conv => lhs; simp [go_sem])
      have y25 : A.eval (.tmp 25) = _ := Eq.trans (hf 25) (by conv => lhs; simp [go_sem])
      have y26 : A.eval (.tmp 26) = _ := Eq.trans (hf 26) (by conv => lhs; simp [go_sem])
      have y27 : A.eval (.tmp 27) = _ := Eq.trans (hf 27) (by conv => lhs; simp [go_sem])
      have y28 : A.eval (.tmp 28) = _ := Eq.trans (hf 28) (by conv => lhs; simp [go_sem])
      have y29 : A.eval (.tmp 29) = _ := Eq.trans (hf 29) (by conv => lhs; simp [go_sem])
      have y30 : A.eval (.tmp 30) = _ := Eq.trans (hf 30) (by conv => lhs; simp [go_sem])
      have y31 : A.eval (.tmp 31) = _ := Eq.trans (hf 31) (by conv => lhs; simp [go_sem])
      have y32 : A.eval (.tmp 32) = _ := Eq.trans (hf 32) (by conv => lhs; simp [go_sem])
      have y33 : A.eval (.tmp 33) = _ := hf 33
      have y34 : A.eval (.tmp 34) = _ := hf 34
      have y35 : A.eval (.tmp 35) = _ := hf 35
      have y36 : A.eval (.tmp 36) = _ := hf 36
      have y38 : A.eval (.tmp 38) = _ := Eq.trans (hf 38) (by conv => lhs; simp [go_sem])
      clear hf
      have hA := frame_eq hn
      rw [show List.range 39 = [0, 1, 2, 3, 4, 5, 6, 7, 8, 9, 10, 11, 12, 13, 14, 15, 16, 17, 18, 19, 20, 21, 22, 23, 24, 25, 26, 27, 28, 29, 30, 31, 32, 33, 34, 35, 36, 37, 38] from rfl, hd] at hA
      simp only [List.map_cons, List.map_nil, y0, y1, y2, y3, y4, y5, y6, y7, y8, y9, y10, y11, y12, y13, y14, y15, y16, y17, y18, y19, y20, y21, y22, y23, y24, y25, y26, y27, y28, y29, y30, y31, y32, y33, y34, y35, y36, y37, y38] at hA
      clear y0 y1 y2 y3 y4 y5 y6 y7 y8 y9 y10 y11 y12 y13 y14 y15 y16 y17 y18 y19 y20 y21 y22 y23 y24 y25 y26 y27 y28 y29 y30 y31 y32 y33 y34 y35 y36 y37 y38
      clear hn hd
      subst hA
      have OR6 := Lib.hid (OR5.out.low (by omega) hC.1)
      have HB6 := Lib.hid (HB5.out.trans (hC.1.mono (by omega)))
      have HOQ := Lib.hid OQ
      clear kc x0 x1 xf r0 r1 rf OQ hC
      obtain ⟨⟨r0, r1⟩, rf⟩ := OR6.out
      go_wp2_with fail
      have hs := (OR6.out.set M (.slice aq Lq cq)).1
      have hbs := belb_set2 (b := w.heap.size + 1) HB6.out (by omega) M (.slice aq Lq cq)
      have hos : OwE _ B2 (.slice aq Lq cq) (lo ++ hi) := gown_apart (gown_apart HOQ.out (by omega : w.heap.size + 1 < B2) 0 (u := .int .i64 M)) (by omega : w.heap.size + 1 < B2) 1 (u := .slice aq Lq cq)
      rw [HWO.out] at hos
      generalize (V5.setCell ⟨w.heap.size + 1, 0, none⟩ (.int .i64 M)).setCell ⟨w.heap.size + 1, 1, none⟩ (.slice aq Lq cq) = W5 at *
      obtain ⟨s0_, s1_⟩ := hs
      exact bodyPost_ret (v := .tuple #[.agg #[.int .i64 M, .slice aq Lq cq], .int .i64 0]) (by simp [results, Try.results15, go_sem, s0_, s1_]) rfl ⟨⟨_, _, rfl, .inr (.inr ⟨HO.out, (fun h => by rw [HH.out] at h; cases h), rfl, _, rfl, hos.mono (by omega)⟩)⟩, hbs⟩
#print axioms without_any
end Go.Proofs.Ytaflgabjpcfgpaa
