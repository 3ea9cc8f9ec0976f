/- The reference's views: Lowest. No conditions but on lengths. -/
import Derived.Test.YtahhhegknmiinaaVrx
namespace Go.Proofs.Ytahhhegknmiinaa
set_option maxRecDepth 100000
open Go.RowKit

theorem ownV_set7 {w : World} {b : Nat} {x : Vw} (h : OwnV w b x) (y : Vw) : OwnV (((((((w.setCell ⟨b, 0, none⟩ (.int .i64 y.1)).setCell ⟨b, 1, none⟩ (.bool y.2.1)).setCell ⟨b, 2, none⟩ (.int .i64 y.2.2.1)).setCell ⟨b, 3, none⟩ (.int .i64 y.2.2.2.1)).setCell ⟨b, 4, none⟩ (.int .i64 y.2.2.2.2.1)).setCell ⟨b, 5, none⟩ (.int .i64 y.2.2.2.2.2.1)).setCell ⟨b, 6, none⟩ (.int .i64 y.2.2.2.2.2.2)) b y := by
  obtain ⟨⟨h0, h1, h2, h3, h4, h5, h6⟩, hf⟩ := h
  refine ⟨⟨?_, ?_, ?_, ?_, ?_, ?_, ?_⟩, fun k => ?_⟩ <;> simp [go_sem, h0, h1, h2, h3, h4, h5, h6, hf]
theorem ownV_off {w : World} {b c j : Nat} {x : Vw} {u : Value} (h : OwnV w c x) (hn : c ≠ b) : OwnV (w.setCell ⟨b, j, none⟩ u) c x := by
  obtain ⟨⟨h0, h1, h2, h3, h4, h5, h6⟩, hf⟩ := h
  have e : ∀ i, (w.setCell ⟨b, j, none⟩ u).cell? ⟨c, i, none⟩ = w.cell? ⟨c, i, none⟩ := fun i => World.cell?_setCell_other _ _ _ _ (fun e => hn (congrArg Addr.block e).symm)
  refine ⟨⟨(e _).trans h0, (e _).trans h1, (e _).trans h2, (e _).trans h3, (e _).trans h4, (e _).trans h5, (e _).trans h6⟩, fun k => by rw [World.frozen?_setCell]; exact hf k⟩
theorem ownV_off7 {w : World} {b c : Nat} {x : Vw} (h : OwnV w c x) (hn : c ≠ b) (y : Vw) : OwnV (((((((w.setCell ⟨b, 0, none⟩ (.int .i64 y.1)).setCell ⟨b, 1, none⟩ (.bool y.2.1)).setCell ⟨b, 2, none⟩ (.int .i64 y.2.2.1)).setCell ⟨b, 3, none⟩ (.int .i64 y.2.2.2.1)).setCell ⟨b, 4, none⟩ (.int .i64 y.2.2.2.2.1)).setCell ⟨b, 5, none⟩ (.int .i64 y.2.2.2.2.2.1)).setCell ⟨b, 6, none⟩ (.int .i64 y.2.2.2.2.2.2)) c x :=
  ownV_off (ownV_off (ownV_off (ownV_off (ownV_off (ownV_off (ownV_off h hn) hn) hn) hn) hn) hn) hn
theorem vbel_set7 {B : Nat} {a w : World} {b : Nat} (h : Below B a w) (hB : B ≤ b) (y : Vw) : Below B a (((((((w.setCell ⟨b, 0, none⟩ (.int .i64 y.1)).setCell ⟨b, 1, none⟩ (.bool y.2.1)).setCell ⟨b, 2, none⟩ (.int .i64 y.2.2.1)).setCell ⟨b, 3, none⟩ (.int .i64 y.2.2.2.1)).setCell ⟨b, 4, none⟩ (.int .i64 y.2.2.2.2.1)).setCell ⟨b, 5, none⟩ (.int .i64 y.2.2.2.2.2.1)).setCell ⟨b, 6, none⟩ (.int .i64 y.2.2.2.2.2.2)) :=
  ((((((h.setCell (by exact hB) _).setCell (by exact hB) _).setCell (by exact hB) _).setCell (by exact hB) _).setCell (by exact hB) _).setCell (by exact hB) _).setCell (by exact hB) _
/-- The lowest one so far; whether one was told. -/
def lowS (acc : Vw × Bool) (y : Vw) : Vw × Bool := if tld y.2 = true ∧ (acc.2 = false ∨ lsx y.2 acc.1.2 = true) then (y, true) else acc
def lowF (l : List Vw) : Vw × Bool := l.foldl lowS (zVw, false)
theorem low_step (l : List Vw) (k : Nat) (h : k < l.length) : lowF (l.take (k + 1)) = lowS (lowF (l.take k)) (l.getD k zVw) := by
  rw [vtake_succ l k h]
  unfold lowF
  rw [List.foldl_append]
  rfl
set_option maxHeartbeats 4000000 in
theorem rvlow_any (v : Value) (l : List Vw) (w : World) (hv : Vs w v l) (hl : l.length ≤ 1000) :
    Calls Try.prog 21 #[v] w fun e w' => e = .returned (.tuple #[vwV (lowF l).1, .bool (lowF l).2]) ∧ Below w.heap.size w w' := by
  obtain ⟨a, c, rfl⟩ := hv.form
  obtain ⟨w1, hw1⟩ : ∃ w1, (w.alloc (.cells #[.int .i64 0, .bool false, .int .i64 0, .int .i64 0, .int .i64 0, .int .i64 0, .int .i64 0] 40)).alloc (.cells #[.int .i64 0, .bool false, .int .i64 0, .int .i64 0, .int .i64 0, .int .i64 0, .int .i64 0] 40) = w1 := ⟨_, rfl⟩
  have hr1 : OwnV (w.alloc (.cells #[.int .i64 0, .bool false, .int .i64 0, .int .i64 0, .int .i64 0, .int .i64 0, .int .i64 0] 40)) w.heap.size zVw := ownV_alloc w zVw w.heap.size rfl 40
  have hb1 : Below w.heap.size w (w.alloc (.cells #[.int .i64 0, .bool false, .int .i64 0, .int .i64 0, .int .i64 0, .int .i64 0, .int .i64 0] 40)) := (Below.refl _ w).alloc (Nat.le_refl _) _
  have hr2 : OwnV w1 w.heap.size zVw := hw1 ▸ hr1.below ((Below.refl _ _).alloc (Nat.le_refl _) _)
  have hr3 : OwnV w1 (w.heap.size + 1) zVw := hw1 ▸ ownV_alloc (w.alloc (.cells #[.int .i64 0, .bool false, .int .i64 0, .int .i64 0, .int .i64 0, .int .i64 0, .int .i64 0] 40)) zVw (w.heap.size + 1) (by simp) 40
  have hb2 : Below w.heap.size w w1 := hw1 ▸ hb1.alloc hb1.size _
  have HV := Lib.hid hv
  have OR1 := Lib.hid hr2
  have OB1 := Lib.hid hr3
  have HB1 := Lib.hid hb2
  have HW1 := Lib.hid hw1
  clear hv hr1 hb1 hr2 hr3 hb2 hw1
  go_enter Try.func21, Try.ntmps21
  go_upto_region 2 with (fail)
  rw [HW1.out]
  go_wp2_with fail
  go_loopw [5, 6] (fun av i wr => ∃ (k : Nat) (best : Vw) (an : Bool), k ≤ l.length ∧ i = .int .i64 k ∧ av = .bool an ∧ Hid (lowF (l.take k) = (best, an)) ∧ Hid (OwnV wr (w.heap.size + 1) best) ∧ Hid (OwnV wr w.heap.size zVw) ∧ Hid (Below w.heap.size w wr)) (fun _ i _ => l.length - (intOf i).toNat)
  case atStart => exact ⟨0, zVw, false, Nat.zero_le _, rfl, rfl, rfl, OB1.out, OR1.out, HB1.out⟩
  case round =>
    obtain ⟨k, best, an, hk, rfl, rfl, HF, OB, OR, HB⟩ := hrel
    by_cases hlt : k < l.length
    · have hst := low_step l k hlt
      rw [HF.out] at hst
      obtain ⟨b2, off, rfl, hB, p0, p1, p2, p3, p4, p5, p6⟩ := (HV.out.below HB.out).at hlt
      obtain ⟨y, hy⟩ : ∃ y, l.getD k zVw = y := ⟨_, rfl⟩
      rw [hy] at p0 p1 p2 p3 p4 p5 p6 hst
      have HY := Lib.hid hy
      clear hy
      have kc : ∀ w', Below wr.heap.size wr w' → C7 w' b2 (off + k * 7) y ∧ C7 w' (w.heap.size + 1) 0 best := fun w' hb => ⟨C7.below ⟨p0, p1, p2, p3, p4, p5, p6⟩ hb hB, OB.out.1.below hb OB.out.lt⟩
      simp only [C7, Nat.zero_add] at kc
      clear p0 p1 p2 p3 p4 p5 p6 hB
      have cT := fun W => rtold_any y.2.1 y.2.2.1 y.2.2.2.1 y.2.2.2.2.1 y.2.2.2.2.2.1 y.2.2.2.2.2.2 W
      have cX := fun W => rless_any y.2.1 y.2.2.1 y.2.2.2.1 y.2.2.2.2.1 y.2.2.2.2.2.1 y.2.2.2.2.2.2 best.2.1 best.2.2.1 best.2.2.2.1 best.2.2.2.2.1 best.2.2.2.2.2.1 best.2.2.2.2.2.2 W
      cases g2 : tld y.2 with
      | false =>
        rw [show told y.2.1 y.2.2.1 y.2.2.2.1 y.2.2.2.2.1 y.2.2.2.2.2.1 y.2.2.2.2.2.2 = false from g2] at cT
        have HST : Hid (lowF (l.take (k + 1)) = (best, an)) := by
          show _ = _
          rw [hst]
          unfold lowS
          rw [if_neg (fun h => by rw [g2] at h; exact absurd h.1 (by decide))]
        clear hst
        go_upto_region 6 with (fail)
        refine wp_region_typed (C := fun w' => Below wr.heap.size wr w') (X := fun w w' => Below w.heap.size w w') (n := 40) (by kernel_rfl) (by kernel_rfl) rfl (fun w => Below.refl _ w) (Below.refl _ _).drew ?_
        refine w_is (fun w => Below.refl _ w) _ (.inl rfl) (fun ρ w hC hc hfn hf => by have e0 : ρ (.tmp 0) = _ := hf 0 (by decide); (conv => lhs; simp [execOp, go_sem, hc, e0])) ?_
        refine w_is (fun w => Below.refl _ w) _ (.inl rfl) (fun ρ w hC hc hfn hf => by have e6 : ρ (.tmp 6) = _ := hf 6 (by decide); (conv => lhs; simp [execOp, go_sem, hc, e6])) ?_
        refine w_is (fun w => Below.refl _ w) _ (.inl rfl) (fun ρ w hC hc hfn hf => by have e14 : ρ (.tmp 14) = _ := hf 14 (by decide); have e15 : ρ (.tmp 15) = _ := hf 15 (by decide); (conv => lhs; simp [execOp, go_sem, hc, e14, e15, hlt])) ?_
        refine w_is (fun w => Below.refl _ w) _ (.inl rfl) (fun ρ w hC hc hfn hf => by have e16 : ρ (.tmp 16) = _ := hf 16 (by decide); (conv => lhs; simp [execOp, go_sem, hc, e16])) ?_
        refine w_is (fun w => Below.refl _ w) _ (.inl rfl) (fun ρ w hC hc hfn hf => by have e17 : ρ (.tmp 17) = _ := hf 17 (by decide); (conv => lhs; simp [execOp, go_sem, hc, e17, kc w hC])) ?_
        refine w_call (Is _) (fun _ _ _ h _ => h) 38 (.inl rfl) (fun ρ w hC hc hfn hf => by have e18 : ρ (.tmp 18) = _ := hf 18 (by decide); exact ⟨_, by (conv => lhs; simp [execOp, resolve, invoke, go_sem, hc, hfn, e18]), tc_below hC (cT w)⟩) ?_
        refine w_is (fun w => Below.refl _ w) _ (.inl rfl) (fun ρ w hC hc hfn hf => by have e19 : ρ (.tmp 19) = _ := hf 19 (by decide); (conv => lhs; simp [execOp, go_sem, hc, e19])) ?_
        refine w_skip rfl rfl (known_is rfl) ?_
        refine w_skip rfl rfl (known_is rfl) ?_
        refine w_skip rfl rfl (known_is rfl) ?_
        refine w_skipU rfl rfl (known_is rfl) ?_
        refine w_skipU rfl rfl (known_is rfl) ?_
        refine w_skipU rfl rfl (known_is rfl) ?_
        refine w_skipU rfl rfl (known_is rfl) ?_
        refine w_skipU rfl rfl (known_is rfl) ?_
        refine w_skipU rfl rfl (known_is rfl) ?_
        refine w_skipU rfl rfl (known_is rfl) ?_
        refine w_skipU rfl rfl (known_is rfl) ?_
        refine w_skip rfl rfl (known_is rfl) ?_
        refine w_is (fun w => Below.refl _ w) _ (.inl rfl) (fun ρ w hC hc hfn hf => by have e20 : ρ (.tmp 20) = _ := hf 20 (by decide); have e32 : ρ (.tmp 32) = _ := hf 32 (by decide); (conv => lhs; simp [execOp, go_sem, hc, e20, e32])) ?_
        intro A V5 hC hn hd hf
        have y0 : A.eval (.tmp 0) = _ := Eq.trans (hf 0) (by conv => lhs; simp [go_sem])
        have y1 : A.eval (.tmp 1) = _ := Eq.trans (hf 1) (by conv => lhs; simp [go_sem])
        have y2 : A.eval (.tmp 2) = _ := Eq.trans (hf 2) (by conv => lhs; simp [go_sem])
        have y3 : A.eval (.tmp 3) = _ := Eq.trans (hf 3) (by conv => lhs; simp [go_sem])
        have y4 : A.eval (.tmp 4) = _ := Eq.trans (hf 4) (by conv => lhs; simp [go_sem])
        have y5 : A.eval (.tmp 5) = _ := Eq.trans (hf 5) (by conv => lhs; simp [go_sem])
        have y6 : A.eval (.tmp 6) = _ := Eq.trans (hf 6) (by conv => lhs; simp [go_sem])
        have y7 : A.eval (.tmp 7) = _ := Eq.trans (hf 7) (by conv => lhs; simp [go_sem])
        have y8 : A.eval (.tmp 8) = _ := Eq.trans (hf 8) (by conv => lhs; simp [go_sem])
        have y9 : A.eval (.tmp 9) = _ := Eq.trans (hf 9) (by conv => lhs; simp [go_sem])
        have y10 : A.eval (.tmp 10) = _ := Eq.trans (hf 10) (by conv => lhs; simp [go_sem])
        have y11 : A.eval (.tmp 11) = _ := Eq.trans (hf 11) (by conv => lhs; simp [go_sem])
        have y12 : A.eval (.tmp 12) = _ := Eq.trans (hf 12) (by conv => lhs; simp [go_sem])
        have y13 : A.eval (.tmp 13) = _ := Eq.trans (hf 13) (by conv => lhs; simp [go_sem])
        have y14 : A.eval (.tmp 14) = _ := hf 14
        have y15 : A.eval (.tmp 15) = _ := hf 15
        have y16 : A.eval (.tmp 16) = _ := hf 16
        have y17 : A.eval (.tmp 17) = _ := hf 17
        have y18 : A.eval (.tmp 18) = _ := hf 18
        have y19 : A.eval (.tmp 19) = _ := hf 19
        have y20 : A.eval (.tmp 20) = _ := hf 20
        have y21 : A.eval (.tmp 21) = _ := hf 21
        have y22 : A.eval (.tmp 22) = _ := hf 22
        have y23 : A.eval (.tmp 23) = _ := hf 23
        have y24 : A.eval (.tmp 24) = _ := hf 24
        have y25 : A.eval (.tmp 25) = _ := hf 25
        have y26 : A.eval (.tmp 26) = _ := hf 26
        have y27 : A.eval (.tmp 27) = _ := hf 27
        have y28 : A.eval (.tmp 28) = _ := hf 28
        have y29 : A.eval (.tmp 29) = _ := hf 29
        have y30 : A.eval (.tmp 30) = _ := hf 30
        have y31 : A.eval (.tmp 31) = _ := hf 31
        have y32 : A.eval (.tmp 32) = _ := hf 32
        have y33 : A.eval (.tmp 33) = _ := hf 33
        have y34 : A.eval (.tmp 34) = _ := Eq.trans (hf 34) (by conv => lhs; simp [go_sem])
        have y35 : A.eval (.tmp 35) = _ := Eq.trans (hf 35) (by conv => lhs; simp [go_sem])
        have y36 : A.eval (.tmp 36) = _ := Eq.trans (hf 36) (by conv => lhs; simp [go_sem])
        have y37 : A.eval (.tmp 37) = _ := Eq.trans (hf 37) (by conv => lhs; simp [go_sem])
        have y38 : A.eval (.tmp 38) = _ := Eq.trans (hf 38) (by conv => lhs; simp [go_sem])
        have y39 : A.eval (.tmp 39) = _ := Eq.trans (hf 39) (by conv => lhs; simp [go_sem])
        clear hf
        have hA := frame_eq hn
        rw [show List.range 40 = [0, 1, 2, 3, 4, 5, 6, 7, 8, 9, 10, 11, 12, 13, 14, 15, 16, 17, 18, 19, 20, 21, 22, 23, 24, 25, 26, 27, 28, 29, 30, 31, 32, 33, 34, 35, 36, 37, 38, 39] from rfl, hd] at hA
        simp only [List.map_cons, List.map_nil, y0, y1, y2, y3, y4, y5, y6, y7, y8, y9, y10, y11, y12, y13, y14, y15, y16, y17, y18, y19, y20, y21, y22, y23, y24, y25, y26, y27, y28, y29, y30, y31, y32, y33, y34, y35, y36, y37, y38, y39] at hA
        clear y0 y1 y2 y3 y4 y5 y6 y7 y8 y9 y10 y11 y12 y13 y14 y15 y16 y17 y18 y19 y20 y21 y22 y23 y24 y25 y26 y27 y28 y29 y30 y31 y32 y33 y34 y35 y36 y37 y38 y39
        clear hn hd
        subst hA
        have HB5 := Lib.hid (HB.out.trans (hC.mono HB.out.size))
        have OB5 := Lib.hid (OB.out.below hC)
        have OR5 := Lib.hid (OR.out.below hC)
        clear hC
        go_wp2_with fail
        go_roundw
        case rel => exact ⟨k + 1, best, an, by omega, by go_num, rfl, HST.out, OB5.out, OR5.out, HB5.out⟩
        case measure => simp [intOf]; omega
      | true =>
        rw [show told y.2.1 y.2.2.1 y.2.2.2.1 y.2.2.2.2.1 y.2.2.2.2.2.1 y.2.2.2.2.2.2 = true from g2] at cT
        cases an with
        | false =>
          have HST : Hid (lowF (l.take (k + 1)) = (y, true)) := by
            show _ = _
            rw [hst]
            unfold lowS
            rw [if_pos ⟨g2, .inl rfl⟩]
          clear hst
          go_upto_region 6 with (fail)
          refine wp_region_typed (C := fun w' => Below wr.heap.size wr w') (X := fun w w' => Below w.heap.size w w') (n := 40) (by kernel_rfl) (by kernel_rfl) rfl (fun w => Below.refl _ w) (Below.refl _ _).drew ?_
          refine w_is (fun w => Below.refl _ w) _ (.inl rfl) (fun ρ w hC hc hfn hf => by have e0 : ρ (.tmp 0) = _ := hf 0 (by decide); (conv => lhs; simp [execOp, go_sem, hc, e0])) ?_
          refine w_is (fun w => Below.refl _ w) _ (.inl rfl) (fun ρ w hC hc hfn hf => by have e6 : ρ (.tmp 6) = _ := hf 6 (by decide); (conv => lhs; simp [execOp, go_sem, hc, e6])) ?_
          refine w_is (fun w => Below.refl _ w) _ (.inl rfl) (fun ρ w hC hc hfn hf => by have e14 : ρ (.tmp 14) = _ := hf 14 (by decide); have e15 : ρ (.tmp 15) = _ := hf 15 (by decide); (conv => lhs; simp [execOp, go_sem, hc, e14, e15, hlt])) ?_
          refine w_is (fun w => Below.refl _ w) _ (.inl rfl) (fun ρ w hC hc hfn hf => by have e16 : ρ (.tmp 16) = _ := hf 16 (by decide); (conv => lhs; simp [execOp, go_sem, hc, e16])) ?_
          refine w_is (fun w => Below.refl _ w) _ (.inl rfl) (fun ρ w hC hc hfn hf => by have e17 : ρ (.tmp 17) = _ := hf 17 (by decide); (conv => lhs; simp [execOp, go_sem, hc, e17, kc w hC])) ?_
          refine w_call (Is _) (fun _ _ _ h _ => h) 38 (.inl rfl) (fun ρ w hC hc hfn hf => by have e18 : ρ (.tmp 18) = _ := hf 18 (by decide); exact ⟨_, by (conv => lhs; simp [execOp, resolve, invoke, go_sem, hc, hfn, e18]), tc_below hC (cT w)⟩) ?_
          refine w_is (fun w => Below.refl _ w) _ (.inl rfl) (fun ρ w hC hc hfn hf => by have e19 : ρ (.tmp 19) = _ := hf 19 (by decide); (conv => lhs; simp [execOp, go_sem, hc, e19])) ?_
          refine w_is (fun w => Below.refl _ w) _ (.inr ⟨6, 20, true, rfl, rfl, known_is rfl⟩) (fun ρ w hC hc hfn hf => by have e5 : ρ (.tmp 5) = _ := hf 5 (by decide); (conv => lhs; simp [execOp, go_sem, hc, e5])) ?_
          refine w_is (fun w => Below.refl _ w) _ (.inr ⟨6, 20, true, rfl, rfl, known_is rfl⟩) (fun ρ w hC hc hfn hf => by have e21 : ρ (.tmp 21) = _ := hf 21 (by decide); (conv => lhs; simp [execOp, go_sem, hc, e21])) ?_
          refine w_is (fun w => Below.refl _ w) _ (.inr ⟨6, 20, true, rfl, rfl, known_is rfl⟩) (fun ρ w hC hc hfn hf => by have e22 : ρ (.tmp 22) = _ := hf 22 (by decide); (conv => lhs; simp [execOp, go_sem, hc, e22])) ?_
          refine w_skip rfl rfl (known_is rfl) ?_
          refine w_skip rfl rfl (known_is rfl) ?_
          refine w_skip rfl rfl (known_is rfl) ?_
          refine w_skip rfl rfl (known_is rfl) ?_
          refine w_skip rfl rfl (known_is rfl) ?_
          refine w_skip rfl rfl (known_is rfl) ?_
          refine w_skip rfl rfl (known_is rfl) ?_
          refine w_skip rfl rfl (known_is rfl) ?_
          refine w_is (fun w => Below.refl _ w) _ (.inr ⟨6, 20, true, rfl, rfl, known_is rfl⟩) (fun ρ w hC hc hfn hf => by have e23 : ρ (.tmp 23) = _ := hf 23 (by decide); have e31 : ρ (.tmp 31) = _ := hf 31 (by decide); (conv => lhs; simp [execOp, go_sem, hc, e23, e31])) ?_
          refine w_is (fun w => Below.refl _ w) _ (.inl rfl) (fun ρ w hC hc hfn hf => by have e20 : ρ (.tmp 20) = _ := hf 20 (by decide); have e32 : ρ (.tmp 32) = _ := hf 32 (by decide); (conv => lhs; simp [execOp, go_sem, hc, e20, e32])) ?_
          intro A V5 hC hn hd hf
          have y0 : A.eval (.tmp 0) = _ := Eq.trans (hf 0) (by conv => lhs; simp [go_sem])
          have y1 : A.eval (.tmp 1) = _ := Eq.trans (hf 1) (by conv => lhs; simp [go_sem])
          have y2 : A.eval (.tmp 2) = _ := Eq.trans (hf 2) (by conv => lhs; simp [go_sem])
          have y3 : A.eval (.tmp 3) = _ := Eq.trans (hf 3) (by conv => lhs; simp [go_sem])
          have y4 : A.eval (.tmp 4) = _ := Eq.trans (hf 4) (by conv => lhs; simp [go_sem])
          have y5 : A.eval (.tmp 5) = _ := Eq.trans (hf 5) (by conv => lhs; simp [go_sem])
          have y6 : A.eval (.tmp 6) = _ := Eq.trans (hf 6) (by conv => lhs; simp [go_sem])
          have y7 : A.eval (.tmp 7) = _ := Eq.trans (hf 7) (by conv => lhs; simp [go_sem])
          have y8 : A.eval (.tmp 8) = _ := Eq.trans (hf 8) (by conv => lhs; simp [go_sem])
          have y9 : A.eval (.tmp 9) = _ := Eq.trans (hf 9) (by conv => lhs; simp [go_sem])
          have y10 : A.eval (.tmp 10) = _ := Eq.trans (hf 10) (by conv => lhs; simp [go_sem])
          have y11 : A.eval (.tmp 11) = _ := Eq.trans (hf 11) (by conv => lhs; simp [go_sem])
          have y12 : A.eval (.tmp 12) = _ := Eq.trans (hf 12) (by conv => lhs; simp [go_sem])
          have y13 : A.eval (.tmp 13) = _ := Eq.trans (hf 13) (by conv => lhs; simp [go_sem])
          have y14 : A.eval (.tmp 14) = _ := hf 14
          have y15 : A.eval (.tmp 15) = _ := hf 15
          have y16 : A.eval (.tmp 16) = _ := hf 16
          have y17 : A.eval (.tmp 17) = _ := hf 17
          have y18 : A.eval (.tmp 18) = _ := hf 18
          have y19 : A.eval (.tmp 19) = _ := hf 19
          have y20 : A.eval (.tmp 20) = _ := hf 20
          have y21 : A.eval (.tmp 21) = _ := hf 21
          have y22 : A.eval (.tmp 22) = _ := hf 22
          have y23 : A.eval (.tmp 23) = _ := hf 23
          have y24 : A.eval (.tmp 24) = _ := hf 24
          have y25 : A.eval (.tmp 25) = _ := hf 25
          have y26 : A.eval (.tmp 26) = _ := hf 26
          have y27 : A.eval (.tmp 27) = _ := hf 27
          have y28 : A.eval (.tmp 28) = _ := hf 28
          have y29 : A.eval (.tmp 29) = _ := hf 29
          have y30 : A.eval (.tmp 30) = _ := hf 30
          have y31 : A.eval (.tmp 31) = _ := hf 31
          have y32 : A.eval (.tmp 32) = _ := hf 32
          have y33 : A.eval (.tmp 33) = _ := hf 33
          have y34 : A.eval (.tmp 34) = _ := Eq.trans (hf 34) (by conv => lhs; simp [go_sem])
          have y35 : A.eval (.tmp 35) = _ := Eq.trans (hf 35) (by conv => lhs; simp [go_sem])
          have y36 : A.eval (.tmp 36) = _ := Eq.trans (hf 36) (by conv => lhs; simp [go_sem])
          have y37 : A.eval (.tmp 37) = _ := Eq.trans (hf 37) (by conv => lhs; simp [go_sem])
          have y38 : A.eval (.tmp 38) = _ := Eq.trans (hf 38) (by conv => lhs; simp [go_sem])
          have y39 : A.eval (.tmp 39) = _ := Eq.trans (hf 39) (by conv => lhs; simp [go_sem])
          clear hf
          have hA := frame_eq hn
          rw [show List.range 40 = [0, 1, 2, 3, 4, 5, 6, 7, 8, 9, 10, 11, 12, 13, 14, 15, 16, 17, 18, 19, 20, 21, 22, 23, 24, 25, 26, 27, 28, 29, 30, 31, 32, 33, 34, 35, 36, 37, 38, 39] from rfl, hd] at hA
          simp only [List.map_cons, List.map_nil, y0, y1, y2, y3, y4, y5, y6, y7, y8, y9, y10, y11, y12, y13, y14, y15, y16, y17, y18, y19, y20, y21, y22, y23, y24, y25, y26, y27, y28, y29, y30, y31, y32, y33, y34, y35, y36, y37, y38, y39] at hA
          clear y0 y1 y2 y3 y4 y5 y6 y7 y8 y9 y10 y11 y12 y13 y14 y15 y16 y17 y18 y19 y20 y21 y22 y23 y24 y25 y26 y27 y28 y29 y30 y31 y32 y33 y34 y35 y36 y37 y38 y39
          clear hn hd
          subst hA
          have HB5 := Lib.hid (HB.out.trans (hC.mono HB.out.size))
          have OB5 := Lib.hid (OB.out.below hC)
          have OR5 := Lib.hid (OR.out.below hC)
          clear hC
          obtain ⟨hB5, p0, p1, p2, p3, p4, p5, p6⟩ := (HV.out.below HB5.out).all hlt
          rw [HY.out] at p0 p1 p2 p3 p4 p5 p6
          obtain ⟨⟨e0, e1, e2, e3, e4, e5, e6⟩, ef⟩ := OB5.out
          go_wp2_with fail
          obtain ⟨V7, hV7⟩ : ∃ V7, ((((((V5.setCell ⟨(w.heap.size + 1), 0, none⟩ (.int .i64 y.1)).setCell ⟨(w.heap.size + 1), 1, none⟩ (.bool y.2.1)).setCell ⟨(w.heap.size + 1), 2, none⟩ (.int .i64 y.2.2.1)).setCell ⟨(w.heap.size + 1), 3, none⟩ (.int .i64 y.2.2.2.1)).setCell ⟨(w.heap.size + 1), 4, none⟩ (.int .i64 y.2.2.2.2.1)).setCell ⟨(w.heap.size + 1), 5, none⟩ (.int .i64 y.2.2.2.2.2.1)).setCell ⟨(w.heap.size + 1), 6, none⟩ (.int .i64 y.2.2.2.2.2.2) = V7 := ⟨_, rfl⟩
          have OB7 := Lib.hid (hV7 ▸ ownV_set7 OB5.out y : OwnV V7 (w.heap.size + 1) y)
          have OR7 := Lib.hid (hV7 ▸ ownV_off7 OR5.out (by omega) y : OwnV V7 w.heap.size zVw)
          have hb7 : Below w.heap.size w V7 := hV7 ▸ vbel_set7 HB5.out (by omega) y
          have HB7 := Lib.hid hb7
          simp only [hV7]
          clear e0 e1 e2 e3 e4 e5 e6 ef hV7 hb7 p0 p1 p2 p3 p4 p5 p6 hB5
          go_roundw
          case rel => exact ⟨k + 1, y, true, by omega, by go_num, rfl, HST.out, OB7.out, OR7.out, HB7.out⟩
          case measure => simp [intOf]; omega
        | true =>
          cases g3 : lsx y.2 best.2 with
          | false =>
            rw [show lessB y.2.1 y.2.2.1 y.2.2.2.1 y.2.2.2.2.1 y.2.2.2.2.2.1 y.2.2.2.2.2.2 best.2.1 best.2.2.1 best.2.2.2.1 best.2.2.2.2.1 best.2.2.2.2.2.1 best.2.2.2.2.2.2 = false from g3] at cX
            have HST : Hid (lowF (l.take (k + 1)) = (best, true)) := by
              show _ = _
              rw [hst]
              unfold lowS
              rw [if_neg (fun h => by rw [g3] at h; exact h.2.elim (fun h => by cases h) (fun h => by cases h))]
            clear hst
            go_upto_region 6 with (fail)
            refine wp_region_typed (C := fun w' => Below wr.heap.size wr w') (X := fun w w' => Below w.heap.size w w') (n := 40) (by kernel_rfl) (by kernel_rfl) rfl (fun w => Below.refl _ w) (Below.refl _ _).drew ?_
            refine w_is (fun w => Below.refl _ w) _ (.inl rfl) (fun ρ w hC hc hfn hf => by have e0 : ρ (.tmp 0) = _ := hf 0 (by decide); (conv => lhs; simp [execOp, go_sem, hc, e0])) ?_
            refine w_is (fun w => Below.refl _ w) _ (.inl rfl) (fun ρ w hC hc hfn hf => by have e6 : ρ (.tmp 6) = _ := hf 6 (by decide); (conv => lhs; simp [execOp, go_sem, hc, e6])) ?_
            refine w_is (fun w => Below.refl _ w) _ (.inl rfl) (fun ρ w hC hc hfn hf => by have e14 : ρ (.tmp 14) = _ := hf 14 (by decide); have e15 : ρ (.tmp 15) = _ := hf 15 (by decide); (conv => lhs; simp [execOp, go_sem, hc, e14, e15, hlt])) ?_
            refine w_is (fun w => Below.refl _ w) _ (.inl rfl) (fun ρ w hC hc hfn hf => by have e16 : ρ (.tmp 16) = _ := hf 16 (by decide); (conv => lhs; simp [execOp, go_sem, hc, e16])) ?_
            refine w_is (fun w => Below.refl _ w) _ (.inl rfl) (fun ρ w hC hc hfn hf => by have e17 : ρ (.tmp 17) = _ := hf 17 (by decide); (conv => lhs; simp [execOp, go_sem, hc, e17, kc w hC])) ?_
            refine w_call (Is _) (fun _ _ _ h _ => h) 38 (.inl rfl) (fun ρ w hC hc hfn hf => by have e18 : ρ (.tmp 18) = _ := hf 18 (by decide); exact ⟨_, by (conv => lhs; simp [execOp, resolve, invoke, go_sem, hc, hfn, e18]), tc_below hC (cT w)⟩) ?_
            refine w_is (fun w => Below.refl _ w) _ (.inl rfl) (fun ρ w hC hc hfn hf => by have e19 : ρ (.tmp 19) = _ := hf 19 (by decide); (conv => lhs; simp [execOp, go_sem, hc, e19])) ?_
            refine w_is (fun w => Below.refl _ w) _ (.inr ⟨6, 20, true, rfl, rfl, known_is rfl⟩) (fun ρ w hC hc hfn hf => by have e5 : ρ (.tmp 5) = _ := hf 5 (by decide); (conv => lhs; simp [execOp, go_sem, hc, e5])) ?_
            refine w_is (fun w => Below.refl _ w) _ (.inr ⟨6, 20, true, rfl, rfl, known_is rfl⟩) (fun ρ w hC hc hfn hf => by have e21 : ρ (.tmp 21) = _ := hf 21 (by decide); (conv => lhs; simp [execOp, go_sem, hc, e21])) ?_
            refine w_is (fun w => Below.refl _ w) _ (.inr ⟨6, 20, true, rfl, rfl, known_is rfl⟩) (fun ρ w hC hc hfn hf => by have e22 : ρ (.tmp 22) = _ := hf 22 (by decide); (conv => lhs; simp [execOp, go_sem, hc, e22])) ?_
            refine w_is (fun w => Below.refl _ w) _ (.inr ⟨9, 23, false, rfl, rfl, known_is rfl⟩) (fun ρ w hC hc hfn hf => by have e0 : ρ (.tmp 0) = _ := hf 0 (by decide); (conv => lhs; simp [execOp, go_sem, hc, e0])) ?_
            refine w_is (fun w => Below.refl _ w) _ (.inr ⟨9, 23, false, rfl, rfl, known_is rfl⟩) (fun ρ w hC hc hfn hf => by have e6 : ρ (.tmp 6) = _ := hf 6 (by decide); (conv => lhs; simp [execOp, go_sem, hc, e6])) ?_
            refine w_is (fun w => Below.refl _ w) _ (.inr ⟨9, 23, false, rfl, rfl, known_is rfl⟩) (fun ρ w hC hc hfn hf => by have e24 : ρ (.tmp 24) = _ := hf 24 (by decide); have e25 : ρ (.tmp 25) = _ := hf 25 (by decide); (conv => lhs; simp [execOp, go_sem, hc, e24, e25, hlt])) ?_
            refine w_is (fun w => Below.refl _ w) _ (.inr ⟨9, 23, false, rfl, rfl, known_is rfl⟩) (fun ρ w hC hc hfn hf => by have e26 : ρ (.tmp 26) = _ := hf 26 (by decide); (conv => lhs; simp [execOp, go_sem, hc, e26])) ?_
            refine w_is (fun w => Below.refl _ w) _ (.inr ⟨9, 23, false, rfl, rfl, known_is rfl⟩) (fun ρ w hC hc hfn hf => by have e27 : ρ (.tmp 27) = _ := hf 27 (by decide); (conv => lhs; simp [execOp, go_sem, hc, e27, kc w hC])) ?_
            refine w_is (fun w => Below.refl _ w) _ (.inr ⟨9, 23, false, rfl, rfl, known_is rfl⟩) (fun ρ w hC hc hfn hf => by have e4 : ρ (.tmp 4) = _ := hf 4 (by decide); (conv => lhs; simp [execOp, go_sem, hc, e4])) ?_
            refine w_is (fun w => Below.refl _ w) _ (.inr ⟨9, 23, false, rfl, rfl, known_is rfl⟩) (fun ρ w hC hc hfn hf => by have e29 : ρ (.tmp 29) = _ := hf 29 (by decide); (conv => lhs; simp [execOp, go_sem, hc, e29, kc w hC])) ?_
            refine w_call (Is _) (fun _ _ _ h _ => h) 39 (.inr ⟨9, 23, false, rfl, rfl, known_is rfl⟩) (fun ρ w hC hc hfn hf => by have e28 : ρ (.tmp 28) = _ := hf 28 (by decide); have e30 : ρ (.tmp 30) = _ := hf 30 (by decide); exact ⟨_, by (conv => lhs; simp [execOp, resolve, invoke, go_sem, hc, hfn, e28, e30]), tc_below hC (cX w)⟩) ?_
            refine w_is (fun w => Below.refl _ w) _ (.inr ⟨6, 20, true, rfl, rfl, known_is rfl⟩) (fun ρ w hC hc hfn hf => by have e23 : ρ (.tmp 23) = _ := hf 23 (by decide); have e31 : ρ (.tmp 31) = _ := hf 31 (by decide); (conv => lhs; simp [execOp, go_sem, hc, e23, e31])) ?_
            refine w_is (fun w => Below.refl _ w) _ (.inl rfl) (fun ρ w hC hc hfn hf => by have e20 : ρ (.tmp 20) = _ := hf 20 (by decide); have e32 : ρ (.tmp 32) = _ := hf 32 (by decide); (conv => lhs; simp [execOp, go_sem, hc, e20, e32])) ?_
            intro A V5 hC hn hd hf
            have y0 : A.eval (.tmp 0) = _ := Eq.trans (hf 0) (by conv => lhs; simp [go_sem])
            have y1 : A.eval (.tmp 1) = _ := Eq.trans (hf 1) (by conv => lhs; simp [go_sem])
            have y2 : A.eval (.tmp 2) = _ := Eq.trans (hf 2) (by conv => lhs; simp [go_sem])
            have y3 : A.eval (.tmp 3) = _ := Eq.trans (hf 3) (by conv => lhs; simp [go_sem])
            have y4 : A.eval (.tmp 4) = _ := Eq.trans (hf 4) (by conv => lhs; simp [go_sem])
            have y5 : A.eval (.tmp 5) = _ := Eq.trans (hf 5) (by conv => lhs; simp [go_sem])
            have y6 : A.eval (.tmp 6) = _ := Eq.trans (hf 6) (by conv => lhs; simp [go_sem])
            have y7 : A.eval (.tmp 7) = _ := Eq.trans (hf 7) (by conv => lhs; simp [go_sem])
            have y8 : A.eval (.tmp 8) = _ := Eq.trans (hf 8) (by conv => lhs; simp [go_sem])
            have y9 : A.eval (.tmp 9) = _ := Eq.trans (hf 9) (by conv => lhs; simp [go_sem])
            have y10 : A.eval (.tmp 10) = _ := Eq.trans (hf 10) (by conv => lhs; simp [go_sem])
            have y11 : A.eval (.tmp 11) = _ := Eq.trans (hf 11) (by conv => lhs; simp [go_sem])
            have y12 : A.eval (.tmp 12) = _ := Eq.trans (hf 12) (by conv => lhs; simp [go_sem])
            have y13 : A.eval (.tmp 13) = _ := Eq.trans (hf 13) (by conv => lhs; simp [go_sem])
            have y14 : A.eval (.tmp 14) = _ := hf 14
            have y15 : A.eval (.tmp 15) = _ := hf 15
            have y16 : A.eval (.tmp 16) = _ := hf 16
            have y17 : A.eval (.tmp 17) = _ := hf 17
            have y18 : A.eval (.tmp 18) = _ := hf 18
            have y19 : A.eval (.tmp 19) = _ := hf 19
            have y20 : A.eval (.tmp 20) = _ := hf 20
            have y21 : A.eval (.tmp 21) = _ := hf 21
            have y22 : A.eval (.tmp 22) = _ := hf 22
            have y23 : A.eval (.tmp 23) = _ := hf 23
            have y24 : A.eval (.tmp 24) = _ := hf 24
            have y25 : A.eval (.tmp 25) = _ := hf 25
            have y26 : A.eval (.tmp 26) = _ := hf 26
            have y27 : A.eval (.tmp 27) = _ := hf 27
            have y28 : A.eval (.tmp 28) = _ := hf 28
            have y29 : A.eval (.tmp 29) = _ := hf 29
            have y30 : A.eval (.tmp 30) = _ := hf 30
            have y31 : A.eval (.tmp 31) = _ := hf 31
            have y32 : A.eval (.tmp 32) = _ := hf 32
            have y33 : A.eval (.tmp 33) = _ := hf 33
            have y34 : A.eval (.tmp 34) = _ := Eq.trans (hf 34) (by conv => lhs; simp [go_sem])
            have y35 : A.eval (.tmp 35) = _ := Eq.trans (hf 35) (by conv => lhs; simp [go_sem])
            have y36 : A.eval (.tmp 36) = _ := Eq.trans (hf 36) (by conv => lhs; simp [go_sem])
            have y37 : A.eval (.tmp 37) = _ := Eq.trans (hf 37) (by conv => lhs; simp [go_sem])
            have y38 : A.eval (.tmp 38) = _ := Eq.trans (hf 38) (by conv => lhs; simp [go_sem])
            have y39 : A.eval (.tmp 39) = _ := Eq.trans (hf 39) (by conv => lhs; simp [go_sem])
            clear hf
            have hA := frame_eq hn
            rw [show List.range 40 = [0, 1, 2, 3, 4, 5, 6, 7, 8, 9, 10, 11, 12, 13, 14, 15, 16, 17, 18, 19, 20, 21, 22, 23, 24, 25, 26, 27, 28, 29, 30, 31, 32, 33, 34, 35, 36, 37, 38, 39] from rfl, hd] at hA
            simp only [List.map_cons, List.map_nil, y0, y1, y2, y3, y4, y5, y6, y7, y8, y9, y10, y11, y12, y13, y14, y15, y16, y17, y18, y19, y20, y21, y22, y23, y24, y25, y26, y27, y28, y29, y30, y31, y32, y33, y34, y35, y36, y37, y38, y39] at hA
            clear y0 y1 y2 y3 y4 y5 y6 y7 y8 y9 y10 y11 y12 y13 y14 y15 y16 y17 y18 y19 y20 y21 y22 y23 y24 y25 y26 y27 y28 y29 y30 y31 y32 y33 y34 y35 y36 y37 y38 y39
            clear hn hd
            subst hA
            have HB5 := Lib.hid (HB.out.trans (hC.mono HB.out.size))
            have OB5 := Lib.hid (OB.out.below hC)
            have OR5 := Lib.hid (OR.out.below hC)
            clear hC
            go_wp2_with fail
            go_roundw
            case rel => exact ⟨k + 1, best, true, by omega, by go_num, rfl, HST.out, OB5.out, OR5.out, HB5.out⟩
            case measure => simp [intOf]; omega
          | true =>
            rw [show lessB y.2.1 y.2.2.1 y.2.2.2.1 y.2.2.2.2.1 y.2.2.2.2.2.1 y.2.2.2.2.2.2 best.2.1 best.2.2.1 best.2.2.2.1 best.2.2.2.2.1 best.2.2.2.2.2.1 best.2.2.2.2.2.2 = true from g3] at cX
            have HST : Hid (lowF (l.take (k + 1)) = (y, true)) := by
              show _ = _
              rw [hst]
              unfold lowS
              rw [if_pos ⟨g2, .inr g3⟩]
            clear hst
            go_upto_region 6 with (fail)
            refine wp_region_typed (C := fun w' => Below wr.heap.size wr w') (X := fun w w' => Below w.heap.size w w') (n := 40) (by kernel_rfl) (by kernel_rfl) rfl (fun w => Below.refl _ w) (Below.refl _ _).drew ?_
            refine w_is (fun w => Below.refl _ w) _ (.inl rfl) (fun ρ w hC hc hfn hf => by have e0 : ρ (.tmp 0) = _ := hf 0 (by decide); (conv => lhs; simp [execOp, go_sem, hc, e0])) ?_
            refine w_is (fun w => Below.refl _ w) _ (.inl rfl) (fun ρ w hC hc hfn hf => by have e6 : ρ (.tmp 6) = _ := hf 6 (by decide); (conv => lhs; simp [execOp, go_sem, hc, e6])) ?_
            refine w_is (fun w => Below.refl _ w) _ (.inl rfl) (fun ρ w hC hc hfn hf => by have e14 : ρ (.tmp 14) = _ := hf 14 (by decide); have e15 : ρ (.tmp 15) = _ := hf 15 (by decide); (conv => lhs; simp [execOp, go_sem, hc, e14, e15, hlt])) ?_
            refine w_is (fun w => Below.refl _ w) _ (.inl rfl) (fun ρ w hC hc hfn hf => by have e16 : ρ (.tmp 16) = _ := hf 16 (by decide); (conv => lhs; simp [execOp, go_sem, hc, e16])) ?_
            refine w_is (fun w => Below.refl _ w) _ (.inl rfl) (fun ρ w hC hc hfn hf => by have e17 : ρ (.tmp 17) = _ := hf 17 (by decide); (conv => lhs; simp [execOp, go_sem, hc, e17, kc w hC])) ?_
            refine w_call (Is _) (fun _ _ _ h _ => h) 38 (.inl rfl) (fun ρ w hC hc hfn hf => by have e18 : ρ (.tmp 18) = _ := hf 18 (by decide); exact ⟨_, by (conv => lhs; simp [execOp, resolve, invoke, go_sem, hc, hfn, e18]), tc_below hC (cT w)⟩) ?_
            refine w_is (fun w => Below.refl _ w) _ (.inl rfl) (fun ρ w hC hc hfn hf => by have e19 : ρ (.tmp 19) = _ := hf 19 (by decide); (conv => lhs; simp [execOp, go_sem, hc, e19])) ?_
            refine w_is (fun w => Below.refl _ w) _ (.inr ⟨6, 20, true, rfl, rfl, known_is rfl⟩) (fun ρ w hC hc hfn hf => by have e5 : ρ (.tmp 5) = _ := hf 5 (by decide); (conv => lhs; simp [execOp, go_sem, hc, e5])) ?_
            refine w_is (fun w => Below.refl _ w) _ (.inr ⟨6, 20, true, rfl, rfl, known_is rfl⟩) (fun ρ w hC hc hfn hf => by have e21 : ρ (.tmp 21) = _ := hf 21 (by decide); (conv => lhs; simp [execOp, go_sem, hc, e21])) ?_
            refine w_is (fun w => Below.refl _ w) _ (.inr ⟨6, 20, true, rfl, rfl, known_is rfl⟩) (fun ρ w hC hc hfn hf => by have e22 : ρ (.tmp 22) = _ := hf 22 (by decide); (conv => lhs; simp [execOp, go_sem, hc, e22])) ?_
            refine w_is (fun w => Below.refl _ w) _ (.inr ⟨9, 23, false, rfl, rfl, known_is rfl⟩) (fun ρ w hC hc hfn hf => by have e0 : ρ (.tmp 0) = _ := hf 0 (by decide); (conv => lhs; simp [execOp, go_sem, hc, e0])) ?_
            refine w_is (fun w => Below.refl _ w) _ (.inr ⟨9, 23, false, rfl, rfl, known_is rfl⟩) (fun ρ w hC hc hfn hf => by have e6 : ρ (.tmp 6) = _ := hf 6 (by decide); (conv => lhs; simp [execOp, go_sem, hc, e6])) ?_
            refine w_is (fun w => Below.refl _ w) _ (.inr ⟨9, 23, false, rfl, rfl, known_is rfl⟩) (fun ρ w hC hc hfn hf => by have e24 : ρ (.tmp 24) = _ := hf 24 (by decide); have e25 : ρ (.tmp 25) = _ := hf 25 (by decide); (conv => lhs; simp [execOp, go_sem, hc, e24, e25, hlt])) ?_
            refine w_is (fun w => Below.refl _ w) _ (.inr ⟨9, 23, false, rfl, rfl, known_is rfl⟩) (fun ρ w hC hc hfn hf => by have e26 : ρ (.tmp 26) = _ := hf 26 (by decide); (conv => lhs; simp [execOp, go_sem, hc, e26])) ?_
            refine w_is (fun w => Below.refl _ w) _ (.inr ⟨9, 23, false, rfl, rfl, known_is rfl⟩) (fun ρ w hC hc hfn hf => by have e27 : ρ (.tmp 27) = _ := hf 27 (by decide); (conv => lhs; simp [execOp, go_sem, hc, e27, kc w hC])) ?_
            refine w_is (fun w => Below.refl _ w) _ (.inr ⟨9, 23, false, rfl, rfl, known_is rfl⟩) (fun ρ w hC hc hfn hf => by have e4 : ρ (.tmp 4) = _ := hf 4 (by decide); (conv => lhs; simp [execOp, go_sem, hc, e4])) ?_
            refine w_is (fun w => Below.refl _ w) _ (.inr ⟨9, 23, false, rfl, rfl, known_is rfl⟩) (fun ρ w hC hc hfn hf => by have e29 : ρ (.tmp 29) = _ := hf 29 (by decide); (conv => lhs; simp [execOp, go_sem, hc, e29, kc w hC])) ?_
            refine w_call (Is _) (fun _ _ _ h _ => h) 39 (.inr ⟨9, 23, false, rfl, rfl, known_is rfl⟩) (fun ρ w hC hc hfn hf => by have e28 : ρ (.tmp 28) = _ := hf 28 (by decide); have e30 : ρ (.tmp 30) = _ := hf 30 (by decide); exact ⟨_, by (conv => lhs; simp [execOp, resolve, invoke, go_sem, hc, hfn, e28, e30]), tc_below hC (cX w)⟩) ?_
            refine w_is (fun w => Below.refl _ w) _ (.inr ⟨6, 20, true, rfl, rfl, known_is rfl⟩) (fun ρ w hC hc hfn hf => by have e23 : ρ (.tmp 23) = _ := hf 23 (by decide); have e31 : ρ (.tmp 31) = _ := hf 31 (by decide); (conv => lhs; simp [execOp, go_sem, hc, e23, e31])) ?_
            refine w_is (fun w => Below.refl _ w) _ (.inl rfl) (fun ρ w hC hc hfn hf => by have e20 : ρ (.tmp 20) = _ := hf 20 (by decide); have e32 : ρ (.tmp 32) = _ := hf 32 (by decide); (conv => lhs; simp [execOp, go_sem, hc, e20, e32])) ?_
            intro A V5 hC hn hd hf
            have y0 : A.eval (.tmp 0) = _ := Eq.trans (hf 0) (by conv => lhs; simp [go_sem])
            have y1 : A.eval (.tmp 1) = _ := Eq.trans (hf 1) (by conv => lhs; simp [go_sem])
            have y2 : A.eval (.tmp 2) = _ := Eq.trans (hf 2) (by conv => lhs; simp [go_sem])
            have y3 : A.eval (.tmp 3) = _ := Eq.trans (hf 3) (by conv => lhs; simp [go_sem])
            have y4 : A.eval (.tmp 4) = _ := Eq.trans (hf 4) (by conv => lhs; simp [go_sem])
            have y5 : A.eval (.tmp 5) = _ := Eq.trans (hf 5) (by conv => lhs; simp [go_sem])
            have y6 : A.eval (.tmp 6) = _ := Eq.trans (hf 6) (by conv => lhs; simp [go_sem])
            have y7 : A.eval (.tmp 7) = _ := Eq.trans (hf 7) (by conv => lhs; simp [go_sem])
            have y8 : A.eval (.tmp 8) = _ := Eq.trans (hf 8) (by conv => lhs; simp [go_sem])
            have y9 : A.eval (.tmp 9) = _ := Eq.trans (hf 9) (by conv => lhs; simp [go_sem])
            have y10 : A.eval (.tmp 10) = _ := Eq.trans (hf 10) (by conv => lhs; simp [go_sem])
            have y11 : A.eval (.tmp 11) = _ := Eq.trans (hf 11) (by conv => lhs; simp [go_sem])
            have y12 : A.eval (.tmp 12) = _ := Eq.trans (hf 12) (by conv => lhs; simp [go_sem])
            have y13 : A.eval (.tmp 13) = _ := Eq.trans (hf 13) (by conv => lhs; simp [go_sem])
            have y14 : A.eval (.tmp 14) = _ := hf 14
            have y15 : A.eval (.tmp 15) = _ := hf 15
            have y16 : A.eval (.tmp 16) = _ := hf 16
            have y17 : A.eval (.tmp 17) = _ := hf 17
            have y18 : A.eval (.tmp 18) = _ := hf 18
            have y19 : A.eval (.tmp 19) = _ := hf 19
            have y20 : A.eval (.tmp 20) = _ := hf 20
            have y21 : A.eval (.tmp 21) = _ := hf 21
            have y22 : A.eval (.tmp 22) = _ := hf 22
            have y23 : A.eval (.tmp 23) = _ := hf 23
            have y24 : A.eval (.tmp 24) = _ := hf 24
            have y25 : A.eval (.tmp 25) = _ := hf 25
            have y26 : A.eval (.tmp 26) = _ := hf 26
            have y27 : A.eval (.tmp 27) = _ := hf 27
            have y28 : A.eval (.tmp 28) = _ := hf 28
            have y29 : A.eval (.tmp 29) = _ := hf 29
            have y30 : A.eval (.tmp 30) = _ := hf 30
            have y31 : A.eval (.tmp 31) = _ := hf 31
            have y32 : A.eval (.tmp 32) = _ := hf 32
            have y33 : A.eval (.tmp 33) = _ := hf 33
            have y34 : A.eval (.tmp 34) = _ := Eq.trans (hf 34) (by conv => lhs; simp [go_sem])
            have y35 : A.eval (.tmp 35) = _ := Eq.trans (hf 35) (by conv => lhs; simp [go_sem])
            have y36 : A.eval (.tmp 36) = _ := Eq.trans (hf 36) (by conv => lhs; simp [go_sem])
            have y37 : A.eval (.tmp 37) = _ := Eq.trans (hf 37) (by conv => lhs; simp [go_sem])
            have y38 : A.eval (.tmp 38) = _ := Eq.trans (hf 38) (by conv => lhs; simp [go_sem])
            have y39 : A.eval (.tmp 39) = _ := Eq.trans (hf 39) (by conv => lhs; simp [go_sem])
            clear hf
            have hA := frame_eq hn
            rw [show List.range 40 = [0, 1, 2, 3, 4, 5, 6, 7, 8, 9, 10, 11, 12, 13, 14, 15, 16, 17, 18, 19, 20, 21, 22, 23, 24, 25, 26, 27, 28, 29, 30, 31, 32, 33, 34, 35, 36, 37, 38, 39] from rfl, hd] at hA
            simp only [List.map_cons, List.map_nil, y0, y1, y2, y3, y4, y5, y6, y7, y8, y9, y10, y11, y12, y13, y14, y15, y16, y17, y18, y19, y20, y21, y22, y23, y24, y25, y26, y27, y28, y29, y30, y31, y32, y33, y34, y35, y36, y37, y38, y39] at hA
            clear y0 y1 y2 y3 y4 y5 y6 y7 y8 y9 y10 y11 y12 y13 y14 y15 y16 y17 y18 y19 y20 y21 y22 y23 y24 y25 y26 y27 y28 y29 y30 y31 y32 y33 y34 y35 y36 y37 y38 y39
            clear hn hd
            subst hA
            have HB5 := Lib.hid (HB.out.trans (hC.mono HB.out.size))
            have OB5 := Lib.hid (OB.out.below hC)
            have OR5 := Lib.hid (OR.out.below hC)
            clear hC
            obtain ⟨hB5, p0, p1, p2, p3, p4, p5, p6⟩ := (HV.out.below HB5.out).all hlt
            rw [HY.out] at p0 p1 p2 p3 p4 p5 p6
            obtain ⟨⟨e0, e1, e2, e3, e4, e5, e6⟩, ef⟩ := OB5.out
            go_wp2_with fail
            obtain ⟨V7, hV7⟩ : ∃ V7, ((((((V5.setCell ⟨(w.heap.size + 1), 0, none⟩ (.int .i64 y.1)).setCell ⟨(w.heap.size + 1), 1, none⟩ (.bool y.2.1)).setCell ⟨(w.heap.size + 1), 2, none⟩ (.int .i64 y.2.2.1)).setCell ⟨(w.heap.size + 1), 3, none⟩ (.int .i64 y.2.2.2.1)).setCell ⟨(w.heap.size + 1), 4, none⟩ (.int .i64 y.2.2.2.2.1)).setCell ⟨(w.heap.size + 1), 5, none⟩ (.int .i64 y.2.2.2.2.2.1)).setCell ⟨(w.heap.size + 1), 6, none⟩ (.int .i64 y.2.2.2.2.2.2) = V7 := ⟨_, rfl⟩
            have OB7 := Lib.hid (hV7 ▸ ownV_set7 OB5.out y : OwnV V7 (w.heap.size + 1) y)
            have OR7 := Lib.hid (hV7 ▸ ownV_off7 OR5.out (by omega) y : OwnV V7 w.heap.size zVw)
            have hb7 : Below w.heap.size w V7 := hV7 ▸ vbel_set7 HB5.out (by omega) y
            have HB7 := Lib.hid hb7
            simp only [hV7]
            clear e0 e1 e2 e3 e4 e5 e6 ef hV7 hb7 p0 p1 p2 p3 p4 p5 p6 hB5
            go_roundw
            case rel => exact ⟨k + 1, y, true, by omega, by go_num, rfl, HST.out, OB7.out, OR7.out, HB7.out⟩
            case measure => simp [intOf]; omega
    · obtain rfl : k = l.length := by omega
      rw [List.take_length] at HF
      obtain ⟨⟨e0, e1, e2, e3, e4, e5, e6⟩, ef⟩ := OB.out
      obtain ⟨⟨r0, r1, r2, r3, r4, r5, r6⟩, rf⟩ := OR.out
      go_wp2_with fail
      have hs := (ownV_set7 OR.out best).1
      have hcg := vbel_set7 HB.out (Nat.le_refl _) best
      generalize ((((((wr.setCell ⟨w.heap.size, 0, none⟩ (.int .i64 best.1)).setCell ⟨w.heap.size, 1, none⟩ (.bool best.2.1)).setCell ⟨w.heap.size, 2, none⟩ (.int .i64 best.2.2.1)).setCell ⟨w.heap.size, 3, none⟩ (.int .i64 best.2.2.2.1)).setCell ⟨w.heap.size, 4, none⟩ (.int .i64 best.2.2.2.2.1)).setCell ⟨w.heap.size, 5, none⟩ (.int .i64 best.2.2.2.2.2.1)).setCell ⟨w.heap.size, 6, none⟩ (.int .i64 best.2.2.2.2.2.2) = W5 at *
      obtain ⟨s0_, s1_, s2_, s3_, s4_, s5_, s6_⟩ := hs
      simp only [Nat.zero_add] at s1_ s2_ s3_ s4_ s5_ s6_
      exact bodyPost_ret (v := .tuple #[vwV best, .bool an]) (by simp [results, Try.results21, go_sem, s0_, s1_, s2_, s3_, s4_, s5_, s6_]) rfl ⟨by rw [HF.out], hcg⟩
end Go.Proofs.Ytahhhegknmiinaa
