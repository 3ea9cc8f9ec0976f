/- The reference's views: Forget. No conditions but on lengths. -/
import Derived.Test.YtahhhegknmiinaaVrd
namespace Go.Proofs.Ytahhhegknmiinaa
set_option maxRecDepth 100000
open Go.RowKit

theorem ownV_set1 {w : World} {b : Nat} {y : Vw} (h : OwnV w b y) (x : Hx) : OwnV ((((((w.setCell ⟨b, 1, none⟩ (.bool x.1)).setCell ⟨b, 2, none⟩ (.int .i64 x.2.1)).setCell ⟨b, 3, none⟩ (.int .i64 x.2.2.1)).setCell ⟨b, 4, none⟩ (.int .i64 x.2.2.2.1)).setCell ⟨b, 5, none⟩ (.int .i64 x.2.2.2.2.1)).setCell ⟨b, 6, none⟩ (.int .i64 x.2.2.2.2.2)) b (y.1, x) := by
  obtain ⟨⟨h0, h1, h2, h3, h4, h5, h6⟩, hf⟩ := h
  refine ⟨⟨?_, ?_, ?_, ?_, ?_, ?_, ?_⟩, fun k => ?_⟩ <;> simp [go_sem, h0, h1, h2, h3, h4, h5, h6, hf]
theorem vbel_set1 {B : Nat} {a w : World} {b : Nat} (h : Below B a w) (hB : B ≤ b) (x : Hx) : Below B a ((((((w.setCell ⟨b, 1, none⟩ (.bool x.1)).setCell ⟨b, 2, none⟩ (.int .i64 x.2.1)).setCell ⟨b, 3, none⟩ (.int .i64 x.2.2.1)).setCell ⟨b, 4, none⟩ (.int .i64 x.2.2.2.1)).setCell ⟨b, 5, none⟩ (.int .i64 x.2.2.2.2.1)).setCell ⟨b, 6, none⟩ (.int .i64 x.2.2.2.2.2)) :=
  (((((h.setCell (by exact hB) _).setCell (by exact hB) _).setCell (by exact hB) _).setCell (by exact hB) _).setCell (by exact hB) _).setCell (by exact hB) _
theorem ownr_one {w : World} {S b j : Nat} {v u : Value} {xs : List Vw} (h : OwV w S v xs) (hn : ∀ k, v.ownBlock = some k → k ≠ b) : OwV (w.setCell ⟨b, j, none⟩ u) S v xs := by
  refine ⟨h.1, ?_⟩
  rcases h.2 with h2 | ⟨g, cap, cur, rfl, h3, hg, rest⟩
  · exact .inl h2
  · refine .inr ⟨g, cap, cur, rfl, h3, ?_, rest⟩
    have hne : b ≠ g := fun e => hn g rfl e.symm
    simp [World.setCell, Array.getElem?_modify, hne, hg]
theorem ownr_set1 {w : World} {S b : Nat} {v : Value} {xs : List Vw} (h : OwV w S v xs) (hn : ∀ k, v.ownBlock = some k → k ≠ b) (x : Hx) : OwV ((((((w.setCell ⟨b, 1, none⟩ (.bool x.1)).setCell ⟨b, 2, none⟩ (.int .i64 x.2.1)).setCell ⟨b, 3, none⟩ (.int .i64 x.2.2.1)).setCell ⟨b, 4, none⟩ (.int .i64 x.2.2.2.1)).setCell ⟨b, 5, none⟩ (.int .i64 x.2.2.2.2.1)).setCell ⟨b, 6, none⟩ (.int .i64 x.2.2.2.2.2)) S v xs :=
  ownr_one (ownr_one (ownr_one (ownr_one (ownr_one (ownr_one h hn) hn) hn) hn) hn) hn
/-- What is left of a view, where a level is forgotten. -/
def fgt (v : Lv) (keep : Int) (y : Vw) : Vw := if y.1 ≠ keep ∧ tld y.2 = true ∧ (y.2.2.1, y.2.2.2.1, y.2.2.2.2.1) = v then (y.1, nulX y.2.2.2.2.2.2) else y
def forL (l : List Vw) (v : Lv) (keep : Int) : List Vw := l.map (fgt v keep)
theorem eqLv_iff {t o r t' o' r' : Int} : eqL t o r t' o' r' = true ↔ t = t' ∧ o = o' ∧ r = r' := by simp [eqL]
theorem for_step (l : List Vw) (v : Lv) (keep : Int) (k : Nat) (h : k < l.length) : forL (l.take (k + 1)) v keep = forL (l.take k) v keep ++ [fgt v keep (l.getD k zVw)] := by
  rw [vtake_succ l k h]
  unfold forL
  rw [List.map_append]
  rfl
set_option maxHeartbeats 4000000 in
theorem rvfor_any (v : Value) (l : List Vw) (lv : Lv) (keep : Int) (w : World) (hv : Vs w v l) (hl : l.length ≤ 1000) :
    Calls Try.prog 28 #[v, .agg #[.int .i64 lv.1, .int .i64 lv.2.1, .int .i64 lv.2.2], .int .i64 keep] w fun e w' => (∃ a c, e = .returned (.slice a (forL l lv keep).length c) ∧ OwV w' w.heap.size (.slice a (forL l lv keep).length c) (forL l lv keep)) ∧ Below w.heap.size w w' := by
  obtain ⟨a, c, rfl⟩ := hv.form
  obtain ⟨w1, hw1⟩ : ∃ w1, w.alloc (.cells #[.int .i64 lv.1, .int .i64 lv.2.1, .int .i64 lv.2.2] 38) = w1 := ⟨_, rfl⟩
  have hb0 : Below w.heap.size w w1 := hw1 ▸ (Below.refl _ w).alloc (Nat.le_refl _) _
  have hl3 : w1.cell? ⟨w.heap.size, 0, none⟩ = some (.int .i64 lv.1) ∧ w1.cell? ⟨w.heap.size, 1, none⟩ = some (.int .i64 lv.2.1) ∧ w1.cell? ⟨w.heap.size, 2, none⟩ = some (.int .i64 lv.2.2) := by
    rw [← hw1]
    simp
  have HL3 := Lib.hid hl3
  have HV := Lib.hid (hv.below hb0)
  have HB0 := Lib.hid hb0
  have hs1 : w1.heap.size = w.heap.size + 1 := by rw [← hw1]; simp
  have HS1 := Lib.hid hs1
  clear hv hb0 hl3 hs1
  go_enter Try.func28, Try.ntmps28
  go_upto_region 1 with (fail)
  clear hw1
  go_wp2_with fail
  go_loopw [7, 8] (fun ov i wr => ∃ (k : Nat) (ax : Option Addr) (cx : Nat) (xs : List Vw), k ≤ l.length ∧ i = .int .i64 k ∧ ov = .slice ax xs.length cx ∧ Hid (forL (l.take k) lv keep = xs) ∧ Hid (OwV wr w1.heap.size (.slice ax xs.length cx) xs) ∧ Hid (Below w1.heap.size w1 wr)) (fun _ i _ => l.length - (intOf i).toNat)
  case atStart => exact ⟨0, none, 0, [], Nat.zero_le _, rfl, rfl, rfl, OwV_nil w1 _, Below.refl _ _⟩
  case round =>
    obtain ⟨k, ax, cx, xs, hk, rfl, rfl, HF, HO, HB⟩ := hrel
    have hxl : xs.length ≤ k := by
      rw [← HF.out]
      unfold forL
      rw [List.length_map, List.length_take]
      omega
    by_cases hlt : k < l.length
    · obtain ⟨b2, off, rfl, hB, p0, p1, p2, p3, p4, p5, p6⟩ := (HV.out.below HB.out).at hlt
      have hst := for_step l lv keep k hlt
      rw [HF.out] at hst
      obtain ⟨y, hy⟩ : ∃ y, l.getD k zVw = y := ⟨_, rfl⟩
      rw [hy] at p0 p1 p2 p3 p4 p5 p6 hst
      clear hy
      obtain ⟨V, hV⟩ : ∃ V, wr.alloc (.cells #[.int .i64 y.1, .bool y.2.1, .int .i64 y.2.2.1, .int .i64 y.2.2.2.1, .int .i64 y.2.2.2.2.1, .int .i64 y.2.2.2.2.2.1, .int .i64 y.2.2.2.2.2.2] 40) = V := ⟨_, rfl⟩
      have hbv : Below wr.heap.size wr V := hV ▸ (Below.refl _ wr).alloc (Nat.le_refl _) _
      have OY := Lib.hid (hV ▸ ownV_alloc wr y wr.heap.size rfl 40 : OwnV V wr.heap.size y)
      have hgv : wr.heap.size < V.heap.size := OY.out.lt
      have HBV := Lib.hid (HB.out.trans (hbv.mono HB.out.size))
      have hw1v : w.heap.size < V.heap.size := Nat.lt_of_lt_of_le (by have := HS1.out; omega) HBV.out.size
      have hl3 : V.cell? ⟨w.heap.size, 0, none⟩ = some (.int .i64 lv.1) ∧ V.cell? ⟨w.heap.size, 1, none⟩ = some (.int .i64 lv.2.1) ∧ V.cell? ⟨w.heap.size, 2, none⟩ = some (.int .i64 lv.2.2) := by
        have hlt9 : w.heap.size < w1.heap.size := by have := HS1.out; omega
        exact ⟨(HBV.out.cell (p := ⟨w.heap.size, 0, none⟩) hlt9).trans HL3.out.1, (HBV.out.cell (p := ⟨w.heap.size, 1, none⟩) hlt9).trans HL3.out.2.1, (HBV.out.cell (p := ⟨w.heap.size, 2, none⟩) hlt9).trans HL3.out.2.2⟩
      have HL9 := Lib.hid hl3
      clear hl3
      have HLE1 : Hid (xs.length ≤ 3000) := by show _ ≤ _; omega
      go_upto_region 6 with (fail)
      clear p0 p1 p2 p3 p4 p5 p6 hV hB
      have kc : ∀ w', Below V.heap.size V w' → (w'.cell? ⟨wr.heap.size, 0, none⟩ = some (.int .i64 y.1) ∧ w'.cell? ⟨wr.heap.size, 1, none⟩ = some (.bool y.2.1) ∧ w'.cell? ⟨wr.heap.size, 2, none⟩ = some (.int .i64 y.2.2.1) ∧ w'.cell? ⟨wr.heap.size, 3, none⟩ = some (.int .i64 y.2.2.2.1) ∧ w'.cell? ⟨wr.heap.size, 4, none⟩ = some (.int .i64 y.2.2.2.2.1) ∧ w'.cell? ⟨wr.heap.size, 5, none⟩ = some (.int .i64 y.2.2.2.2.2.1) ∧ w'.cell? ⟨wr.heap.size, 6, none⟩ = some (.int .i64 y.2.2.2.2.2.2)) ∧ w'.cell? ⟨w.heap.size, 0, none⟩ = some (.int .i64 lv.1) ∧ w'.cell? ⟨w.heap.size, 1, none⟩ = some (.int .i64 lv.2.1) ∧ w'.cell? ⟨w.heap.size, 2, none⟩ = some (.int .i64 lv.2.2) := fun w' hb => by
        obtain ⟨⟨d0, d1, d2, d3, d4, d5, d6⟩, _⟩ := OY.out
        exact ⟨⟨(hb.cell (p := ⟨wr.heap.size, 0, none⟩) hgv).trans d0, (hb.cell (p := ⟨wr.heap.size, 1, none⟩) hgv).trans d1, (hb.cell (p := ⟨wr.heap.size, 2, none⟩) hgv).trans d2, (hb.cell (p := ⟨wr.heap.size, 3, none⟩) hgv).trans d3, (hb.cell (p := ⟨wr.heap.size, 4, none⟩) hgv).trans d4, (hb.cell (p := ⟨wr.heap.size, 5, none⟩) hgv).trans d5, (hb.cell (p := ⟨wr.heap.size, 6, none⟩) hgv).trans d6⟩, (hb.cell (p := ⟨w.heap.size, 0, none⟩) hw1v).trans HL9.out.1, (hb.cell (p := ⟨w.heap.size, 1, none⟩) hw1v).trans HL9.out.2.1, (hb.cell (p := ⟨w.heap.size, 2, none⟩) hw1v).trans HL9.out.2.2⟩
      by_cases g1 : y.1 = keep
      · have HST : Hid (forL (l.take (k + 1)) lv keep = xs ++ [y]) := by
          show _ = _
          rw [hst]
          unfold fgt
          rw [if_neg (fun h => h.1 g1)]
        have q1 : (y.1 != keep) = false := by simpa using g1
        clear hst g1
        refine wp_region_typed (C := fun w' => Below V.heap.size V w') (X := fun w w' => Below w.heap.size w w') (n := 46) (by kernel_rfl) (by kernel_rfl) rfl (fun w => Below.refl _ w) (Below.refl _ _).drew ?_
        refine w_is (fun w => Below.refl _ w) _ (.inl rfl) (fun ρ w hC hc hfn hf => by have e9 : ρ (.tmp 9) = _ := hf 9 (by decide); (conv => lhs; simp [execOp, go_sem, hc, e9])) ?_
        refine w_is (fun w => Below.refl _ w) _ (.inl rfl) (fun ρ w hC hc hfn hf => by have e20 : ρ (.tmp 20) = _ := hf 20 (by decide); (conv => lhs; simp [execOp, go_sem, hc, e20, kc w hC])) ?_
        refine w_is (fun w => Below.refl _ w) _ (.inl rfl) (fun ρ w hC hc hfn hf => by have e2 : ρ (.tmp 2) = _ := hf 2 (by decide); (conv => lhs; simp [execOp, go_sem, hc, e2])) ?_
        refine w_is (fun w => Below.refl _ w) _ (.inl rfl) (fun ρ w hC hc hfn hf => by have e21 : ρ (.tmp 21) = _ := hf 21 (by decide); have e22 : ρ (.tmp 22) = _ := hf 22 (by decide); (conv => lhs; simp [execOp, go_sem, hc, e21, e22, q1])) ?_
        refine w_is (fun w => Below.refl _ w) _ (.inl rfl) (fun ρ w hC hc hfn hf => by have e23 : ρ (.tmp 23) = _ := hf 23 (by decide); (conv => lhs; simp [execOp, go_sem, hc, e23])) ?_
        refine w_skip rfl rfl (known_is rfl) ?_
        refine w_skip rfl rfl (known_is rfl) ?_
        refine w_skip rfl rfl (known_is rfl) ?_
        refine w_is (fun w => Below.refl _ w) _ (.inl rfl) (fun ρ w hC hc hfn hf => by have e24 : ρ (.tmp 24) = _ := hf 24 (by decide); have e27 : ρ (.tmp 27) = _ := hf 27 (by decide); (conv => lhs; simp [execOp, go_sem, hc, e24, e27])) ?_
        refine w_is (fun w => Below.refl _ w) _ (.inl rfl) (fun ρ w hC hc hfn hf => by have e28 : ρ (.tmp 28) = _ := hf 28 (by decide); (conv => lhs; simp [execOp, go_sem, hc, e28])) ?_
        refine w_skip rfl rfl (known_is rfl) ?_
        refine w_skip rfl rfl (known_is rfl) ?_
        refine w_skip rfl rfl (known_is rfl) ?_
        refine w_skip rfl rfl (known_is rfl) ?_
        refine w_skip rfl rfl (known_is rfl) ?_
        refine w_is (fun w => Below.refl _ w) _ (.inl rfl) (fun ρ w hC hc hfn hf => by have e29 : ρ (.tmp 29) = _ := hf 29 (by decide); have e34 : ρ (.tmp 34) = _ := hf 34 (by decide); (conv => lhs; simp [execOp, go_sem, hc, e29, e34])) ?_
        intro A V5 hC hn hd hf
        have y0 : A.eval (.tmp 0) = _ := Eq.trans (hf 0) (by conv => lhs; simp [go_sem])
        have y1 : A.eval (.tmp 1) = _ := Eq.trans (hf 1) (by conv => lhs; simp [go_sem])
        have y2 : A.eval (.tmp 2) = _ := Eq.trans (hf 2) (by conv => lhs; simp [go_sem])
        have y3 : A.eval (.tmp 3) = _ := Eq.trans (hf 3) (by conv => lhs; simp [go_sem])
        have y4 : A.eval (.tmp 4) = _ := Eq.trans (hf 4) (by conv => lhs; simp [go_sem])
        have y5 : A.eval (.tmp 5) = _ := Eq.trans (hf 5) (by conv => lhs; simp [go_sem])
        have y6 : A.eval (.tmp 6) = _ := Eq.trans (hf 6) (by conv => lhs; simp [go_sem])
        have y7 : A.eval (.tmp 7) = _ := Eq.trans (hf 7) (by conv => lhs; simp [go_sem])
        have y8 : A.eval (.tmp 8) = _ := Eq.trans (hf 8) (by conv => lhs; simp [go_sem])
        have y9 : A.eval (.tmp 9) = _ := Eq.trans (hf 9) (by conv => lhs; simp [go_sem])
        have y10 : A.eval (.tmp 10) = _ := Eq.trans (hf 10) (by conv => lhs; simp [go_sem])
        have y11 : A.eval (.tmp 11) = _ := Eq.trans (hf 11) (by conv => lhs; simp [go_sem])
        have y12 : A.eval (.tmp 12) = _ := Eq.trans (hf 12) (by conv => lhs; simp [go_sem])
        have y13 : A.eval (.tmp 13) = _ := Eq.trans (hf 13) (by conv => lhs; simp [go_sem])
        have y14 : A.eval (.tmp 14) = _ := Eq.trans (hf 14) (by conv => lhs; simp [go_sem])
        have y15 : A.eval (.tmp 15) = _ := Eq.trans (hf 15) (by conv => lhs; simp [go_sem])
        have y16 : A.eval (.tmp 16) = _ := Eq.trans (hf 16) (by conv => lhs; simp [go_sem])
        have y17 : A.eval (.tmp 17) = _ := Eq.trans (hf 17) (by conv => lhs; simp [go_sem])
        have y18 : A.eval (.tmp 18) = _ := Eq.trans (hf 18) (by conv => lhs; simp [go_sem])
        have y19 : A.eval (.tmp 19) = _ := Eq.trans (hf 19) (by conv => lhs; simp [go_sem])
        have y20 : A.eval (.tmp 20) = _ := hf 20
        have y21 : A.eval (.tmp 21) = _ := hf 21
        have y22 : A.eval (.tmp 22) = _ := hf 22
        have y23 : A.eval (.tmp 23) = _ := hf 23
        have y24 : A.eval (.tmp 24) = _ := hf 24
        have y25 : A.eval (.tmp 25) = _ := hf 25
        have y26 : A.eval (.tmp 26) = _ := hf 26
        have y27 : A.eval (.tmp 27) = _ := hf 27
        have y28 : A.eval (.tmp 28) = _ := hf 28
        have y29 : A.eval (.tmp 29) = _ := hf 29
        have y30 : A.eval (.tmp 30) = _ := hf 30
        have y31 : A.eval (.tmp 31) = _ := hf 31
        have y32 : A.eval (.tmp 32) = _ := hf 32
        have y33 : A.eval (.tmp 33) = _ := hf 33
        have y34 : A.eval (.tmp 34) = _ := hf 34
        have y35 : A.eval (.tmp 35) = _ := hf 35
        have y36 : A.eval (.tmp 36) = _ := Eq.trans (hf 36) (by conv => lhs; simp [go_sem])
        have y37 : A.eval (.tmp 37) = _ := Eq.trans (hf 37) (by conv => lhs; simp [go_sem])
        have y38 : A.eval (.tmp 38) = _ := Eq.trans (hf 38) (by conv => lhs; simp [go_sem])
        have y39 : A.eval (.tmp 39) = _ := Eq.trans (hf 39) (by conv => lhs; simp [go_sem])
        have y40 : A.eval (.tmp 40) = _ := Eq.trans (hf 40) (by conv => lhs; simp [go_sem])
        have y41 : A.eval (.tmp 41) = _ := Eq.trans (hf 41) (by conv => lhs; simp [go_sem])
        have y42 : A.eval (.tmp 42) = _ := Eq.trans (hf 42) (by conv => lhs; simp [go_sem])
        have y43 : A.eval (.tmp 43) = _ := Eq.trans (hf 43) (by conv => lhs; simp [go_sem])
        have y44 : A.eval (.tmp 44) = _ := Eq.trans (hf 44) (by conv => lhs; simp [go_sem])
        have y45 : A.eval (.tmp 45) = _ := Eq.trans (hf 45) (by conv => lhs; simp [go_sem])
        clear hf
        have hA := frame_eq hn
        rw [show List.range 46 = [0, 1, 2, 3, 4, 5, 6, 7, 8, 9, 10, 11, 12, 13, 14, 15, 16, 17, 18, 19, 20, 21, 22, 23, 24, 25, 26, 27, 28, 29, 30, 31, 32, 33, 34, 35, 36, 37, 38, 39, 40, 41, 42, 43, 44, 45] from rfl, hd] at hA
        simp only [List.map_cons, List.map_nil, y0, y1, y2, y3, y4, y5, y6, y7, y8, y9, y10, y11, y12, y13, y14, y15, y16, y17, y18, y19, y20, y21, y22, y23, y24, y25, y26, y27, y28, y29, y30, y31, y32, y33, y34, y35, y36, y37, y38, y39, y40, y41, y42, y43, y44, y45] at hA
        clear y0 y1 y2 y3 y4 y5 y6 y7 y8 y9 y10 y11 y12 y13 y14 y15 y16 y17 y18 y19 y20 y21 y22 y23 y24 y25 y26 y27 y28 y29 y30 y31 y32 y33 y34 y35 y36 y37 y38 y39 y40 y41 y42 y43 y44 y45
        clear hn hd
        subst hA
        have HB5 := Lib.hid (HBV.out.trans (hC.mono HBV.out.size))
        have HO5 := Lib.hid ((HO.out.below hbv).below hC)
        have OY5 := Lib.hid (OY.out.below hC)
        clear hC
        have HSW : Hid (w1.heap.size ≤ V5.heap.size) := HB5.out.size
        obtain ⟨⟨e0, e1, e2, e3, e4, e5, e6⟩, ef⟩ := OY5.out
        go_wp2_with (at_builtin; refine vapp1_any rfl (.tmp 41) (.tmp 43) rfl V5 y rfl w1.heap.size (.slice ax xs.length cx) xs rfl rfl HO5.out HLE1.out HSW.out ?_; intro g1 cap1 wa ho9 hb9; have HO1 := Lib.hid ho9; have HA1 := Lib.hid hb9; clear ho9 hb9)
        go_roundw
        case rel => exact ⟨k + 1, some ⟨g1, 0, none⟩, cap1, xs ++ [y], by omega, by go_num, by rw [List.length_append]; rfl, HST.out, by have h9 := HO1.out; rw [List.length_append]; exact h9, HB5.out.trans HA1.out⟩
        case measure => simp [intOf]; omega
      · have cT := fun W => rtold_any y.2.1 y.2.2.1 y.2.2.2.1 y.2.2.2.2.1 y.2.2.2.2.2.1 y.2.2.2.2.2.2 W
        have q1 : (y.1 != keep) = true := by simpa using g1
        have HG1 := Lib.hid g1
        clear g1
        cases g2 : tld y.2 with
        | false =>
          rw [show told y.2.1 y.2.2.1 y.2.2.2.1 y.2.2.2.2.1 y.2.2.2.2.2.1 y.2.2.2.2.2.2 = false from g2] at cT
          have HST : Hid (forL (l.take (k + 1)) lv keep = xs ++ [y]) := by
            show _ = _
            rw [hst]
            unfold fgt
            rw [if_neg (fun h => by rw [g2] at h; exact absurd h.2.1 (by decide))]
          clear hst
          refine wp_region_typed (C := fun w' => Below V.heap.size V w') (X := fun w w' => Below w.heap.size w w') (n := 46) (by kernel_rfl) (by kernel_rfl) rfl (fun w => Below.refl _ w) (Below.refl _ _).drew ?_
          refine w_is (fun w => Below.refl _ w) _ (.inl rfl) (fun ρ w hC hc hfn hf => by have e9 : ρ (.tmp 9) = _ := hf 9 (by decide); (conv => lhs; simp [execOp, go_sem, hc, e9])) ?_
          refine w_is (fun w => Below.refl _ w) _ (.inl rfl) (fun ρ w hC hc hfn hf => by have e20 : ρ (.tmp 20) = _ := hf 20 (by decide); (conv => lhs; simp [execOp, go_sem, hc, e20, kc w hC])) ?_
          refine w_is (fun w => Below.refl _ w) _ (.inl rfl) (fun ρ w hC hc hfn hf => by have e2 : ρ (.tmp 2) = _ := hf 2 (by decide); (conv => lhs; simp [execOp, go_sem, hc, e2])) ?_
          refine w_is (fun w => Below.refl _ w) _ (.inl rfl) (fun ρ w hC hc hfn hf => by have e21 : ρ (.tmp 21) = _ := hf 21 (by decide); have e22 : ρ (.tmp 22) = _ := hf 22 (by decide); (conv => lhs; simp [execOp, go_sem, hc, e21, e22, q1])) ?_
          refine w_is (fun w => Below.refl _ w) _ (.inl rfl) (fun ρ w hC hc hfn hf => by have e23 : ρ (.tmp 23) = _ := hf 23 (by decide); (conv => lhs; simp [execOp, go_sem, hc, e23])) ?_
          refine w_is (fun w => Below.refl _ w) _ (.inr ⟨4, 24, true, rfl, rfl, known_is rfl⟩) (fun ρ w hC hc hfn hf => by have e9 : ρ (.tmp 9) = _ := hf 9 (by decide); (conv => lhs; simp [execOp, go_sem, hc, e9])) ?_
          refine w_is (fun w => Below.refl _ w) _ (.inr ⟨4, 24, true, rfl, rfl, known_is rfl⟩) (fun ρ w hC hc hfn hf => by have e25 : ρ (.tmp 25) = _ := hf 25 (by decide); (conv => lhs; simp [execOp, go_sem, hc, e25, kc w hC])) ?_
          refine w_call (Is _) (fun _ _ _ h _ => h) 38 (.inr ⟨4, 24, true, rfl, rfl, known_is rfl⟩) (fun ρ w hC hc hfn hf => by have e26 : ρ (.tmp 26) = _ := hf 26 (by decide); exact ⟨_, by (conv => lhs; simp [execOp, resolve, invoke, go_sem, hc, hfn, e26]), tc_below hC (cT w)⟩) ?_
          refine w_is (fun w => Below.refl _ w) _ (.inl rfl) (fun ρ w hC hc hfn hf => by have e24 : ρ (.tmp 24) = _ := hf 24 (by decide); have e27 : ρ (.tmp 27) = _ := hf 27 (by decide); (conv => lhs; simp [execOp, go_sem, hc, e24, e27])) ?_
          refine w_is (fun w => Below.refl _ w) _ (.inl rfl) (fun ρ w hC hc hfn hf => by have e28 : ρ (.tmp 28) = _ := hf 28 (by decide); (conv => lhs; simp [execOp, go_sem, hc, e28])) ?_
          refine w_skip rfl rfl (known_is rfl) ?_
          refine w_skip rfl rfl (known_is rfl) ?_
          refine w_skip rfl rfl (known_is rfl) ?_
          refine w_skip rfl rfl (known_is rfl) ?_
          refine w_skip rfl rfl (known_is rfl) ?_
          refine w_is (fun w => Below.refl _ w) _ (.inl rfl) (fun ρ w hC hc hfn hf => by have e29 : ρ (.tmp 29) = _ := hf 29 (by decide); have e34 : ρ (.tmp 34) = _ := hf 34 (by decide); (conv => lhs; simp [execOp, go_sem, hc, e29, e34])) ?_
          intro A V5 hC hn hd hf
          have y0 : A.eval (.tmp 0) = _ := Eq.trans (hf 0) (by conv => lhs; simp [go_sem])
          have y1 : A.eval (.tmp 1) = _ := Eq.trans (hf 1) (by conv => lhs; simp [go_sem])
          have y2 : A.eval (.tmp 2) = _ := Eq.trans (hf 2) (by conv => lhs; simp [go_sem])
          have y3 : A.eval (.tmp 3) = _ := Eq.trans (hf 3) (by conv => lhs; simp [go_sem])
          have y4 : A.eval (.tmp 4) = _ := Eq.trans (hf 4) (by conv => lhs; simp [go_sem])
          have y5 : A.eval (.tmp 5) = _ := Eq.trans (hf 5) (by conv => lhs; simp [go_sem])
          have y6 : A.eval (.tmp 6) = _ := Eq.trans (hf 6) (by conv => lhs; simp [go_sem])
          have y7 : A.eval (.tmp 7) = _ := Eq.trans (hf 7) (by conv => lhs; simp [go_sem])
          have y8 : A.eval (.tmp 8) = _ := Eq.trans (hf 8) (by conv => lhs; simp [go_sem])
          have y9 : A.eval (.tmp 9) = _ := Eq.trans (hf 9) (by conv => lhs; simp [go_sem])
          have y10 : A.eval (.tmp 10) = _ := Eq.trans (hf 10) (by conv => lhs; simp [go_sem])
          have y11 : A.eval (.tmp 11) = _ := Eq.trans (hf 11) (by conv => lhs; simp [go_sem])
          have y12 : A.eval (.tmp 12) = _ := Eq.trans (hf 12) (by conv => lhs; simp [go_sem])
          have y13 : A.eval (.tmp 13) = _ := Eq.trans (hf 13) (by conv => lhs; simp [go_sem])
          have y14 : A.eval (.tmp 14) = _ := Eq.trans (hf 14) (by conv => lhs; simp [go_sem])
          have y15 : A.eval (.tmp 15) = _ := Eq.trans (hf 15) (by conv => lhs; simp [go_sem])
          have y16 : A.eval (.tmp 16) = _ := Eq.trans (hf 16) (by conv => lhs; simp [go_sem])
          have y17 : A.eval (.tmp 17) = _ := Eq.trans (hf 17) (by conv => lhs; simp [go_sem])
          have y18 : A.eval (.tmp 18) = _ := Eq.trans (hf 18) (by conv => lhs; simp [go_sem])
          have y19 : A.eval (.tmp 19) = _ := Eq.trans (hf 19) (by conv => lhs; simp [go_sem])
          have y20 : A.eval (.tmp 20) = _ := hf 20
          have y21 : A.eval (.tmp 21) = _ := hf 21
          have y22 : A.eval (.tmp 22) = _ := hf 22
          have y23 : A.eval (.tmp 23) = _ := hf 23
          have y24 : A.eval (.tmp 24) = _ := hf 24
          have y25 : A.eval (.tmp 25) = _ := hf 25
          have y26 : A.eval (.tmp 26) = _ := hf 26
          have y27 : A.eval (.tmp 27) = _ := hf 27
          have y28 : A.eval (.tmp 28) = _ := hf 28
          have y29 : A.eval (.tmp 29) = _ := hf 29
          have y30 : A.eval (.tmp 30) = _ := hf 30
          have y31 : A.eval (.tmp 31) = _ := hf 31
          have y32 : A.eval (.tmp 32) = _ := hf 32
          have y33 : A.eval (.tmp 33) = _ := hf 33
          have y34 : A.eval (.tmp 34) = _ := hf 34
          have y35 : A.eval (.tmp 35) = _ := hf 35
          have y36 : A.eval (.tmp 36) = _ := Eq.trans (hf 36) (by conv => lhs; simp [go_sem])
          have y37 : A.eval (.tmp 37) = _ := Eq.trans (hf 37) (by conv => lhs; simp [go_sem])
          have y38 : A.eval (.tmp 38) = _ := Eq.trans (hf 38) (by conv => lhs; simp [go_sem])
          have y39 : A.eval (.tmp 39) = _ := Eq.trans (hf 39) (by conv => lhs; simp [go_sem])
          have y40 : A.eval (.tmp 40) = _ := Eq.trans (hf 40) (by conv => lhs; simp [go_sem])
          have y41 : A.eval (.tmp 41) = _ := Eq.trans (hf 41) (by conv => lhs; simp [go_sem])
          have y42 : A.eval (.tmp 42) = _ := Eq.trans (hf 42) (by conv => lhs; simp [go_sem])
          have y43 : A.eval (.tmp 43) = _ := Eq.trans (hf 43) (by conv => lhs; simp [go_sem])
          have y44 : A.eval (.tmp 44) = _ := Eq.trans (hf 44) (by conv => lhs; simp [go_sem])
          have y45 : A.eval (.tmp 45) = _ := Eq.trans (hf 45) (by conv => lhs; simp [go_sem])
          clear hf
          have hA := frame_eq hn
          rw [show List.range 46 = [0, 1, 2, 3, 4, 5, 6, 7, 8, 9, 10, 11, 12, 13, 14, 15, 16, 17, 18, 19, 20, 21, 22, 23, 24, 25, 26, 27, 28, 29, 30, 31, 32, 33, 34, 35, 36, 37, 38, 39, 40, 41, 42, 43, 44, 45] from rfl, hd] at hA
          simp only [List.map_cons, List.map_nil, y0, y1, y2, y3, y4, y5, y6, y7, y8, y9, y10, y11, y12, y13, y14, y15, y16, y17, y18, y19, y20, y21, y22, y23, y24, y25, y26, y27, y28, y29, y30, y31, y32, y33, y34, y35, y36, y37, y38, y39, y40, y41, y42, y43, y44, y45] at hA
          clear y0 y1 y2 y3 y4 y5 y6 y7 y8 y9 y10 y11 y12 y13 y14 y15 y16 y17 y18 y19 y20 y21 y22 y23 y24 y25 y26 y27 y28 y29 y30 y31 y32 y33 y34 y35 y36 y37 y38 y39 y40 y41 y42 y43 y44 y45
          clear hn hd
          subst hA
          have HB5 := Lib.hid (HBV.out.trans (hC.mono HBV.out.size))
          have HO5 := Lib.hid ((HO.out.below hbv).below hC)
          have OY5 := Lib.hid (OY.out.below hC)
          clear hC
          have HSW : Hid (w1.heap.size ≤ V5.heap.size) := HB5.out.size
          obtain ⟨⟨e0, e1, e2, e3, e4, e5, e6⟩, ef⟩ := OY5.out
          go_wp2_with (at_builtin; refine vapp1_any rfl (.tmp 41) (.tmp 43) rfl V5 y rfl w1.heap.size (.slice ax xs.length cx) xs rfl rfl HO5.out HLE1.out HSW.out ?_; intro g1 cap1 wa ho9 hb9; have HO1 := Lib.hid ho9; have HA1 := Lib.hid hb9; clear ho9 hb9)
          go_roundw
          case rel => exact ⟨k + 1, some ⟨g1, 0, none⟩, cap1, xs ++ [y], by omega, by go_num, by rw [List.length_append]; rfl, HST.out, by have h9 := HO1.out; rw [List.length_append]; exact h9, HB5.out.trans HA1.out⟩
          case measure => simp [intOf]; omega
        | true =>
          rw [show told y.2.1 y.2.2.1 y.2.2.2.1 y.2.2.2.2.1 y.2.2.2.2.2.1 y.2.2.2.2.2.2 = true from g2] at cT
          have cL := fun W => rlevel_any y.2.1 y.2.2.1 y.2.2.2.1 y.2.2.2.2.1 y.2.2.2.2.2.1 y.2.2.2.2.2.2 W
          unfold levV at cL
          rw [if_pos (show told y.2.1 y.2.2.1 y.2.2.2.1 y.2.2.2.2.1 y.2.2.2.2.2.1 y.2.2.2.2.2.2 = true from g2)] at cL
          cases g3 : eqL y.2.2.1 y.2.2.2.1 y.2.2.2.2.1 lv.1 lv.2.1 lv.2.2 with
          | false =>
            have hIf : ∀ {α : Type} (X Y : α), (if y.2.2.1 = lv.1 then if y.2.2.2.1 = lv.2.1 then if y.2.2.2.2.1 = lv.2.2 then X else Y else Y else Y) = Y := by
              intro α X Y
              have h0 : ¬ (y.2.2.1 = lv.1 ∧ y.2.2.2.1 = lv.2.1 ∧ y.2.2.2.2.1 = lv.2.2) := fun h => by
                rw [eqLv_iff.2 h] at g3
                cases g3
              by_cases h1 : y.2.2.1 = lv.1
              · rw [if_pos h1]
                by_cases h2 : y.2.2.2.1 = lv.2.1
                · rw [if_pos h2, if_neg (fun h3 => h0 ⟨h1, h2, h3⟩)]
                · rw [if_neg h2]
              · rw [if_neg h1]
            have HST : Hid (forL (l.take (k + 1)) lv keep = xs ++ [y]) := by
              show _ = _
              rw [hst]
              unfold fgt
              rw [if_neg (fun h => by
                have h3 : eqL y.2.2.1 y.2.2.2.1 y.2.2.2.2.1 lv.1 lv.2.1 lv.2.2 = true := eqLv_iff.2 (by rw [← h.2.2]; exact ⟨rfl, rfl, rfl⟩)
                rw [g3] at h3
                cases h3)]
            clear hst g3
            refine wp_region_typed (C := fun w' => Below V.heap.size V w') (X := fun w w' => Below w.heap.size w w') (n := 46) (by kernel_rfl) (by kernel_rfl) rfl (fun w => Below.refl _ w) (Below.refl _ _).drew ?_
            refine w_is (fun w => Below.refl _ w) _ (.inl rfl) (fun ρ w hC hc hfn hf => by have e9 : ρ (.tmp 9) = _ := hf 9 (by decide); (conv => lhs; simp [execOp, go_sem, hc, e9])) ?_
            refine w_is (fun w => Below.refl _ w) _ (.inl rfl) (fun ρ w hC hc hfn hf => by have e20 : ρ (.tmp 20) = _ := hf 20 (by decide); (conv => lhs; simp [execOp, go_sem, hc, e20, kc w hC])) ?_
            refine w_is (fun w => Below.refl _ w) _ (.inl rfl) (fun ρ w hC hc hfn hf => by have e2 : ρ (.tmp 2) = _ := hf 2 (by decide); (conv => lhs; simp [execOp, go_sem, hc, e2])) ?_
            refine w_is (fun w => Below.refl _ w) _ (.inl rfl) (fun ρ w hC hc hfn hf => by have e21 : ρ (.tmp 21) = _ := hf 21 (by decide); have e22 : ρ (.tmp 22) = _ := hf 22 (by decide); (conv => lhs; simp [execOp, go_sem, hc, e21, e22, q1])) ?_
            refine w_is (fun w => Below.refl _ w) _ (.inl rfl) (fun ρ w hC hc hfn hf => by have e23 : ρ (.tmp 23) = _ := hf 23 (by decide); (conv => lhs; simp [execOp, go_sem, hc, e23])) ?_
            refine w_is (fun w => Below.refl _ w) _ (.inr ⟨4, 24, true, rfl, rfl, known_is rfl⟩) (fun ρ w hC hc hfn hf => by have e9 : ρ (.tmp 9) = _ := hf 9 (by decide); (conv => lhs; simp [execOp, go_sem, hc, e9])) ?_
            refine w_is (fun w => Below.refl _ w) _ (.inr ⟨4, 24, true, rfl, rfl, known_is rfl⟩) (fun ρ w hC hc hfn hf => by have e25 : ρ (.tmp 25) = _ := hf 25 (by decide); (conv => lhs; simp [execOp, go_sem, hc, e25, kc w hC])) ?_
            refine w_call (Is _) (fun _ _ _ h _ => h) 38 (.inr ⟨4, 24, true, rfl, rfl, known_is rfl⟩) (fun ρ w hC hc hfn hf => by have e26 : ρ (.tmp 26) = _ := hf 26 (by decide); exact ⟨_, by (conv => lhs; simp [execOp, resolve, invoke, go_sem, hc, hfn, e26]), tc_below hC (cT w)⟩) ?_
            refine w_is (fun w => Below.refl _ w) _ (.inl rfl) (fun ρ w hC hc hfn hf => by have e24 : ρ (.tmp 24) = _ := hf 24 (by decide); have e27 : ρ (.tmp 27) = _ := hf 27 (by decide); (conv => lhs; simp [execOp, go_sem, hc, e24, e27])) ?_
            refine w_is (fun w => Below.refl _ w) _ (.inl rfl) (fun ρ w hC hc hfn hf => by have e28 : ρ (.tmp 28) = _ := hf 28 (by decide); (conv => lhs; simp [execOp, go_sem, hc, e28])) ?_
            refine w_is (fun w => Below.refl _ w) _ (.inr ⟨9, 29, true, rfl, rfl, known_is rfl⟩) (fun ρ w hC hc hfn hf => by have e9 : ρ (.tmp 9) = _ := hf 9 (by decide); (conv => lhs; simp [execOp, go_sem, hc, e9])) ?_
            refine w_is (fun w => Below.refl _ w) _ (.inr ⟨9, 29, true, rfl, rfl, known_is rfl⟩) (fun ρ w hC hc hfn hf => by have e30 : ρ (.tmp 30) = _ := hf 30 (by decide); (conv => lhs; simp [execOp, go_sem, hc, e30, kc w hC])) ?_
            refine w_call (Is _) (fun _ _ _ h _ => h) 45 (.inr ⟨9, 29, true, rfl, rfl, known_is rfl⟩) (fun ρ w hC hc hfn hf => by have e31 : ρ (.tmp 31) = _ := hf 31 (by decide); exact ⟨_, by (conv => lhs; simp [execOp, resolve, invoke, go_sem, hc, hfn, e31]), tc_below hC (cL w)⟩) ?_
            refine w_is (fun w => Below.refl _ w) _ (.inr ⟨9, 29, true, rfl, rfl, known_is rfl⟩) (fun ρ w hC hc hfn hf => by have e4 : ρ (.tmp 4) = _ := hf 4 (by decide); (conv => lhs; simp [execOp, go_sem, hc, e4, kc w hC])) ?_
            refine w_is (fun w => Below.refl _ w) _ (.inr ⟨9, 29, true, rfl, rfl, known_is rfl⟩) (fun ρ w hC hc hfn hf => by have e32 : ρ (.tmp 32) = _ := hf 32 (by decide); have e33 : ρ (.tmp 33) = _ := hf 33 (by decide); (conv => lhs; simp [execOp, go_sem, hc, e32, e33, hIf, guard25])) ?_
            refine w_is (fun w => Below.refl _ w) _ (.inl rfl) (fun ρ w hC hc hfn hf => by have e29 : ρ (.tmp 29) = _ := hf 29 (by decide); have e34 : ρ (.tmp 34) = _ := hf 34 (by decide); (conv => lhs; simp [execOp, go_sem, hc, e29, e34])) ?_
            intro A V5 hC hn hd hf
            have y0 : A.eval (.tmp 0) = _ := Eq.trans (hf 0) (by conv => lhs; simp [go_sem])
            have y1 : A.eval (.tmp 1) = _ := Eq.trans (hf 1) (by conv => lhs; simp [go_sem])
            have y2 : A.eval (.tmp 2) = _ := Eq.trans (hf 2) (by conv => lhs; simp [go_sem])
            have y3 : A.eval (.tmp 3) = _ := Eq.trans (hf 3) (by conv => lhs; simp [go_sem])
            have y4 : A.eval (.tmp 4) = _ := Eq.trans (hf 4) (by conv => lhs; simp [go_sem])
            have y5 : A.eval (.tmp 5) = _ := Eq.trans (hf 5) (by conv => lhs; simp [go_sem])
            have y6 : A.eval (.tmp 6) = _ := Eq.trans (hf 6) (by conv => lhs; simp [go_sem])
            have y7 : A.eval (.tmp 7) = _ := Eq.trans (hf 7) (by conv => lhs; simp [go_sem])
            have y8 : A.eval (.tmp 8) = _ := Eq.trans (hf 8) (by conv => lhs; simp [go_sem])
            have y9 : A.eval (.tmp 9) = _ := Eq.trans (hf 9) (by conv => lhs; simp [go_sem])
            have y10 : A.eval (.tmp 10) = _ := Eq.trans (hf 10) (by conv => lhs; simp [go_sem])
            have y11 : A.eval (.tmp 11) = _ := Eq.trans (hf 11) (by conv => lhs; simp [go_sem])
            have y12 : A.eval (.tmp 12) = _ := Eq.trans (hf 12) (by conv => lhs; simp [go_sem])
            have y13 : A.eval (.tmp 13) = _ := Eq.trans (hf 13) (by conv => lhs; simp [go_sem])
            have y14 : A.eval (.tmp 14) = _ := Eq.trans (hf 14) (by conv => lhs; simp [go_sem])
            have y15 : A.eval (.tmp 15) = _ := Eq.trans (hf 15) (by conv => lhs; simp [go_sem])
            have y16 : A.eval (.tmp 16) = _ := Eq.trans (hf 16) (by conv => lhs; simp [go_sem])
            have y17 : A.eval (.tmp 17) = _ := Eq.trans (hf 17) (by conv => lhs; simp [go_sem])
            have y18 : A.eval (.tmp 18) = _ := Eq.trans (hf 18) (by conv => lhs; simp [go_sem])
            have y19 : A.eval (.tmp 19) = _ := Eq.trans (hf 19) (by conv => lhs; simp [go_sem])
            have y20 : A.eval (.tmp 20) = _ := hf 20
            have y21 : A.eval (.tmp 21) = _ := hf 21
            have y22 : A.eval (.tmp 22) = _ := hf 22
            have y23 : A.eval (.tmp 23) = _ := hf 23
            have y24 : A.eval (.tmp 24) = _ := hf 24
            have y25 : A.eval (.tmp 25) = _ := hf 25
            have y26 : A.eval (.tmp 26) = _ := hf 26
            have y27 : A.eval (.tmp 27) = _ := hf 27
            have y28 : A.eval (.tmp 28) = _ := hf 28
            have y29 : A.eval (.tmp 29) = _ := hf 29
            have y30 : A.eval (.tmp 30) = _ := hf 30
            have y31 : A.eval (.tmp 31) = _ := hf 31
            have y32 : A.eval (.tmp 32) = _ := hf 32
            have y33 : A.eval (.tmp 33) = _ := hf 33
            have y34 : A.eval (.tmp 34) = _ := hf 34
            have y35 : A.eval (.tmp 35) = _ := hf 35
            have y36 : A.eval (.tmp 36) = _ := Eq.trans (hf 36) (by conv => lhs; simp [go_sem])
            have y37 : A.eval (.tmp 37) = _ := Eq.trans (hf 37) (by conv => lhs; simp [go_sem])
            have y38 : A.eval (.tmp 38) = _ := Eq.trans (hf 38) (by conv => lhs; simp [go_sem])
            have y39 : A.eval (.tmp 39) = _ := Eq.trans (hf 39) (by conv => lhs; simp [go_sem])
            have y40 : A.eval (.tmp 40) = _ := Eq.trans (hf 40) (by conv => lhs; simp [go_sem])
            have y41 : A.eval (.tmp 41) = _ := Eq.trans (hf 41) (by conv => lhs; simp [go_sem])
            have y42 : A.eval (.tmp 42) = _ := Eq.trans (hf 42) (by conv => lhs; simp [go_sem])
            have y43 : A.eval (.tmp 43) = _ := Eq.trans (hf 43) (by conv => lhs; simp [go_sem])
            have y44 : A.eval (.tmp 44) = _ := Eq.trans (hf 44) (by conv => lhs; simp [go_sem])
            have y45 : A.eval (.tmp 45) = _ := Eq.trans (hf 45) (by conv => lhs; simp [go_sem])
            clear hf
            have hA := frame_eq hn
            rw [show List.range 46 = [0, 1, 2, 3, 4, 5, 6, 7, 8, 9, 10, 11, 12, 13, 14, 15, 16, 17, 18, 19, 20, 21, 22, 23, 24, 25, 26, 27, 28, 29, 30, 31, 32, 33, 34, 35, 36, 37, 38, 39, 40, 41, 42, 43, 44, 45] from rfl, hd] at hA
            simp only [List.map_cons, List.map_nil, y0, y1, y2, y3, y4, y5, y6, y7, y8, y9, y10, y11, y12, y13, y14, y15, y16, y17, y18, y19, y20, y21, y22, y23, y24, y25, y26, y27, y28, y29, y30, y31, y32, y33, y34, y35, y36, y37, y38, y39, y40, y41, y42, y43, y44, y45] at hA
            clear y0 y1 y2 y3 y4 y5 y6 y7 y8 y9 y10 y11 y12 y13 y14 y15 y16 y17 y18 y19 y20 y21 y22 y23 y24 y25 y26 y27 y28 y29 y30 y31 y32 y33 y34 y35 y36 y37 y38 y39 y40 y41 y42 y43 y44 y45
            clear hn hd
            subst hA
            have HB5 := Lib.hid (HBV.out.trans (hC.mono HBV.out.size))
            have HO5 := Lib.hid ((HO.out.below hbv).below hC)
            have OY5 := Lib.hid (OY.out.below hC)
            clear hC
            have HSW : Hid (w1.heap.size ≤ V5.heap.size) := HB5.out.size
            obtain ⟨⟨e0, e1, e2, e3, e4, e5, e6⟩, ef⟩ := OY5.out
            go_wp2_with (at_builtin; refine vapp1_any rfl (.tmp 41) (.tmp 43) rfl V5 y rfl w1.heap.size (.slice ax xs.length cx) xs rfl rfl HO5.out HLE1.out HSW.out ?_; intro g1 cap1 wa ho9 hb9; have HO1 := Lib.hid ho9; have HA1 := Lib.hid hb9; clear ho9 hb9)
            go_roundw
            case rel => exact ⟨k + 1, some ⟨g1, 0, none⟩, cap1, xs ++ [y], by omega, by go_num, by rw [List.length_append]; rfl, HST.out, by have h9 := HO1.out; rw [List.length_append]; exact h9, HB5.out.trans HA1.out⟩
            case measure => simp [intOf]; omega
          | true =>
            have hIf : ∀ {α : Type} (X Y : α), (if y.2.2.1 = lv.1 then if y.2.2.2.1 = lv.2.1 then if y.2.2.2.2.1 = lv.2.2 then X else Y else Y else Y) = X := by
              intro α X Y
              obtain ⟨h1, h2, h3⟩ := eqLv_iff.1 g3
              rw [if_pos h1, if_pos h2, if_pos h3]
            have HST : Hid (forL (l.take (k + 1)) lv keep = xs ++ [(y.1, nulX y.2.2.2.2.2.2)]) := by
              show _ = _
              rw [hst]
              unfold fgt
              obtain ⟨h1, h2, h3⟩ := eqLv_iff.1 g3
              rw [if_pos ⟨HG1.out, g2, Prod.ext h1 (Prod.ext h2 h3)⟩]
            clear hst g3
            refine wp_region_typed (C := fun w' => Below V.heap.size V w') (X := fun w w' => Below w.heap.size w w') (n := 46) (by kernel_rfl) (by kernel_rfl) rfl (fun w => Below.refl _ w) (Below.refl _ _).drew ?_
            refine w_is (fun w => Below.refl _ w) _ (.inl rfl) (fun ρ w hC hc hfn hf => by have e9 : ρ (.tmp 9) = _ := hf 9 (by decide); (conv => lhs; simp [execOp, go_sem, hc, e9])) ?_
            refine w_is (fun w => Below.refl _ w) _ (.inl rfl) (fun ρ w hC hc hfn hf => by have e20 : ρ (.tmp 20) = _ := hf 20 (by decide); (conv => lhs; simp [execOp, go_sem, hc, e20, kc w hC])) ?_
            refine w_is (fun w => Below.refl _ w) _ (.inl rfl) (fun ρ w hC hc hfn hf => by have e2 : ρ (.tmp 2) = _ := hf 2 (by decide); (conv => lhs; simp [execOp, go_sem, hc, e2])) ?_
            refine w_is (fun w => Below.refl _ w) _ (.inl rfl) (fun ρ w hC hc hfn hf => by have e21 : ρ (.tmp 21) = _ := hf 21 (by decide); have e22 : ρ (.tmp 22) = _ := hf 22 (by decide); (conv => lhs; simp [execOp, go_sem, hc, e21, e22, q1])) ?_
            refine w_is (fun w => Below.refl _ w) _ (.inl rfl) (fun ρ w hC hc hfn hf => by have e23 : ρ (.tmp 23) = _ := hf 23 (by decide); (conv => lhs; simp [execOp, go_sem, hc, e23])) ?_
            refine w_is (fun w => Below.refl _ w) _ (.inr ⟨4, 24, true, rfl, rfl, known_is rfl⟩) (fun ρ w hC hc hfn hf => by have e9 : ρ (.tmp 9) = _ := hf 9 (by decide); (conv => lhs; simp [execOp, go_sem, hc, e9])) ?_
            refine w_is (fun w => Below.refl _ w) _ (.inr ⟨4, 24, true, rfl, rfl, known_is rfl⟩) (fun ρ w hC hc hfn hf => by have e25 : ρ (.tmp 25) = _ := hf 25 (by decide); (conv => lhs; simp [execOp, go_sem, hc, e25, kc w hC])) ?_
            refine w_call (Is _) (fun _ _ _ h _ => h) 38 (.inr ⟨4, 24, true, rfl, rfl, known_is rfl⟩) (fun ρ w hC hc hfn hf => by have e26 : ρ (.tmp 26) = _ := hf 26 (by decide); exact ⟨_, by (conv => lhs; simp [execOp, resolve, invoke, go_sem, hc, hfn, e26]), tc_below hC (cT w)⟩) ?_
            refine w_is (fun w => Below.refl _ w) _ (.inl rfl) (fun ρ w hC hc hfn hf => by have e24 : ρ (.tmp 24) = _ := hf 24 (by decide); have e27 : ρ (.tmp 27) = _ := hf 27 (by decide); (conv => lhs; simp [execOp, go_sem, hc, e24, e27])) ?_
            refine w_is (fun w => Below.refl _ w) _ (.inl rfl) (fun ρ w hC hc hfn hf => by have e28 : ρ (.tmp 28) = _ := hf 28 (by decide); (conv => lhs; simp [execOp, go_sem, hc, e28])) ?_
            refine w_is (fun w => Below.refl _ w) _ (.inr ⟨9, 29, true, rfl, rfl, known_is rfl⟩) (fun ρ w hC hc hfn hf => by have e9 : ρ (.tmp 9) = _ := hf 9 (by decide); (conv => lhs; simp [execOp, go_sem, hc, e9])) ?_
            refine w_is (fun w => Below.refl _ w) _ (.inr ⟨9, 29, true, rfl, rfl, known_is rfl⟩) (fun ρ w hC hc hfn hf => by have e30 : ρ (.tmp 30) = _ := hf 30 (by decide); (conv => lhs; simp [execOp, go_sem, hc, e30, kc w hC])) ?_
            refine w_call (Is _) (fun _ _ _ h _ => h) 45 (.inr ⟨9, 29, true, rfl, rfl, known_is rfl⟩) (fun ρ w hC hc hfn hf => by have e31 : ρ (.tmp 31) = _ := hf 31 (by decide); exact ⟨_, by (conv => lhs; simp [execOp, resolve, invoke, go_sem, hc, hfn, e31]), tc_below hC (cL w)⟩) ?_
            refine w_is (fun w => Below.refl _ w) _ (.inr ⟨9, 29, true, rfl, rfl, known_is rfl⟩) (fun ρ w hC hc hfn hf => by have e4 : ρ (.tmp 4) = _ := hf 4 (by decide); (conv => lhs; simp [execOp, go_sem, hc, e4, kc w hC])) ?_
            refine w_is (fun w => Below.refl _ w) _ (.inr ⟨9, 29, true, rfl, rfl, known_is rfl⟩) (fun ρ w hC hc hfn hf => by have e32 : ρ (.tmp 32) = _ := hf 32 (by decide); have e33 : ρ (.tmp 33) = _ := hf 33 (by decide); (conv => lhs; simp [execOp, go_sem, hc, e32, e33, hIf, guard25])) ?_
            refine w_is (fun w => Below.refl _ w) _ (.inl rfl) (fun ρ w hC hc hfn hf => by have e29 : ρ (.tmp 29) = _ := hf 29 (by decide); have e34 : ρ (.tmp 34) = _ := hf 34 (by decide); (conv => lhs; simp [execOp, go_sem, hc, e29, e34])) ?_
            intro A V5 hC hn hd hf
            have y0 : A.eval (.tmp 0) = _ := Eq.trans (hf 0) (by conv => lhs; simp [go_sem])
            have y1 : A.eval (.tmp 1) = _ := Eq.trans (hf 1) (by conv => lhs; simp [go_sem])
            have y2 : A.eval (.tmp 2) = _ := Eq.trans (hf 2) (by conv => lhs; simp [go_sem])
            have y3 : A.eval (.tmp 3) = _ := Eq.trans (hf 3) (by conv => lhs; simp [go_sem])
            have y4 : A.eval (.tmp 4) = _ := Eq.trans (hf 4) (by conv => lhs; simp [go_sem])
            have y5 : A.eval (.tmp 5) = _ := Eq.trans (hf 5) (by conv => lhs; simp [go_sem])
            have y6 : A.eval (.tmp 6) = _ := Eq.trans (hf 6) (by conv => lhs; simp [go_sem])
            have y7 : A.eval (.tmp 7) = _ := Eq.trans (hf 7) (by conv => lhs; simp [go_sem])
            have y8 : A.eval (.tmp 8) = _ := Eq.trans (hf 8) (by conv => lhs; simp [go_sem])
            have y9 : A.eval (.tmp 9) = _ := Eq.trans (hf 9) (by conv => lhs; simp [go_sem])
            have y10 : A.eval (.tmp 10) = _ := Eq.trans (hf 10) (by conv => lhs; simp [go_sem])
            have y11 : A.eval (.tmp 11) = _ := Eq.trans (hf 11) (by conv => lhs; simp [go_sem])
            have y12 : A.eval (.tmp 12) = _ := Eq.trans (hf 12) (by conv => lhs; simp [go_sem])
            have y13 : A.eval (.tmp 13) = _ := Eq.trans (hf 13) (by conv => lhs; simp [go_sem])
            have y14 : A.eval (.tmp 14) = _ := Eq.trans (hf 14) (by conv => lhs; simp [go_sem])
            have y15 : A.eval (.tmp 15) = _ := Eq.trans (hf 15) (by conv => lhs; simp [go_sem])
            have y16 : A.eval (.tmp 16) = _ := Eq.trans (hf 16) (by conv => lhs; simp [go_sem])
            have y17 : A.eval (.tmp 17) = _ := Eq.trans (hf 17) (by conv => lhs; simp [go_sem])
            have y18 : A.eval (.tmp 18) = _ := Eq.trans (hf 18) (by conv => lhs; simp [go_sem])
            have y19 : A.eval (.tmp 19) = _ := Eq.trans (hf 19) (by conv => lhs; simp [go_sem])
            have y20 : A.eval (.tmp 20) = _ := hf 20
            have y21 : A.eval (.tmp 21) = _ := hf 21
            have y22 : A.eval (.tmp 22) = _ := hf 22
            have y23 : A.eval (.tmp 23) = _ := hf 23
            have y24 : A.eval (.tmp 24) = _ := hf 24
            have y25 : A.eval (.tmp 25) = _ := hf 25
            have y26 : A.eval (.tmp 26) = _ := hf 26
            have y27 : A.eval (.tmp 27) = _ := hf 27
            have y28 : A.eval (.tmp 28) = _ := hf 28
            have y29 : A.eval (.tmp 29) = _ := hf 29
            have y30 : A.eval (.tmp 30) = _ := hf 30
            have y31 : A.eval (.tmp 31) = _ := hf 31
            have y32 : A.eval (.tmp 32) = _ := hf 32
            have y33 : A.eval (.tmp 33) = _ := hf 33
            have y34 : A.eval (.tmp 34) = _ := hf 34
            have y35 : A.eval (.tmp 35) = _ := hf 35
            have y36 : A.eval (.tmp 36) = _ := Eq.trans (hf 36) (by conv => lhs; simp [go_sem])
            have y37 : A.eval (.tmp 37) = _ := Eq.trans (hf 37) (by conv => lhs; simp [go_sem])
            have y38 : A.eval (.tmp 38) = _ := Eq.trans (hf 38) (by conv => lhs; simp [go_sem])
            have y39 : A.eval (.tmp 39) = _ := Eq.trans (hf 39) (by conv => lhs; simp [go_sem])
            have y40 : A.eval (.tmp 40) = _ := Eq.trans (hf 40) (by conv => lhs; simp [go_sem])
            have y41 : A.eval (.tmp 41) = _ := Eq.trans (hf 41) (by conv => lhs; simp [go_sem])
            have y42 : A.eval (.tmp 42) = _ := Eq.trans (hf 42) (by conv => lhs; simp [go_sem])
            have y43 : A.eval (.tmp 43) = _ := Eq.trans (hf 43) (by conv => lhs; simp [go_sem])
            have y44 : A.eval (.tmp 44) = _ := Eq.trans (hf 44) (by conv => lhs; simp [go_sem])
            have y45 : A.eval (.tmp 45) = _ := Eq.trans (hf 45) (by conv => lhs; simp [go_sem])
            clear hf
            have hA := frame_eq hn
            rw [show List.range 46 = [0, 1, 2, 3, 4, 5, 6, 7, 8, 9, 10, 11, 12, 13, 14, 15, 16, 17, 18, 19, 20, 21, 22, 23, 24, 25, 26, 27, 28, 29, 30, 31, 32, 33, 34, 35, 36, 37, 38, 39, 40, 41, 42, 43, 44, 45] from rfl, hd] at hA
            simp only [List.map_cons, List.map_nil, y0, y1, y2, y3, y4, y5, y6, y7, y8, y9, y10, y11, y12, y13, y14, y15, y16, y17, y18, y19, y20, y21, y22, y23, y24, y25, y26, y27, y28, y29, y30, y31, y32, y33, y34, y35, y36, y37, y38, y39, y40, y41, y42, y43, y44, y45] at hA
            clear y0 y1 y2 y3 y4 y5 y6 y7 y8 y9 y10 y11 y12 y13 y14 y15 y16 y17 y18 y19 y20 y21 y22 y23 y24 y25 y26 y27 y28 y29 y30 y31 y32 y33 y34 y35 y36 y37 y38 y39 y40 y41 y42 y43 y44 y45
            clear hn hd
            subst hA
            have HB5 := Lib.hid (HBV.out.trans (hC.mono HBV.out.size))
            have HO5 := Lib.hid ((HO.out.below hbv).below hC)
            have OY5 := Lib.hid (OY.out.below hC)
            have HG5 := Lib.hid (show wr.heap.size < V5.heap.size from Nat.lt_of_lt_of_le hgv hC.size)
            clear hC
            obtain ⟨⟨e0, e1, e2, e3, e4, e5, e6⟩, ef⟩ := OY5.out
            go_upto_region 8 with (go_at_call 46; refine (rnull_any _ _).mono ?_; rintro e w6 ⟨rfl, hb6⟩; have HB6 := Lib.hid (HB5.out.trans (hb6.mono HB5.out.size)); have HO6 := Lib.hid (HO5.out.below hb6); have OY6 := Lib.hid (OY5.out.below hb6); clear hb6; clear e0 e1 e2 e3 e4 e5 e6 ef; obtain ⟨⟨e0, e1, e2, e3, e4, e5, e6⟩, ef⟩ := OY6.out)
            obtain ⟨V7, hV7⟩ : ∃ V7, (((((w6.setCell ⟨wr.heap.size, 1, none⟩ (.bool (nulX y.2.2.2.2.2.2).1)).setCell ⟨wr.heap.size, 2, none⟩ (.int .i64 (nulX y.2.2.2.2.2.2).2.1)).setCell ⟨wr.heap.size, 3, none⟩ (.int .i64 (nulX y.2.2.2.2.2.2).2.2.1)).setCell ⟨wr.heap.size, 4, none⟩ (.int .i64 (nulX y.2.2.2.2.2.2).2.2.2.1)).setCell ⟨wr.heap.size, 5, none⟩ (.int .i64 (nulX y.2.2.2.2.2.2).2.2.2.2.1)).setCell ⟨wr.heap.size, 6, none⟩ (.int .i64 (nulX y.2.2.2.2.2.2).2.2.2.2.2) = V7 := ⟨_, rfl⟩
            have OY7 := Lib.hid (hV7 ▸ ownV_set1 OY6.out (nulX y.2.2.2.2.2.2) : OwnV V7 wr.heap.size (y.1, nulX y.2.2.2.2.2.2))
            have hb7 : Below w1.heap.size w1 V7 := hV7 ▸ vbel_set1 HB6.out (by have := HB.out.size; omega) (nulX y.2.2.2.2.2.2)
            have HB7 := Lib.hid hb7
            have hch : ∀ k', (Value.slice ax xs.length cx).ownBlock = some k' → k' ≠ wr.heap.size := fun k' hk' e => by have := (HO.out.lt k' hk').2; omega
            have HO7 := Lib.hid (hV7 ▸ ownr_set1 HO6.out hch (nulX y.2.2.2.2.2.2) : OwV V7 w1.heap.size (.slice ax xs.length cx) xs)
            have HSW : Hid (w1.heap.size ≤ V7.heap.size) := HB7.out.size
            simp only [nulX] at hV7
            simp only [hV7]
            clear e0 e1 e2 e3 e4 e5 e6 ef hV7 hb7 hch
            obtain ⟨⟨e0, e1, e2, e3, e4, e5, e6⟩, ef⟩ := OY7.out
            simp only [nulX] at e0 e1 e2 e3 e4 e5 e6
            go_wp2_with (at_builtin; refine vapp1_any rfl (.tmp 41) (.tmp 43) rfl V7 (y.1, nulX y.2.2.2.2.2.2) rfl w1.heap.size (.slice ax xs.length cx) xs rfl rfl HO7.out HLE1.out HSW.out ?_; intro g1 cap1 wa ho9 hb9; have HO1 := Lib.hid ho9; have HA1 := Lib.hid hb9; clear ho9 hb9)
            go_roundw
            case rel => exact ⟨k + 1, some ⟨g1, 0, none⟩, cap1, xs ++ [(y.1, nulX y.2.2.2.2.2.2)], by omega, by go_num, by rw [List.length_append]; rfl, HST.out, by have h9 := HO1.out; rw [List.length_append]; exact h9, HB7.out.trans HA1.out⟩
            case measure => simp [intOf]; omega
    · obtain rfl : k = l.length := by omega
      rw [List.take_length] at HF
      have HBX := Lib.hid (HB0.out.trans (HB.out.mono HB0.out.size))
      have HOX := Lib.hid (HO.out.mono HB0.out.size)
      go_wp2_with fail
      go_ret
      rw [HF.out]
      exact ⟨⟨_, _, rfl, HOX.out⟩, HBX.out⟩
end Go.Proofs.Ytahhhegknmiinaa
