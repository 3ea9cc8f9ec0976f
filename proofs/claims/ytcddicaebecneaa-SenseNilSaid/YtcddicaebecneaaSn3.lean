/- The reference's sensor: Beacon. No conditions. -/
import Derived.Test.YtcddicaebecneaaSn2
import Derived.Test.YtcddicaebecneaaTyped
import Derived.Test.YtcddicaebecneaaTyp4
import Derived.Deep.Cut
namespace Go.Proofs.Ytcddicaebecneaa
set_option maxRecDepth 100000
open Go.RowKit

theorem XS.keep {B : Nat} {w w' : World} {b g : Nat} {s : Sn} (h : XS w b g s) (hb : Below B w w') (h1 : b < B) (h2 : g < B) : XS w' b g s :=
  h.chg (F := fun k => B ≤ k) (chg_of hb) (by omega) (by omega)
theorem ec13 (w : World) (y1 y2 : Int) : GC RE (w.alloc (.cells #[.int .i64 y1, .int .i64 y2] 51)) w.heap.size 0 (y1, y2) := gc_alloc RE w (y1, y2) _ rfl 51
theorem b2_low {w w' : World} {b S : Nat} {M : Int} {v : Value} (h : OwnB2 w b M v) (hb : b < S) (hB : Below S w w') : OwnB2 w' b M v :=
  ⟨⟨(hB.cell (p := ⟨b, 0, none⟩) hb).trans h.1.1, (hB.cell (p := ⟨b, 1, none⟩) hb).trans h.1.2⟩, fun j => (hB.frozen (p := ⟨b, j, none⟩) hb).trans (h.2 j)⟩
theorem b2_set1 {w : World} {b : Nat} {M : Int} {v : Value} (h : OwnB2 w b M v) (v' : Value) : OwnB2 (w.setCell ⟨b, 1, none⟩ v') b M v' := by
  obtain ⟨⟨h0, h1⟩, hf⟩ := h
  refine ⟨⟨?_, ?_⟩, fun j => ?_⟩ <;> simp [go_sem, hf, h0, h1]
theorem b2_set {w : World} {b : Nat} {M : Int} {v : Value} (h : OwnB2 w b M v) (M' : Int) (v' : Value) : OwnB2 ((w.setCell ⟨b, 0, none⟩ (.int .i64 M')).setCell ⟨b, 1, none⟩ v') b M' v' := by
  obtain ⟨⟨h0, h1⟩, hf⟩ := h
  refine ⟨⟨?_, ?_⟩, fun j => ?_⟩ <;> simp [go_sem, hf, h0, h1]
theorem bel_b2 {B : Nat} {u w : World} {b : Nat} (h : Below B u w) (hB : B ≤ b) (M : Int) (v : Value) : Below B u ((w.setCell ⟨b, 0, none⟩ (.int .i64 M)).setCell ⟨b, 1, none⟩ v) := (h.setCell (p := ⟨b, 0, none⟩) hB _).setCell (p := ⟨b, 1, none⟩) hB _
set_option maxHeartbeats 16000000 in
theorem rbeacon_any (b g : Nat) (s : Sn) (w : World) (h : XS w b g s) : Calls Try.prog 20 #[.pointer (some ⟨b, 0, none⟩)] w fun e w' => (∃ v, e = .returned (.agg #[.int .i64 s.ep, v]) ∧ Es w' v (beaL s)) ∧ Below w.heap.size w w' := by
  obtain ⟨R, hR⟩ : ∃ R, beaL s = R := ⟨_, rfl⟩
  rw [hR]
  obtain ⟨W1, hW1⟩ : ∃ W1, w.alloc (.cells #[.int .i64 0, .slice none 0 0] 34) = W1 := ⟨_, rfl⟩
  obtain ⟨V0, hV0⟩ : ∃ V0, W1.alloc (.cells #[.int .i64 s.ep, .slice none 0 0] 34) = V0 := ⟨_, rfl⟩
  have hs1 : W1.heap.size = w.heap.size + 1 := by rw [← hW1]; simp
  have hs2 : V0.heap.size = w.heap.size + 2 := by rw [← hV0]; simp; omega
  have hb1 : Below w.heap.size w W1 := hW1 ▸ (Below.refl _ w).alloc (Nat.le_refl _) _
  have hb2 : Below W1.heap.size W1 V0 := hV0 ▸ (Below.refl _ W1).alloc (Nat.le_refl _) _
  have or1 : OwnB2 V0 w.heap.size 0 (.slice none 0 0) := (hW1 ▸ ownb2_alloc w 0 (.slice none 0 0) 34 w.heap.size rfl : OwnB2 W1 w.heap.size 0 (.slice none 0 0)).below hb2
  obtain ⟨g0, hg0⟩ : ∃ g0, w.heap.size + 1 = g0 := ⟨_, rfl⟩
  have ob1 : OwnB2 V0 g0 s.ep (.slice none 0 0) := hV0 ▸ ownb2_alloc W1 s.ep (.slice none 0 0) 34 g0 (by omega)
  have hX := h.below hb1
  have HBL := Lib.hid (And.intro h.bl h.gl)
  have H := Lib.hid (hX.below hb2)
  have OR := Lib.hid or1
  have OB1 := Lib.hid ob1
  have HB0 : Hid (Below w.heap.size w V0) := hb1.trans (hb2.mono hb1.size)
  have HR := Lib.hid hR
  have HG0 := Lib.hid hg0
  have HS2 : Hid (V0.heap.size = g0 + 1) := by show _ = _; omega
  have HW1 := Lib.hid hW1
  have HV0 := Lib.hid hV0
  have HS1 := Lib.hid hs1
  have HX1 := Lib.hid hX
  obtain ⟨c0, c1, c2, c3, c4⟩ := hX.cells
  clear h hR hW1 hV0 hs1 hs2 hb1 hb2 or1 ob1 hX hg0
  go_enter Try.func20, Try.ntmps20
  go_upto_region 1 with (fail)
  rw [HW1.out]
  go_upto_region 2 with (fail)
  rw [HV0.out]
  try simp only [HS1.out, HG0.out]
  clear c0 c1 c2 c3 c4
  go_wp2_with fail
  go_loopw [4] (fun i wr => ∃ (k : Nat) (v : Value) (xs : List (Int × Int)), k ≤ 64 ∧ i = .int .i64 k ∧ OwnB2 wr g0 s.ep v ∧ Hid (echF (fun h => h.1) s.L k = xs) ∧ OwC wr (g0 + 1) v xs ∧ g0 + 1 ≤ wr.heap.size ∧ Below g0 V0 wr) (fun i _ => 64 - (intOf i).toNat)
  case atStart => exact ⟨0, _, [], Nat.zero_le _, rfl, OB1.out, rfl, OwC_nil _ _, Nat.le_of_eq HS2.out.symm, Below.refl _ _⟩
  case round =>
    obtain ⟨k, v, xs, hk, rfl, hob, HF, hrow, hsz, hbel⟩ := hrel
    obtain ⟨a3, c3, rfl⟩ := hrow.form
    have hxl : xs.length ≤ k := by
      have h1 := ech_len (fun h => h.1) s.L k
      rw [HF.out] at h1
      exact h1
    have HX := Lib.hid (H.out.keep hbel (by have := HBL.out; have := HG0.out; omega) (by have := HBL.out; have := HG0.out; omega))
    have HW := Lib.hid hbel
    have OO := Lib.hid hob
    have OW := Lib.hid hrow
    have HSW := Lib.hid hsz
    clear hbel hob hrow hsz
    obtain ⟨c0, c1, c2, c3', c4⟩ := HX.out.cells
    obtain ⟨o0, o1⟩ := OO.out.1
    by_cases hlt : k < 64
    · obtain ⟨r0, r1, r2, r3⟩ := HX.out.row k hlt
      obtain ⟨y, hy⟩ : ∃ y, s.L.getD k zHd = y := ⟨_, rfl⟩
      rw [hy] at r0 r1 r2 r3
      have hltz : (k : Int) < 64 := by omega
      have hst : echF (fun h => h.1) s.L (k + 1) = xs ++ if y.1 = true then [((k : Int), y.2.1)] else [] := by rw [← HF.out, ← hy]; rfl
      clear hy
      cases g3 : y.1 with
      | true =>
        rw [g3] at hst r0
        rw [if_pos rfl] at hst
        have HST := Lib.hid hst
        clear hst g3
        have HXL : Hid (xs.length ≤ 3000) := by show _ ≤ _; omega
        have hq0 : (0 : Int) ≤ (k : Int) := by omega
        have hq1 : (k : Int) < 64 := by omega
        have hqn : ((k : Int)).toNat = k := Int.toNat_natCast k
        have HROW : ∀ b, Value.ownBlock (.slice a3 xs.length c3) = some b → b < wr.heap.size := fun b hb => (World.ownsRow.lt OW.out b hb).2
        have hbg : b < g0 + 1 := by have := HBL.out; have := HG0.out; omega
        have hgg : g < g0 + 1 := by have := HBL.out; have := HG0.out; omega
        have kc : ∀ w', Below (g0 + 1) wr w' → w'.cell? ⟨g0, 1, none⟩ = some (.slice a3 xs.length c3) ∧ w'.cell? ⟨b, 4, none⟩ = some (.slice (some ⟨g, 0, none⟩) 64 64) ∧ w'.cell? ⟨g, k * 4, none⟩ = some (.bool true) ∧ w'.cell? ⟨g, k * 4 + 1, none⟩ = some (.int .i64 y.2.1) := fun w' h =>
          ⟨(h.cell (p := ⟨g0, 1, none⟩) (Nat.lt_succ_self _)).trans o1, (h.cell (p := ⟨b, 4, none⟩) hbg).trans c4, (h.cell (p := ⟨g, k * 4, none⟩) hgg).trans r0, (h.cell (p := ⟨g, k * 4 + 1, none⟩) hgg).trans r1⟩
        go_upto_region 6 with (fail)
        refine T3.wp_region_tail (C := fun w' => Below (g0 + 1) wr w' ∧ w'.ownsRow (g0 + 1) RE.T RE.K ((.slice a3 xs.length c3)) (xs).length (gflat RE (xs))) (X := GX (Value.ownBlock ((.slice a3 xs.length c3))) 13) (n := 43) 15 (by kernel_rfl) (by kernel_rfl) (by kernel_rfl) (by kernel_rfl) rfl (GX_refl _ 13) ⟨(Below.refl _ _).drew, OW.out.drew⟩ ?_
        simp only [List.take_succ_cons, List.take_zero, List.drop_succ_cons, List.drop_zero]
        refine T3.w_is (GX_refl _ 13) rfl _ (.inl rfl) (fun ρ w hC hc hfn hf => by have e3 : ρ (.tmp 3) = _ := hf 3 (by decide); (conv => lhs; simp [execOp, go_sem, hc, e3])) ?_
        refine T3.w_is (GX_refl _ 13) rfl _ (.inl rfl) (fun ρ w hC hc hfn hf => by have e27 : ρ (.tmp 27) = _ := hf 27 (by decide); (conv => lhs; simp [execOp, go_sem, hc, e27, kc w hC.1])) ?_
        refine T3.w_is (GX_refl _ 13) rfl _ (.inl rfl) (fun ρ w hC hc hfn hf => by have e4 : ρ (.tmp 4) = _ := hf 4 (by decide); (conv => lhs; simp [execOp, go_sem, hc, e4])) ?_
        refine T3.w_is (GX_refl _ 13) rfl _ (.inl rfl) (fun ρ w hC hc hfn hf => by have e0 : ρ (.tmp 0) = _ := hf 0 (by decide); (conv => lhs; simp [execOp, go_sem, hc, e0])) ?_
        refine T3.w_is (GX_refl _ 13) rfl _ (.inl rfl) (fun ρ w hC hc hfn hf => by have e30 : ρ (.tmp 30) = _ := hf 30 (by decide); (conv => lhs; simp [execOp, go_sem, hc, e30])) ?_
        refine T3.w_is (GX_refl _ 13) rfl _ (.inl rfl) (fun ρ w hC hc hfn hf => by have e31 : ρ (.tmp 31) = _ := hf 31 (by decide); (conv => lhs; simp [execOp, go_sem, hc, e31])) ?_
        refine T3.w_is (GX_refl _ 13) rfl _ (.inl rfl) (fun ρ w hC hc hfn hf => by have e32 : ρ (.tmp 32) = _ := hf 32 (by decide); (conv => lhs; simp [execOp, go_sem, hc, e32, kc w hC.1])) ?_
        refine T3.w_is (GX_refl _ 13) rfl _ (.inl rfl) (fun ρ w hC hc hfn hf => by have e4 : ρ (.tmp 4) = _ := hf 4 (by decide); (conv => lhs; simp [execOp, go_sem, hc, e4])) ?_
        refine T3.w_is (GX_refl _ 13) rfl _ (.inl rfl) (fun ρ w hC hc hfn hf => by have e33 : ρ (.tmp 33) = _ := hf 33 (by decide); have e34 : ρ (.tmp 34) = _ := hf 34 (by decide); (conv => lhs; simp [execOp, go_sem, hc, e33, e34, hq0, hq1, hqn])) ?_
        refine T3.w_is (GX_refl _ 13) rfl _ (.inl rfl) (fun ρ w hC hc hfn hf => by have e35 : ρ (.tmp 35) = _ := hf 35 (by decide); (conv => lhs; simp [execOp, go_sem, hc, e35])) ?_
        refine T3.w_is (GX_refl _ 13) rfl _ (.inl rfl) (fun ρ w hC hc hfn hf => by have e36 : ρ (.tmp 36) = _ := hf 36 (by decide); (conv => lhs; simp [execOp, go_sem, hc, e36, kc w hC.1])) ?_
        refine T3.w_is (GX_refl _ 13) rfl _ (.inl rfl) (fun ρ w hC hc hfn hf => by have e29 : ρ (.tmp 29) = _ := hf 29 (by decide); have e37 : ρ (.tmp 37) = _ := hf 37 (by decide); (conv => lhs; simp [execOp, go_sem, hc, e29, e37])) ?_
        refine T3.w_make rfl (NewG (R := RE) wr ((k : Int), y.2.1)) (NewG.keeps HROW 13 12) (.inl rfl) (fun ρ w hC hc hfn hf => by have e38 : ρ (.tmp 38) = _ := hf 38 (by decide); exact ⟨_, _, by (conv => lhs; simp [execOp, go_sem, hc, e38]), ⟨hC.1.alloc (Nat.le_trans HSW.out hC.1.size) _, hC.2.alloc _⟩, GX_of (by decide) ((Below.refl _ w).alloc (Nat.le_refl _) _), ⟨_, rfl, hC.1.size, ec13 w (k : Int) y.2.1⟩⟩) ?_
        refine T3.w_make rfl (NewGRow (R := RE) (g0 + 1) ((xs) ++ [((k : Int), y.2.1)]) ((xs).length + 1)) (NewGRow.keeps 13) (.inl rfl) (fun ρ w hC hc hfn hf => by have e28 : ρ (.tmp 28) = _ := hf 28 (by decide); obtain ⟨bq, e39, hb1, hb2⟩ := (show NewG (R := RE) wr ((k : Int), y.2.1) (ρ (.tmp 39)) w from hf 39 (by decide)); obtain ⟨gq, cq, wq, hr, hq1, hq2, hq3⟩ := run_gapp (R := RE) w 32 (g0 + 1) _ (xs) hC.2 bq ((k : Int), y.2.1) hb2 HXL.out (Nat.le_trans HSW.out hC.1.size); exact ⟨_, wq, gexec_append rfl e28 e39 hr, ⟨hC.1.trans ((Below.refl (g0 + 1) w).grown hq2 (Nat.le_trans HSW.out hC.1.size) (fun k hk => (hC.2.lt k hk).1)), hq3⟩, GX_at rfl hq2, ⟨gq, cq, rfl, hq1⟩⟩) ?_
        refine T3.w_is (GX_refl _ 13) rfl _ (.inl rfl) (fun ρ w hC hc hfn hf => by have e3 : ρ (.tmp 3) = _ := hf 3 (by decide); (conv => lhs; simp [execOp, go_sem, hc, e3])) ?_
        intro A V5 hC hn hd hf
        obtain ⟨bq, y39, -, -⟩ := (show NewG (R := RE) wr ((k : Int), y.2.1) (A.eval (.tmp 39)) V5 from hf 39)
        obtain ⟨gq, cq, y40, OQ⟩ := (show NewGRow (R := RE) (g0 + 1) ((xs) ++ [((k : Int), y.2.1)]) ((xs).length + 1) (A.eval (.tmp 40)) V5 from hf 40)
        rw [y40] at OQ
        have y0 : A.eval (.tmp 0) = _ := Eq.trans (hf 0) (by conv => lhs; simp [go_sem])
        have y1 : A.eval (.tmp 1) = _ := Eq.trans (hf 1) (by conv => lhs; simp [go_sem])
        have y2 : A.eval (.tmp 2) = _ := Eq.trans (hf 2) (by conv => lhs; simp [go_sem])
        have y3 : A.eval (.tmp 3) = _ := Eq.trans (hf 3) (by conv => lhs; simp [go_sem])
        have y4 : A.eval (.tmp 4) = _ := Eq.trans (hf 4) (by conv => lhs; simp [go_sem])
        have y5 : A.eval (.tmp 5) = _ := Eq.trans (hf 5) (by conv => lhs; simp [go_sem])
        have y6 : A.eval (.tmp 6) = _ := Eq.trans (hf 6) (by conv => lhs; simp [go_sem])
        have y7 : A.eval (.tmp 7) = _ := Eq.trans (hf 7) (by conv => lhs; simp [go_sem])
        have y8 : A.eval (.tmp 8) = _ := Eq.trans (hf 8) (by conv => lhs; simp [go_sem])
        have y9 : A.eval (.tmp 9) = _ := Eq.trans (hf 9) (by conv => lhs; simp [go_sem])
        have y10 : A.eval (.tmp 10) = _ := Eq.trans (hf 10) (by conv => lhs; simp [go_sem])
        have y11 : A.eval (.tmp 11) = _ := Eq.trans (hf 11) (by conv => lhs; simp [go_sem])
        have y12 : A.eval (.tmp 12) = _ := Eq.trans (hf 12) (by conv => lhs; simp [go_sem])
        have y13 : A.eval (.tmp 13) = _ := Eq.trans (hf 13) (by conv => lhs; simp [go_sem])
        have y14 : A.eval (.tmp 14) = _ := Eq.trans (hf 14) (by conv => lhs; simp [go_sem])
        have y15 : A.eval (.tmp 15) = _ := Eq.trans (hf 15) (by conv => lhs; simp [go_sem])
        have y16 : A.eval (.tmp 16) = _ := Eq.trans (hf 16) (by conv => lhs; simp [go_sem])
        have y17 : A.eval (.tmp 17) = _ := Eq.trans (hf 17) (by conv => lhs; simp [go_sem])
        have y18 : A.eval (.tmp 18) = _ := Eq.trans (hf 18) (by conv => lhs; simp [go_sem])
        have y19 : A.eval (.tmp 19) = _ := Eq.trans (hf 19) (by conv => lhs; simp [go_sem])
        have y20 : A.eval (.tmp 20) = _ := Eq.trans (hf 20) (by conv => lhs; simp [go_sem])
        have y21 : A.eval (.tmp 21) = _ := Eq.trans (hf 21) (by conv => lhs; simp [go_sem])
        have y22 : A.eval (.tmp 22) = _ := Eq.trans (hf 22) (by conv => lhs; simp [go_sem])
        have y23 : A.eval (.tmp 23) = _ := Eq.trans (hf 23) (by conv => lhs; simp [go_sem])
        have y24 : A.eval (.tmp 24) = _ := Eq.trans (hf 24) (by conv => lhs; simp [go_sem])
        have y25 : A.eval (.tmp 25) = _ := Eq.trans (hf 25) (by conv => lhs; simp [go_sem])
        have y26 : A.eval (.tmp 26) = _ := Eq.trans (hf 26) (by conv => lhs; simp [go_sem])
        have y27 : A.eval (.tmp 27) = _ := hf 27
        have y28 : A.eval (.tmp 28) = _ := hf 28
        have y29 : A.eval (.tmp 29) = _ := hf 29
        have y30 : A.eval (.tmp 30) = _ := hf 30
        have y31 : A.eval (.tmp 31) = _ := hf 31
        have y32 : A.eval (.tmp 32) = _ := hf 32
        have y33 : A.eval (.tmp 33) = _ := hf 33
        have y34 : A.eval (.tmp 34) = _ := hf 34
        have y35 : A.eval (.tmp 35) = _ := hf 35
        have y36 : A.eval (.tmp 36) = _ := hf 36
        have y37 : A.eval (.tmp 37) = _ := hf 37
        have y38 : A.eval (.tmp 38) = _ := hf 38
        have y41 : A.eval (.tmp 41) = _ := hf 41
        have y42 : A.eval (.tmp 42) = _ := Eq.trans (hf 42) (by conv => lhs; simp [go_sem])
        clear hf
        have hA := frame_eq hn
        rw [show List.range 43 = [0, 1, 2, 3, 4, 5, 6, 7, 8, 9, 10, 11, 12, 13, 14, 15, 16, 17, 18, 19, 20, 21, 22, 23, 24, 25, 26, 27, 28, 29, 30, 31, 32, 33, 34, 35, 36, 37, 38, 39, 40, 41, 42] from rfl, hd] at hA
        simp only [List.map_cons, List.map_nil, y0, y1, y2, y3, y4, y5, y6, y7, y8, y9, y10, y11, y12, y13, y14, y15, y16, y17, y18, y19, y20, y21, y22, y23, y24, y25, y26, y27, y28, y29, y30, y31, y32, y33, y34, y35, y36, y37, y38, y39, y40, y41, y42] at hA
        clear y0 y1 y2 y3 y4 y5 y6 y7 y8 y9 y10 y11 y12 y13 y14 y15 y16 y17 y18 y19 y20 y21 y22 y23 y24 y25 y26 y27 y28 y29 y30 y31 y32 y33 y34 y35 y36 y37 y38 y39 y40 y41 y42
        clear hn hd
        subst hA
        have hcell5 : V5.cell? ⟨g0, 1, none⟩ = _ := (kc V5 hC.1).1
        have hfz5 : V5.frozen? ⟨g0, 1, none⟩ = false := by rw [hC.1.frozen (p := ⟨g0, 1, none⟩) (Nat.lt_succ_self _)]; exact OO.out.2 1
        have OO5 := Lib.hid (b2_set1 (b2_low OO.out (Nat.lt_succ_self _) hC.1) (.slice (some ⟨gq, 0, none⟩) (xs.length + 1) cq))
        have OQ5 : Hid (OwC V5 (g0 + 1) (.slice (some ⟨gq, 0, none⟩) (xs.length + 1) cq) (xs ++ [((k : Int), y.2.1)])) := OQ
        have HW5 := Lib.hid ((HW.out.trans (hC.1.mono (Nat.le_succ _))).setCell (p := ⟨g0, 1, none⟩) (Nat.le_refl _) (.slice (some ⟨gq, 0, none⟩) (xs.length + 1) cq))
        have HS5 : Hid (g0 + 1 ≤ V5.heap.size) := Nat.le_trans HSW.out hC.1.size
        clear kc OQ hC HROW r0 r1 r2 r3 c0 c1 c2 c3' c4 o0 o1
        go_wp2_with fail
        go_roundw
        case rel =>
          exact ⟨k + 1, _, xs ++ [((k : Int), y.2.1)], by omega, by go_num, OO5.out, HST, gown_apart OQ5.out (Nat.lt_succ_self _) 1, by simp; exact HS5.out, HW5.out⟩
        case measure => simp [intOf]; omega
      | false =>
        rw [g3] at hst r0
        rw [if_neg (by simp), List.append_nil] at hst
        have HST := Lib.hid hst
        clear hst g3
        go_wp2_with fail
        go_roundw
        case rel => exact ⟨k + 1, _, xs, by omega, by go_num, OO.out, HST, OW.out, HSW.out, HW.out⟩
        case measure => simp [intOf]; omega
    · obtain rfl : k = 64 := by omega
      have e1 : xs = R := by rw [← HF.out, ← HR.out]; rfl
      have HE := Lib.hid e1
      clear e1
      have HZ := Lib.hid (b2_low (S := g0) OR.out (by have := HG0.out; omega) HW.out)
      obtain ⟨⟨z0, z1⟩, zf⟩ := HZ.out
      have HBW : Hid (Below w.heap.size w wr) := HB0.out.trans (HW.out.mono (by have := HG0.out; omega))
      have hne : w.heap.size ≠ g0 := by have := HG0.out; omega
      have HEW : Hid (OwC wr (g0 + 1) (.slice a3 xs.length c3) xs) := OW
      go_wp2_with fail
      have hs := (b2_set HZ.out s.ep (.slice a3 xs.length c3)).1
      have hbs := bel_b2 (b := w.heap.size) HBW.out (Nat.le_refl _) s.ep (.slice a3 xs.length c3)
      have hes : Es ((wr.setCell ⟨w.heap.size, 0, none⟩ (.int .i64 s.ep)).setCell ⟨w.heap.size, 1, none⟩ (.slice a3 xs.length c3)) (.slice a3 xs.length c3) xs := (show OwC _ (g0 + 1) _ _ from gown_apart (gown_apart HEW.out (by have := HG0.out; omega) 0) (by have := HG0.out; omega) 1).es
      generalize ((wr.setCell ⟨w.heap.size, 0, none⟩ (.int .i64 s.ep)).setCell ⟨w.heap.size, 1, none⟩ (.slice a3 xs.length c3)) = W5 at *
      obtain ⟨s0_, s1_⟩ := hs
      exact bodyPost_ret (v := .agg #[.int .i64 s.ep, .slice a3 xs.length c3]) (by simp [results, Try.results20, go_sem, s0_, s1_]) rfl ⟨⟨_, rfl, by rw [← HE.out]; exact hes⟩, hbs⟩
end Go.Proofs.Ytcddicaebecneaa
