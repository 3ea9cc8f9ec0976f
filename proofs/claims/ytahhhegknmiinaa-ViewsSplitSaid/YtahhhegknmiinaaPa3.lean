/- The program's views: Check. No conditions but on lengths. -/
import Derived.Test.YtahhhegknmiinaaPa2
namespace Go.Proofs.Ytahhhegknmiinaa
set_option maxRecDepth 100000
open Go.RowKit

set_option maxHeartbeats 16000000 in
theorem vchk_any (v : Value) (l : List Vw) (w : World) (h : Vs w v l) (hl : l.length ≤ 1000) :
    Calls Try.prog 16 #[v] w fun e w' => e = .returned (.int .i64 (chkV l)) ∧ Below w.heap.size w w' := by
  obtain ⟨a, c, rfl⟩ := h.form
  obtain ⟨z0, hz0⟩ : ∃ z0, chkV l = z0 := ⟨_, rfl⟩
  rw [hz0]
  have HV := Lib.hid h
  have HZ0 := Lib.hid hz0
  clear h hz0
  go_enter Try.func16, Try.ntmps16
  go_wp2_with fail
  go_loopw [7] (fun i wr => ∃ k : Nat, k ≤ l.length ∧ i = .int .i64 k ∧ Hid (∀ i, i < k → VwAt l i) ∧ Hid (Below w.heap.size w wr)) (fun i _ => l.length - (intOf i).toNat)
  case atStart => exact ⟨0, Nat.zero_le _, rfl, fun i h => absurd h (Nat.not_lt_zero _), Below.refl _ _⟩
  case round =>
    obtain ⟨k, hk, rfl, HO, HW⟩ := hrel
    by_cases hlt : k < l.length
    · have hv := HV.out.below HW.out
      obtain ⟨b, off, rfl, hB, p0, p1, p2, p3, p4, p5, p6⟩ := hv.at hlt
      have hprev : 0 < k → wr.cell? ⟨b, off + (k - 1) * 7, none⟩ = some (.int .i64 (l.getD (k - 1) zVw).1) := fun h0 => (hv.all (i := k - 1) (by omega)).2.1
      obtain ⟨y, hy⟩ : ∃ y, l.getD k zVw = y := ⟨_, rfl⟩
      obtain ⟨z, hz⟩ : ∃ z, (l.getD (k - 1) zVw).1 = z := ⟨_, rfl⟩
      rw [hz] at hprev
      rw [hy] at p0 p1 p2 p3 p4 p5 p6
      have HAT : Hid (VwAt l k ↔ NodeOk y.1 ∧ (0 < k → z < y.1) ∧ hOk y.2 ∧ y.2.2.2.2.2.2 = y.1) := by
        show _ ↔ _
        unfold VwAt
        rw [hy, hz]
      clear hy hz hv
      obtain ⟨V, hV⟩ : ∃ V, wr.alloc (.cells #[.int .i64 y.1, .bool y.2.1, .int .i64 y.2.2.1, .int .i64 y.2.2.2.1, .int .i64 y.2.2.2.2.1, .int .i64 y.2.2.2.2.2.1, .int .i64 y.2.2.2.2.2.2] 40) = V := ⟨_, rfl⟩
      have hb1 : Below wr.heap.size wr V := hV ▸ (Below.refl _ wr).alloc (Nat.le_refl _) _
      have OY := Lib.hid (hV ▸ ownV_alloc wr y wr.heap.size rfl 40 : OwnV V wr.heap.size y)
      obtain ⟨⟨d0, d1, d2, d3, d4, d5, d6⟩, df⟩ := OY.out
      simp only [Nat.zero_add] at d1 d2 d3 d4 d5 d6
      have HPV : Hid (0 < k → V.cell? ⟨b, off + (k - 1) * 7, none⟩ = some (.int .i64 z) ∧ b < V.heap.size) := fun h0 => ⟨(hb1.cell (p := ⟨b, off + (k - 1) * 7, none⟩) hB).trans (hprev h0), Nat.lt_of_lt_of_le hB hb1.size⟩
      have HBV := Lib.hid (HW.out.trans (hb1.mono HW.out.size))
      have HN : Hid (¬ VwAt l k → (1 : Int) = z0) := fun h => by rw [← HZ0.out]; unfold chkV; rw [if_neg (fun h2 => h (h2 k hlt))]
      go_upto_region 4 with (fail)
      clear p0 p1 p2 p3 p4 p5 p6 hV hprev hb1 hB
      by_cases g5 : y.2.2.2.2.2.2 = y.1
      · have hq : (y.1 != y.2.2.2.2.2.2) = false := by rw [g5]; simp
        have hq2 : (!(y.1 == y.2.2.2.2.2.2)) = false := by rw [g5]; simp
        have G5 := Lib.hid g5
        clear g5
        by_cases g4 : hOk y.2
        · have cE := Lib.hid (fun W => check_any y.2.1 y.2.2.1 y.2.2.2.1 y.2.2.2.2.1 y.2.2.2.2.2.1 y.2.2.2.2.2.2 W)
          rw [chk_ok (show HtOk y.2.1 y.2.2.1 y.2.2.2.1 y.2.2.2.2.1 y.2.2.2.2.2.1 y.2.2.2.2.2.2 from g4)] at cE
          have G4 := Lib.hid g4
          clear g4
          go_wp2_with fail
          refine (cE.out _).mono ?_
          rintro e Va ⟨rfl, hb⟩
          have HBA := Lib.hid (HBV.out.trans (hb.mono HBV.out.size))
          have OYA := Lib.hid (OY.out.below hb)
          have HPA : Hid (0 < k → Va.cell? ⟨b, off + (k - 1) * 7, none⟩ = some (.int .i64 z) ∧ b < Va.heap.size) := fun h0 => ⟨(hb.cell (p := ⟨b, off + (k - 1) * 7, none⟩) (HPV.out h0).2).trans (HPV.out h0).1, Nat.lt_of_lt_of_le (HPV.out h0).2 hb.size⟩
          clear hb HBV OY HPV d0 d1 d2 d3 d4 d5 d6 df hq hq2
          obtain ⟨⟨d0, d1, d2, d3, d4, d5, d6⟩, df⟩ := OYA.out
          simp only [Nat.zero_add] at d1 d2 d3 d4 d5 d6
          have hgv : wr.heap.size < Va.heap.size := World.block_lt_of_cell? Va _ d0
          have g4 := G4.out
          have g5 := G5.out
          go_upto_region 6 with (fail)
          rcases Nat.eq_zero_or_pos k with h0 | h0
          · have kc : ∀ w', Below Va.heap.size Va w' → w'.cell? ⟨wr.heap.size, 0, none⟩ = some (.int .i64 y.1) ∧ w'.cell? ⟨wr.heap.size, 1, none⟩ = some (.bool y.2.1) ∧ w'.cell? ⟨wr.heap.size, 2, none⟩ = some (.int .i64 y.2.2.1) ∧ w'.cell? ⟨wr.heap.size, 3, none⟩ = some (.int .i64 y.2.2.2.1) ∧ w'.cell? ⟨wr.heap.size, 4, none⟩ = some (.int .i64 y.2.2.2.2.1) ∧ w'.cell? ⟨wr.heap.size, 5, none⟩ = some (.int .i64 y.2.2.2.2.2.1) ∧ w'.cell? ⟨wr.heap.size, 6, none⟩ = some (.int .i64 y.2.2.2.2.2.2) := fun w' hb => ⟨(hb.cell (p := ⟨wr.heap.size, 0, none⟩) hgv).trans d0, (hb.cell (p := ⟨wr.heap.size, 1, none⟩) hgv).trans d1, (hb.cell (p := ⟨wr.heap.size, 2, none⟩) hgv).trans d2, (hb.cell (p := ⟨wr.heap.size, 3, none⟩) hgv).trans d3, (hb.cell (p := ⟨wr.heap.size, 4, none⟩) hgv).trans d4, (hb.cell (p := ⟨wr.heap.size, 5, none⟩) hgv).trans d5, (hb.cell (p := ⟨wr.heap.size, 6, none⟩) hgv).trans d6⟩
            have HG := Lib.hid (And.intro g4 (And.intro g5 (show 0 < k → z < y.1 from (fun h => absurd h (by omega)))))
            clear g4
            go_upto_region 6 with (fail)
            refine wp_region_typed (C := fun w' => Below Va.heap.size Va w') (X := fun w w' => Below w.heap.size w w') (n := 38) (by kernel_rfl) (by kernel_rfl) rfl (fun w => Below.refl _ w) (Below.refl _ _).drew ?_
            refine w_is (fun w => Below.refl _ w) _ (.inl rfl) (fun ρ w hC hc hfn hf => by have e3 : ρ (.tmp 3) = _ := hf 3 (by decide); (conv => lhs; simp [execOp, go_sem, hc, e3])) ?_
            refine w_is (fun w => Below.refl _ w) _ (.inl rfl) (fun ρ w hC hc hfn hf => by have e24 : ρ (.tmp 24) = _ := hf 24 (by decide); (conv => lhs; simp [execOp, go_sem, hc, e24, h0])) ?_
            refine w_is (fun w => Below.refl _ w) _ (.inl rfl) (fun ρ w hC hc hfn hf => by have e25 : ρ (.tmp 25) = _ := hf 25 (by decide); (conv => lhs; simp [execOp, go_sem, hc, e25])) ?_
            refine w_skip rfl rfl (known_is rfl) ?_
            refine w_skip rfl rfl (known_is rfl) ?_
            refine w_skip rfl rfl (known_is rfl) ?_
            refine w_skip rfl rfl (known_is rfl) ?_
            refine w_skip rfl rfl (known_is rfl) ?_
            refine w_skip rfl rfl (known_is rfl) ?_
            refine w_skip rfl rfl (known_is rfl) ?_
            refine w_skip rfl rfl (known_is rfl) ?_
            refine w_skip rfl rfl (known_is rfl) ?_
            refine w_is (fun w => Below.refl _ w) _ (.inl rfl) (fun ρ w hC hc hfn hf => by have e26 : ρ (.tmp 26) = _ := hf 26 (by decide); have e35 : ρ (.tmp 35) = _ := hf 35 (by decide); (conv => lhs; simp [execOp, go_sem, hc, e26, e35])) ?_
            intro A V5 hC hn hd hf
            have y0 : A.eval (.tmp 0) = _ := Eq.trans (hf 0) (by conv => lhs; simp [go_sem])
            have y1 : A.eval (.tmp 1) = _ := Eq.trans (hf 1) (by conv => lhs; simp [go_sem])
            have y2 : A.eval (.tmp 2) = _ := Eq.trans (hf 2) (by conv => lhs; simp [go_sem])
            have y3 : A.eval (.tmp 3) = _ := Eq.trans (hf 3) (by conv => lhs; simp [go_sem])
            have y4 : A.eval (.tmp 4) = _ := Eq.trans (hf 4) (by conv => lhs; simp [go_sem])
            have y5 : A.eval (.tmp 5) = _ := Eq.trans (hf 5) (by conv => lhs; simp [go_sem])
            have y6 : A.eval (.tmp 6) = _ := Eq.trans (hf 6) (by conv => lhs; simp [go_sem])
            have y7 : A.eval (.tmp 7) = _ := Eq.trans (hf 7) (by conv => lhs; simp [go_sem])
            have y8 : A.eval (.tmp 8) = _ := Eq.trans (hf 8) (by conv => lhs; simp [go_sem])
            have y9 : A.eval (.tmp 9) = _ := Eq.trans (hf 9) (by conv => lhs; simp [go_sem])
            have y10 : A.eval (.tmp 10) = _ := Eq.trans (hf 10) (by conv => lhs; simp [go_sem])
            have y11 : A.eval (.tmp 11) = _ := Eq.trans (hf 11) (by conv => lhs; simp [go_sem])
            have y12 : A.eval (.tmp 12) = _ := Eq.trans (hf 12) (by conv => lhs; simp [go_sem])
            have y13 : A.eval (.tmp 13) = _ := Eq.trans (hf 13) (by conv => lhs; simp [go_sem])
            have y14 : A.eval (.tmp 14) = _ := Eq.trans (hf 14) (by conv => lhs; simp [go_sem])
            have y15 : A.eval (.tmp 15) = _ := Eq.trans (hf 15) (by conv => lhs; simp [go_sem])
            have y16 : A.eval (.tmp 16) = _ := Eq.trans (hf 16) (by conv => lhs; simp [go_sem])
            have y17 : A.eval (.tmp 17) = _ := Eq.trans (hf 17) (by conv => lhs; simp [go_sem])
            have y18 : A.eval (.tmp 18) = _ := Eq.trans (hf 18) (by conv => lhs; simp [go_sem])
            have y19 : A.eval (.tmp 19) = _ := Eq.trans (hf 19) (by conv => lhs; simp [go_sem])
            have y20 : A.eval (.tmp 20) = _ := Eq.trans (hf 20) (by conv => lhs; simp [go_sem])
            have y21 : A.eval (.tmp 21) = _ := Eq.trans (hf 21) (by conv => lhs; simp [go_sem])
            have y22 : A.eval (.tmp 22) = _ := Eq.trans (hf 22) (by conv => lhs; simp [go_sem])
            have y23 : A.eval (.tmp 23) = _ := Eq.trans (hf 23) (by conv => lhs; simp [go_sem])
            have y24 : A.eval (.tmp 24) = _ := hf 24
            have y25 : A.eval (.tmp 25) = _ := hf 25
            have y26 : A.eval (.tmp 26) = _ := hf 26
            have y27 : A.eval (.tmp 27) = _ := hf 27
            have y28 : A.eval (.tmp 28) = _ := hf 28
            have y29 : A.eval (.tmp 29) = _ := hf 29
            have y30 : A.eval (.tmp 30) = _ := hf 30
            have y31 : A.eval (.tmp 31) = _ := hf 31
            have y32 : A.eval (.tmp 32) = _ := hf 32
            have y33 : A.eval (.tmp 33) = _ := hf 33
            have y34 : A.eval (.tmp 34) = _ := hf 34
            have y35 : A.eval (.tmp 35) = _ := hf 35
            have y36 : A.eval (.tmp 36) = _ := hf 36
            have y37 : A.eval (.tmp 37) = _ := Eq.trans (hf 37) (by conv => lhs; simp [go_sem])
            clear hf
            have hA := frame_eq hn
            rw [show List.range 38 = [0, 1, 2, 3, 4, 5, 6, 7, 8, 9, 10, 11, 12, 13, 14, 15, 16, 17, 18, 19, 20, 21, 22, 23, 24, 25, 26, 27, 28, 29, 30, 31, 32, 33, 34, 35, 36, 37] from rfl, hd] at hA
            simp only [List.map_cons, List.map_nil, y0, y1, y2, y3, y4, y5, y6, y7, y8, y9, y10, y11, y12, y13, y14, y15, y16, y17, y18, y19, y20, y21, y22, y23, y24, y25, y26, y27, y28, y29, y30, y31, y32, y33, y34, y35, y36, y37] at hA
            clear y0 y1 y2 y3 y4 y5 y6 y7 y8 y9 y10 y11 y12 y13 y14 y15 y16 y17 y18 y19 y20 y21 y22 y23 y24 y25 y26 y27 y28 y29 y30 y31 y32 y33 y34 y35 y36 y37
            clear hn hd
            subst hA
            go_wp2_with fail
            go_roundw
            case rel =>
              refine ⟨k + 1, by omega, by go_num, ?_, HBA.out.trans (hC.mono HBA.out.size)⟩
              intro i hi
              by_cases h : i < k
              · exact HO.out i h
              · obtain rfl : i = k := by omega
                exact HAT.out.2 ⟨by have h1 := HG.out.1; rw [← HG.out.2.1]; exact h1.1, HG.out.2.2, HG.out.1, HG.out.2.1⟩
            case measure => simp [intOf]; omega
          · obtain ⟨dp, hbv⟩ := HPA.out h0
            have kc : ∀ w', Below Va.heap.size Va w' → w'.cell? ⟨wr.heap.size, 0, none⟩ = some (.int .i64 y.1) ∧ w'.cell? ⟨wr.heap.size, 1, none⟩ = some (.bool y.2.1) ∧ w'.cell? ⟨wr.heap.size, 2, none⟩ = some (.int .i64 y.2.2.1) ∧ w'.cell? ⟨wr.heap.size, 3, none⟩ = some (.int .i64 y.2.2.2.1) ∧ w'.cell? ⟨wr.heap.size, 4, none⟩ = some (.int .i64 y.2.2.2.2.1) ∧ w'.cell? ⟨wr.heap.size, 5, none⟩ = some (.int .i64 y.2.2.2.2.2.1) ∧ w'.cell? ⟨wr.heap.size, 6, none⟩ = some (.int .i64 y.2.2.2.2.2.2) ∧ w'.cell? ⟨b, off + (k - 1) * 7, none⟩ = some (.int .i64 z) := fun w' hb => ⟨(hb.cell (p := ⟨wr.heap.size, 0, none⟩) hgv).trans d0, (hb.cell (p := ⟨wr.heap.size, 1, none⟩) hgv).trans d1, (hb.cell (p := ⟨wr.heap.size, 2, none⟩) hgv).trans d2, (hb.cell (p := ⟨wr.heap.size, 3, none⟩) hgv).trans d3, (hb.cell (p := ⟨wr.heap.size, 4, none⟩) hgv).trans d4, (hb.cell (p := ⟨wr.heap.size, 5, none⟩) hgv).trans d5, (hb.cell (p := ⟨wr.heap.size, 6, none⟩) hgv).trans d6, (hb.cell (p := ⟨b, off + (k - 1) * 7, none⟩) hbv).trans dp⟩
            clear dp
            have w1_ : IntKind.i64.wrap ((k : Int) - 1) = (k : Int) - 1 := by rw [IntKind.wrap_i64]; omega
            have w2_ : (1 : Int) ≤ (k : Int) := by omega
            have w3_ : ((k : Int) - 1).toNat = k - 1 := by omega
            have w4_ : (k : Int) - 1 < (l.length : Int) := by omega
            have w5_ : k - 1 < l.length := by omega
            have w6_ : (0 : Int) ≤ (k : Int) - 1 := by omega
            by_cases g3 : y.1 ≤ z
            · have HG := Lib.hid g3
              have g3' := g3
              clear g4 g5
              go_upto_region 6 with (fail)
              refine wp_region_typed (C := fun w' => Below Va.heap.size Va w') (X := fun w w' => Below w.heap.size w w') (n := 38) (by kernel_rfl) (by kernel_rfl) rfl (fun w => Below.refl _ w) (Below.refl _ _).drew ?_
              refine w_is (fun w => Below.refl _ w) _ (.inl rfl) (fun ρ w hC hc hfn hf => by have e3 : ρ (.tmp 3) = _ := hf 3 (by decide); (conv => lhs; simp [execOp, go_sem, hc, e3])) ?_
              refine w_is (fun w => Below.refl _ w) _ (.inl rfl) (fun ρ w hC hc hfn hf => by have e24 : ρ (.tmp 24) = _ := hf 24 (by decide); (conv => lhs; simp [execOp, go_sem, hc, e24, h0])) ?_
              refine w_is (fun w => Below.refl _ w) _ (.inl rfl) (fun ρ w hC hc hfn hf => by have e25 : ρ (.tmp 25) = _ := hf 25 (by decide); (conv => lhs; simp [execOp, go_sem, hc, e25])) ?_
              refine w_is (fun w => Below.refl _ w) _ (.inr ⟨2, 26, true, rfl, rfl, known_is rfl⟩) (fun ρ w hC hc hfn hf => by have e4 : ρ (.tmp 4) = _ := hf 4 (by decide); (conv => lhs; simp [execOp, go_sem, hc, e4])) ?_
              refine w_is (fun w => Below.refl _ w) _ (.inr ⟨2, 26, true, rfl, rfl, known_is rfl⟩) (fun ρ w hC hc hfn hf => by have e27 : ρ (.tmp 27) = _ := hf 27 (by decide); (conv => lhs; simp [execOp, go_sem, hc, e27, kc w hC])) ?_
              refine w_is (fun w => Below.refl _ w) _ (.inr ⟨2, 26, true, rfl, rfl, known_is rfl⟩) (fun ρ w hC hc hfn hf => by have e0 : ρ (.tmp 0) = _ := hf 0 (by decide); (conv => lhs; simp [execOp, go_sem, hc, e0])) ?_
              refine w_is (fun w => Below.refl _ w) _ (.inr ⟨2, 26, true, rfl, rfl, known_is rfl⟩) (fun ρ w hC hc hfn hf => by have e3 : ρ (.tmp 3) = _ := hf 3 (by decide); (conv => lhs; simp [execOp, go_sem, hc, e3])) ?_
              refine w_is (fun w => Below.refl _ w) _ (.inr ⟨2, 26, true, rfl, rfl, known_is rfl⟩) (fun ρ w hC hc hfn hf => by have e30 : ρ (.tmp 30) = _ := hf 30 (by decide); (conv => lhs; simp [execOp, go_sem, hc, e30, w1_])) ?_
              refine w_is (fun w => Below.refl _ w) _ (.inr ⟨2, 26, true, rfl, rfl, known_is rfl⟩) (fun ρ w hC hc hfn hf => by have e29 : ρ (.tmp 29) = _ := hf 29 (by decide); have e31 : ρ (.tmp 31) = _ := hf 31 (by decide); (conv => lhs; simp [execOp, go_sem, hc, e29, e31, w1_, w2_, w3_, w4_, w5_, w6_])) ?_
              refine w_is (fun w => Below.refl _ w) _ (.inr ⟨2, 26, true, rfl, rfl, known_is rfl⟩) (fun ρ w hC hc hfn hf => by have e32 : ρ (.tmp 32) = _ := hf 32 (by decide); (conv => lhs; simp [execOp, go_sem, hc, e32])) ?_
              refine w_is (fun w => Below.refl _ w) _ (.inr ⟨2, 26, true, rfl, rfl, known_is rfl⟩) (fun ρ w hC hc hfn hf => by have e33 : ρ (.tmp 33) = _ := hf 33 (by decide); (conv => lhs; simp [execOp, go_sem, hc, e33, kc w hC])) ?_
              refine w_is (fun w => Below.refl _ w) _ (.inr ⟨2, 26, true, rfl, rfl, known_is rfl⟩) (fun ρ w hC hc hfn hf => by have e28 : ρ (.tmp 28) = _ := hf 28 (by decide); have e34 : ρ (.tmp 34) = _ := hf 34 (by decide); (conv => lhs; simp [execOp, go_sem, hc, e28, e34, g3])) ?_
              refine w_is (fun w => Below.refl _ w) _ (.inl rfl) (fun ρ w hC hc hfn hf => by have e26 : ρ (.tmp 26) = _ := hf 26 (by decide); have e35 : ρ (.tmp 35) = _ := hf 35 (by decide); (conv => lhs; simp [execOp, go_sem, hc, e26, e35])) ?_
              intro A V5 hC hn hd hf
              have y0 : A.eval (.tmp 0) = _ := Eq.trans (hf 0) (by conv => lhs; simp [go_sem])
              have y1 : A.eval (.tmp 1) = _ := Eq.trans (hf 1) (by conv => lhs; simp [go_sem])
              have y2 : A.eval (.tmp 2) = _ := Eq.trans (hf 2) (by conv => lhs; simp [go_sem])
              have y3 : A.eval (.tmp 3) = _ := Eq.trans (hf 3) (by conv => lhs; simp [go_sem])
              have y4 : A.eval (.tmp 4) = _ := Eq.trans (hf 4) (by conv => lhs; simp [go_sem])
              have y5 : A.eval (.tmp 5) = _ := Eq.trans (hf 5) (by conv => lhs; simp [go_sem])
              have y6 : A.eval (.tmp 6) = _ := Eq.trans (hf 6) (by conv => lhs; simp [go_sem])
              have y7 : A.eval (.tmp 7) = _ := Eq.trans (hf 7) (by conv => lhs; simp [go_sem])
              have y8 : A.eval (.tmp 8) = _ := Eq.trans (hf 8) (by conv => lhs; simp [go_sem])
              have y9 : A.eval (.tmp 9) = _ := Eq.trans (hf 9) (by conv => lhs; simp [go_sem])
              have y10 : A.eval (.tmp 10) = _ := Eq.trans (hf 10) (by conv => lhs; simp [go_sem])
              have y11 : A.eval (.tmp 11) = _ := Eq.trans (hf 11) (by conv => lhs; simp [go_sem])
              have y12 : A.eval (.tmp 12) = _ := Eq.trans (hf 12) (by conv => lhs; simp [go_sem])
              have y13 : A.eval (.tmp 13) = _ := Eq.trans (hf 13) (by conv => lhs; simp [go_sem])
              have y14 : A.eval (.tmp 14) = _ := Eq.trans (hf 14) (by conv => lhs; simp [go_sem])
              have y15 : A.eval (.tmp 15) = _ := Eq.trans (hf 15) (by conv => lhs; simp [go_sem])
              have y16 : A.eval (.tmp 16) = _ := Eq.trans (hf 16) (by conv => lhs; simp [go_sem])
              have y17 : A.eval (.tmp 17) = _ := Eq.trans (hf 17) (by conv => lhs; simp [go_sem])
              have y18 : A.eval (.tmp 18) = _ := Eq.trans (hf 18) (by conv => lhs; simp [go_sem])
              have y19 : A.eval (.tmp 19) = _ := Eq.trans (hf 19) (by conv => lhs; simp [go_sem])
              have y20 : A.eval (.tmp 20) = _ := Eq.trans (hf 20) (by conv => lhs; simp [go_sem])
              have y21 : A.eval (.tmp 21) = _ := Eq.trans (hf 21) (by conv => lhs; simp [go_sem])
              have y22 : A.eval (.tmp 22) = _ := Eq.trans (hf 22) (by conv => lhs; simp [go_sem])
              have y23 : A.eval (.tmp 23) = _ := Eq.trans (hf 23) (by conv => lhs; simp [go_sem])
              have y24 : A.eval (.tmp 24) = _ := hf 24
              have y25 : A.eval (.tmp 25) = _ := hf 25
              have y26 : A.eval (.tmp 26) = _ := hf 26
              have y27 : A.eval (.tmp 27) = _ := hf 27
              have y28 : A.eval (.tmp 28) = _ := hf 28
              have y29 : A.eval (.tmp 29) = _ := hf 29
              have y30 : A.eval (.tmp 30) = _ := hf 30
              have y31 : A.eval (.tmp 31) = _ := hf 31
              have y32 : A.eval (.tmp 32) = _ := hf 32
              have y33 : A.eval (.tmp 33) = _ := hf 33
              have y34 : A.eval (.tmp 34) = _ := hf 34
              have y35 : A.eval (.tmp 35) = _ := hf 35
              have y36 : A.eval (.tmp 36) = _ := hf 36
              have y37 : A.eval (.tmp 37) = _ := Eq.trans (hf 37) (by conv => lhs; simp [go_sem])
              clear hf
              have hA := frame_eq hn
              rw [show List.range 38 = [0, 1, 2, 3, 4, 5, 6, 7, 8, 9, 10, 11, 12, 13, 14, 15, 16, 17, 18, 19, 20, 21, 22, 23, 24, 25, 26, 27, 28, 29, 30, 31, 32, 33, 34, 35, 36, 37] from rfl, hd] at hA
              simp only [List.map_cons, List.map_nil, y0, y1, y2, y3, y4, y5, y6, y7, y8, y9, y10, y11, y12, y13, y14, y15, y16, y17, y18, y19, y20, y21, y22, y23, y24, y25, y26, y27, y28, y29, y30, y31, y32, y33, y34, y35, y36, y37] at hA
              clear y0 y1 y2 y3 y4 y5 y6 y7 y8 y9 y10 y11 y12 y13 y14 y15 y16 y17 y18 y19 y20 y21 y22 y23 y24 y25 y26 y27 y28 y29 y30 y31 y32 y33 y34 y35 y36 y37
              clear hn hd
              subst hA
              go_wp2_with fail
              go_ret
              rw [HN.out (fun h => by have := (HAT.out.1 h).2.1 h0; have := HG.out; omega)]
              exact ⟨rfl, HBA.out.trans (hC.mono HBA.out.size)⟩
            · have g3n : z < y.1 := by omega
              have HG := Lib.hid (And.intro g4 (And.intro g5 (show 0 < k → z < y.1 from (fun _ => g3n))))
              clear g4
              go_upto_region 6 with (fail)
              refine wp_region_typed (C := fun w' => Below Va.heap.size Va w') (X := fun w w' => Below w.heap.size w w') (n := 38) (by kernel_rfl) (by kernel_rfl) rfl (fun w => Below.refl _ w) (Below.refl _ _).drew ?_
              refine w_is (fun w => Below.refl _ w) _ (.inl rfl) (fun ρ w hC hc hfn hf => by have e3 : ρ (.tmp 3) = _ := hf 3 (by decide); (conv => lhs; simp [execOp, go_sem, hc, e3])) ?_
              refine w_is (fun w => Below.refl _ w) _ (.inl rfl) (fun ρ w hC hc hfn hf => by have e24 : ρ (.tmp 24) = _ := hf 24 (by decide); (conv => lhs; simp [execOp, go_sem, hc, e24, h0])) ?_
              refine w_is (fun w => Below.refl _ w) _ (.inl rfl) (fun ρ w hC hc hfn hf => by have e25 : ρ (.tmp 25) = _ := hf 25 (by decide); (conv => lhs; simp [execOp, go_sem, hc, e25])) ?_
              refine w_is (fun w => Below.refl _ w) _ (.inr ⟨2, 26, true, rfl, rfl, known_is rfl⟩) (fun ρ w hC hc hfn hf => by have e4 : ρ (.tmp 4) = _ := hf 4 (by decide); (conv => lhs; simp [execOp, go_sem, hc, e4])) ?_
              refine w_is (fun w => Below.refl _ w) _ (.inr ⟨2, 26, true, rfl, rfl, known_is rfl⟩) (fun ρ w hC hc hfn hf => by have e27 : ρ (.tmp 27) = _ := hf 27 (by decide); (conv => lhs; simp [execOp, go_sem, hc, e27, kc w hC])) ?_
              refine w_is (fun w => Below.refl _ w) _ (.inr ⟨2, 26, true, rfl, rfl, known_is rfl⟩) (fun ρ w hC hc hfn hf => by have e0 : ρ (.tmp 0) = _ := hf 0 (by decide); (conv => lhs; simp [execOp, go_sem, hc, e0])) ?_
              refine w_is (fun w => Below.refl _ w) _ (.inr ⟨2, 26, true, rfl, rfl, known_is rfl⟩) (fun ρ w hC hc hfn hf => by have e3 : ρ (.tmp 3) = _ := hf 3 (by decide); (conv => lhs; simp [execOp, go_sem, hc, e3])) ?_
              refine w_is (fun w => Below.refl _ w) _ (.inr ⟨2, 26, true, rfl, rfl, known_is rfl⟩) (fun ρ w hC hc hfn hf => by have e30 : ρ (.tmp 30) = _ := hf 30 (by decide); (conv => lhs; simp [execOp, go_sem, hc, e30, w1_])) ?_
              refine w_is (fun w => Below.refl _ w) _ (.inr ⟨2, 26, true, rfl, rfl, known_is rfl⟩) (fun ρ w hC hc hfn hf => by have e29 : ρ (.tmp 29) = _ := hf 29 (by decide); have e31 : ρ (.tmp 31) = _ := hf 31 (by decide); (conv => lhs; simp [execOp, go_sem, hc, e29, e31, w1_, w2_, w3_, w4_, w5_, w6_])) ?_
              refine w_is (fun w => Below.refl _ w) _ (.inr ⟨2, 26, true, rfl, rfl, known_is rfl⟩) (fun ρ w hC hc hfn hf => by have e32 : ρ (.tmp 32) = _ := hf 32 (by decide); (conv => lhs; simp [execOp, go_sem, hc, e32])) ?_
              refine w_is (fun w => Below.refl _ w) _ (.inr ⟨2, 26, true, rfl, rfl, known_is rfl⟩) (fun ρ w hC hc hfn hf => by have e33 : ρ (.tmp 33) = _ := hf 33 (by decide); (conv => lhs; simp [execOp, go_sem, hc, e33, kc w hC])) ?_
              refine w_is (fun w => Below.refl _ w) _ (.inr ⟨2, 26, true, rfl, rfl, known_is rfl⟩) (fun ρ w hC hc hfn hf => by have e28 : ρ (.tmp 28) = _ := hf 28 (by decide); have e34 : ρ (.tmp 34) = _ := hf 34 (by decide); (conv => lhs; simp [execOp, go_sem, hc, e28, e34, g3])) ?_
              refine w_is (fun w => Below.refl _ w) _ (.inl rfl) (fun ρ w hC hc hfn hf => by have e26 : ρ (.tmp 26) = _ := hf 26 (by decide); have e35 : ρ (.tmp 35) = _ := hf 35 (by decide); (conv => lhs; simp [execOp, go_sem, hc, e26, e35])) ?_
              intro A V5 hC hn hd hf
              have y0 : A.eval (.tmp 0) = _ := Eq.trans (hf 0) (by conv => lhs; simp [go_sem])
              have y1 : A.eval (.tmp 1) = _ := Eq.trans (hf 1) (by conv => lhs; simp [go_sem])
              have y2 : A.eval (.tmp 2) = _ := Eq.trans (hf 2) (by conv => lhs; simp [go_sem])
              have y3 : A.eval (.tmp 3) = _ := Eq.trans (hf 3) (by conv => lhs; simp [go_sem])
              have y4 : A.eval (.tmp 4) = _ := Eq.trans (hf 4) (by conv => lhs; simp [go_sem])
              have y5 : A.eval (.tmp 5) = _ := Eq.trans (hf 5) (by conv => lhs; simp [go_sem])
              have y6 : A.eval (.tmp 6) = _ := Eq.trans (hf 6) (by conv => lhs; simp [go_sem])
              have y7 : A.eval (.tmp 7) = _ := Eq.trans (hf 7) (by conv => lhs; simp [go_sem])
              have y8 : A.eval (.tmp 8) = _ := Eq.trans (hf 8) (by conv => lhs; simp [go_sem])
              have y9 : A.eval (.tmp 9) = _ := Eq.trans (hf 9) (by conv => lhs; simp [go_sem])
              have y10 : A.eval (.tmp 10) = _ := Eq.trans (hf 10) (by conv => lhs; simp [go_sem])
              have y11 : A.eval (.tmp 11) = _ := Eq.trans (hf 11) (by conv => lhs; simp [go_sem])
              have y12 : A.eval (.tmp 12) = _ := Eq.trans (hf 12) (by conv => lhs; simp [go_sem])
              have y13 : A.eval (.tmp 13) = _ := Eq.trans (hf 13) (by conv => lhs; simp [go_sem])
              have y14 : A.eval (.tmp 14) = _ := Eq.trans (hf 14) (by conv => lhs; simp [go_sem])
              have y15 : A.eval (.tmp 15) = _ := Eq.trans (hf 15) (by conv => lhs; simp [go_sem])
              have y16 : A.eval (.tmp 16) = _ := Eq.trans (hf 16) (by conv => lhs; simp [go_sem])
              have y17 : A.eval (.tmp 17) = _ := Eq.trans (hf 17) (by conv => lhs; simp [go_sem])
              have y18 : A.eval (.tmp 18) = _ := Eq.trans (hf 18) (by conv => lhs; simp [go_sem])
              have y19 : A.eval (.tmp 19) = _ := Eq.trans (hf 19) (by conv => lhs; simp [go_sem])
              have y20 : A.eval (.tmp 20) = _ := Eq.trans (hf 20) (by conv => lhs; simp [go_sem])
              have y21 : A.eval (.tmp 21) = _ := Eq.trans (hf 21) (by conv => lhs; simp [go_sem])
              have y22 : A.eval (.tmp 22) = _ := Eq.trans (hf 22) (by conv => lhs; simp [go_sem])
              have y23 : A.eval (.tmp 23) = _ := Eq.trans (hf 23) (by conv => lhs; simp [go_sem])
              have y24 : A.eval (.tmp 24) = _ := hf 24
              have y25 : A.eval (.tmp 25) = _ := hf 25
              have y26 : A.eval (.tmp 26) = _ := hf 26
              have y27 : A.eval (.tmp 27) = _ := hf 27
              have y28 : A.eval (.tmp 28) = _ := hf 28
              have y29 : A.eval (.tmp 29) = _ := hf 29
              have y30 : A.eval (.tmp 30) = _ := hf 30
              have y31 : A.eval (.tmp 31) = _ := hf 31
              have y32 : A.eval (.tmp 32) = _ := hf 32
              have y33 : A.eval (.tmp 33) = _ := hf 33
              have y34 : A.eval (.tmp 34) = _ := hf 34
              have y35 : A.eval (.tmp 35) = _ := hf 35
              have y36 : A.eval (.tmp 36) = _ := hf 36
              have y37 : A.eval (.tmp 37) = _ := Eq.trans (hf 37) (by conv => lhs; simp [go_sem])
              clear hf
              have hA := frame_eq hn
              rw [show List.range 38 = [0, 1, 2, 3, 4, 5, 6, 7, 8, 9, 10, 11, 12, 13, 14, 15, 16, 17, 18, 19, 20, 21, 22, 23, 24, 25, 26, 27, 28, 29, 30, 31, 32, 33, 34, 35, 36, 37] from rfl, hd] at hA
              simp only [List.map_cons, List.map_nil, y0, y1, y2, y3, y4, y5, y6, y7, y8, y9, y10, y11, y12, y13, y14, y15, y16, y17, y18, y19, y20, y21, y22, y23, y24, y25, y26, y27, y28, y29, y30, y31, y32, y33, y34, y35, y36, y37] at hA
              clear y0 y1 y2 y3 y4 y5 y6 y7 y8 y9 y10 y11 y12 y13 y14 y15 y16 y17 y18 y19 y20 y21 y22 y23 y24 y25 y26 y27 y28 y29 y30 y31 y32 y33 y34 y35 y36 y37
              clear hn hd
              subst hA
              go_wp2_with fail
              go_roundw
              case rel =>
                refine ⟨k + 1, by omega, by go_num, ?_, HBA.out.trans (hC.mono HBA.out.size)⟩
                intro i hi
                by_cases h : i < k
                · exact HO.out i h
                · obtain rfl : i = k := by omega
                  exact HAT.out.2 ⟨by have h1 := HG.out.1; rw [← HG.out.2.1]; exact h1.1, HG.out.2.2, HG.out.1, HG.out.2.1⟩
              case measure => simp [intOf]; omega
        · have cE := Lib.hid (fun W => check_any y.2.1 y.2.2.1 y.2.2.2.1 y.2.2.2.2.1 y.2.2.2.2.2.1 y.2.2.2.2.2.2 W)
          rw [chk_no (show ¬ HtOk y.2.1 y.2.2.1 y.2.2.2.1 y.2.2.2.2.1 y.2.2.2.2.2.1 y.2.2.2.2.2.2 from g4)] at cE
          have G4 := Lib.hid g4
          clear g4
          go_wp2_with fail
          refine (cE.out _).mono ?_
          rintro e Va ⟨rfl, hb⟩
          have HBA := Lib.hid (HBV.out.trans (hb.mono HBV.out.size))
          clear hb HBV OY HPV d0 d1 d2 d3 d4 d5 d6 df hq hq2
          go_wp2_with fail
          go_ret
          rw [HN.out (fun h => G4.out (HAT.out.1 h).2.2.1)]
          exact ⟨rfl, HBA.out⟩
      · have hq : (y.1 != y.2.2.2.2.2.2) = true := by simpa using fun h => g5 h.symm
        have hq2 : (!(y.1 == y.2.2.2.2.2.2)) = true := by simpa using fun h => g5 h.symm
        have G5 := Lib.hid g5
        clear g5
        go_wp2_with fail
        go_ret
        rw [HN.out (fun h => G5.out (HAT.out.1 h).2.2.2)]
        exact ⟨rfl, HBV.out⟩
    · obtain rfl : k = l.length := by omega
      go_wp2_with fail
      go_ret
      rw [← HZ0.out]
      unfold chkV
      rw [if_pos (show VOk l from HO.out)]
      exact ⟨rfl, HW.out⟩
end Go.Proofs.Ytahhhegknmiinaa
