/- What the program's sensor has to say; its links (Beacon, Links). No conditions. -/
import Derived.Test.YtcddicaebecneaaPo4
import Derived.Test.YtcddicaebecneaaTyp4
namespace Go.Proofs.Ytcddicaebecneaa
set_option maxRecDepth 100000
open Go.RowKit

theorem OwC.mono {w : World} {S S' : Nat} {v : Value} {l : List (Int × Int)} (h : OwC w S v l) (hS : S' ≤ S) : OwC w S' v l := gown_mono h hS
theorem OwC.el {w : World} {S : Nat} {v : Value} {l : List (Int × Int)} (h : OwC w S v l) : El w v l := by
  refine ⟨h.es, fun b off len cap e i hi => ?_⟩
  rcases h.2 with ⟨hv, hn⟩ | ⟨g, cp, cur, hv, hb, hg, hle, hmx, hcs, htk⟩
  · rw [hv] at e; cases e
  · rw [hv] at e
    cases e
    have hs : cur.size = cap * 2 := hcs
    have hic : i < cap := by omega
    refine ⟨⟨cur[0 + i * 2]'(by omega), ?_⟩, 51, cur.size, ?_, ?_⟩
    · rw [cell_of_row w b (0 + i * 2) cur 51 (0, 0) hg]
      exact Array.getElem?_eq_getElem _
    · unfold World.shape?
      simp only [hg]
      rfl
    · rw [cellsEC, hs, show cap * 2 / 2 = cap by omega]
      show liesAt _ _ _ _ (0 + i * 2) _ _ = true
      rw [Nat.zero_add]
      exact lies_own hic
theorem OwC.own {w : World} {S : Nat} {v : Value} {l : List (Int × Int)} (h : OwC w S v l) : ∀ g, v.ownBlock = some g → S ≤ g ∧ g < w.heap.size := fun g hg => World.ownsRow.lt h g hg
def NewEc (V : World) (l : List (Int × Int)) : Ty := fun v w => ∃ a c, v = .slice a l.length c ∧ OwC w V.heap.size (.slice a l.length c) l
theorem NewEc.keeps (V : World) (l : List (Int × Int)) (k : Nat) : T3.Keeps (fun _ w w' => Below w.heap.size w w') k (NewEc V l) := fun _ _ _ _ _ ⟨a, c, h1, h2⟩ hb => ⟨a, c, h1, h2.below hb⟩
theorem bea1 (y : Hd) (w : World) : Calls Try.prog 36 #[.agg #[.bool y.1, .int .i64 y.2.1, .int .i64 y.2.2.1, .bool y.2.2.2]] w fun e w' => e = .returned (.bool y.1) ∧ Below w.heap.size w w' := by
  have hb : Below w.heap.size w (w.alloc (.cells #[.bool y.1, .int .i64 y.2.1, .int .i64 y.2.2.1, .bool y.2.2.2] 70)) := (Below.refl _ w).alloc (Nat.le_refl _) _
  have HB := Lib.hid hb
  clear hb
  go_enter Try.func36, Try.ntmps36
  go_wp2_with fail
  go_ret
  exact ⟨rfl, HB.out⟩
theorem lnk1 (y : Hd) (w : World) : Calls Try.prog 37 #[.agg #[.bool y.1, .int .i64 y.2.1, .int .i64 y.2.2.1, .bool y.2.2.2]] w fun e w' => e = .returned (.bool y.2.2.2) ∧ Below w.heap.size w w' := by
  have hb : Below w.heap.size w (w.alloc (.cells #[.bool y.1, .int .i64 y.2.1, .int .i64 y.2.2.1, .bool y.2.2.2] 70)) := (Below.refl _ w).alloc (Nat.le_refl _) _
  have HB := Lib.hid hb
  clear hb
  go_enter Try.func37, Try.ntmps37
  go_wp2_with fail
  go_ret
  exact ⟨rfl, HB.out⟩
set_option maxHeartbeats 4000000 in
theorem beacon_any (b m : Nat) (s : Sn) (w : World) (h : PAt w b m s) :
    Calls Try.prog 19 #[.pointer (some ⟨b, 0, none⟩)] w fun e w' => ∃ v, e = .returned (.agg #[.int .i64 s.ep, v]) ∧ OwC w' w.heap.size v (beaL s) ∧ Below w.heap.size w w' := by
  obtain ⟨W1, hW1⟩ : ∃ W1, w.alloc (.cells #[.int .i64 0, .slice none 0 0] 34) = W1 := ⟨_, rfl⟩
  have hb1 : Below w.heap.size w W1 := hW1 ▸ (Below.refl _ w).alloc (Nat.le_refl _) _
  have ob1 : OwnB2 W1 w.heap.size 0 (.slice none 0 0) := hW1 ▸ ownb2_alloc w 0 (.slice none 0 0) 34 w.heap.size rfl
  obtain ⟨g0, hg0⟩ : ∃ g0, w.heap.size = g0 := ⟨_, rfl⟩
  have hs1 : g0 < W1.heap.size := by rw [← hg0, ← hW1]; simp
  rw [hg0] at ob1
  have H1 := Lib.hid (h.below hb1)
  have HW1 := Lib.hid hW1
  have HB1 := Lib.hid hb1
  have OB := Lib.hid ob1
  have HG := Lib.hid hg0
  have HS1 := Lib.hid hs1
  have kc : ∀ w', Below W1.heap.size W1 w' → w'.cell? ⟨b, 1, none⟩ = some (.int .i64 s.ep) := fun w' hb => (H1.out.below hb).c1
  clear hW1 hb1 hg0 hs1 ob1 h
  go_enter Try.func19, Try.ntmps19
  go_upto_region 1 with (fail)
  rw [HW1.out]
  simp only [HG.out]
  go_upto_region 3 with (fail)
  refine T3.wp_region_tail (C := fun w' => Below W1.heap.size W1 w') (X := fun _ w w' => Below w.heap.size w w') (n := 13) 6 (by kernel_rfl) (by kernel_rfl) (by kernel_rfl) (by kernel_rfl) rfl (fun _ w => Below.refl _ w) (Below.refl _ _).drew ?_
  simp only [List.take_succ_cons, List.take_zero, List.drop_succ_cons, List.drop_zero]
  refine T3.w_is (fun _ w => Below.refl _ w) rfl _ (.inl rfl) (fun ρ w hC hc hfn hf => by have e0 : ρ (.tmp 0) = _ := hf 0 (by decide); (conv => lhs; simp [execOp, go_sem, hc, e0])) ?_
  refine T3.w_is (fun _ w => Below.refl _ w) rfl _ (.inl rfl) (fun ρ w hC hc hfn hf => by have e6 : ρ (.tmp 6) = _ := hf 6 (by decide); (conv => lhs; simp [execOp, go_sem, hc, e6])) ?_
  refine T3.w_is (fun _ w => Below.refl _ w) rfl _ (.inl rfl) (fun ρ w hC hc hfn hf => by have e7 : ρ (.tmp 7) = _ := hf 7 (by decide); (conv => lhs; simp [execOp, go_sem, hc, e7])) ?_
  refine T3.w_is (fun _ w => Below.refl _ w) rfl _ (.inl rfl) (fun ρ w hC hc hfn hf => by have e8 : ρ (.tmp 8) = _ := hf 8 (by decide); (conv => lhs; simp [execOp, go_sem, hc, e8, kc w hC])) ?_
  refine T3.w_is (fun _ w => Below.refl _ w) rfl _ (.inl rfl) (fun ρ w hC hc hfn hf => by have e0 : ρ (.tmp 0) = _ := hf 0 (by decide); (conv => lhs; simp [execOp, go_sem, hc, e0])) ?_
  refine T3.w_call rfl (NewEc W1 (beaL s)) (NewEc.keeps W1 _ 5) 35 (.inl rfl) (fun ρ w hC hc hfn hf => by have e10 : ρ (.tmp 10) = _ := hf 10 (by decide); exact ⟨_, by (conv => lhs; simp [execOp, resolve, invoke, go_sem, hc, hfn, e10]), (echoes_bea (fun h => h.1) (fun y w => bea1 y w) b m s w (H1.out.below hC)).mono fun e w' h => by obtain ⟨⟨a, c, h1, h2⟩, h3⟩ := h; exact ⟨_, h1, hC.trans (h3.mono hC.size), h3, ⟨a, c, rfl, h2.mono hC.size⟩⟩⟩) ?_
  intro A V5 hC hn hd hf
  obtain ⟨a, c, y11, ho⟩ := (show (NewEc W1 (beaL s)) (A.eval (.tmp 11)) V5 from hf 11)
  have y0 : A.eval (.tmp 0) = _ := Eq.trans (hf 0) (by conv => lhs; simp [go_sem])
  have y1 : A.eval (.tmp 1) = _ := Eq.trans (hf 1) (by conv => lhs; simp [go_sem])
  have y2 : A.eval (.tmp 2) = _ := Eq.trans (hf 2) (by conv => lhs; simp [go_sem])
  have y3 : A.eval (.tmp 3) = _ := Eq.trans (hf 3) (by conv => lhs; simp [go_sem])
  have y4 : A.eval (.tmp 4) = _ := Eq.trans (hf 4) (by conv => lhs; simp [go_sem])
  have y5 : A.eval (.tmp 5) = _ := Eq.trans (hf 5) (by conv => lhs; simp [go_sem])
  have y6 : A.eval (.tmp 6) = _ := hf 6
  have y7 : A.eval (.tmp 7) = _ := hf 7
  have y8 : A.eval (.tmp 8) = _ := hf 8
  have y9 : A.eval (.tmp 9) = _ := hf 9
  have y10 : A.eval (.tmp 10) = _ := hf 10
  have y12 : A.eval (.tmp 12) = _ := Eq.trans (hf 12) (by conv => lhs; simp [go_sem])
  clear hf
  have hA := frame_eq hn
  rw [show List.range 13 = [0, 1, 2, 3, 4, 5, 6, 7, 8, 9, 10, 11, 12] from rfl, hd] at hA
  simp only [List.map_cons, List.map_nil, y0, y1, y2, y3, y4, y5, y6, y7, y8, y9, y10, y11, y12] at hA
  clear y0 y1 y2 y3 y4 y5 y6 y7 y8 y9 y10 y11 y12
  clear hn hd
  subst hA
  have HO := Lib.hid ho
  have hob := b2_low OB.out HS1.out hC
  obtain ⟨⟨o0, o1⟩, hfz⟩ := hob
  have hfin := b2_set (w := V5) (b := g0) ⟨⟨o0, o1⟩, hfz⟩ s.ep (.slice a (beaL s).length c)
  obtain ⟨⟨f0, f1⟩, _⟩ := hfin
  have hbel : Below g0 w V5 := HG.out ▸ HB1.out.trans (hC.mono HB1.out.size)
  have HBE := Lib.hid (bel_b2 hbel (Nat.le_refl g0) s.ep (.slice a (beaL s).length c))
  have HCC := Lib.hid hC
  have hlo : OwC ((V5.setCell ⟨g0, 0, none⟩ (.int .i64 s.ep)).setCell ⟨g0, 1, none⟩ (.slice a (beaL s).length c)) W1.heap.size (.slice a (beaL s).length c) (beaL s) := gown_apart (gown_apart ho HS1.out 0) HS1.out 1
  have HLO := Lib.hid hlo
  clear kc hC hbel hlo ho
  go_wp2_with fail
  refine bodyPost_ret (v := .agg #[.int .i64 s.ep, .slice a (beaL s).length c]) (by simp [results, Try.results19, go_sem, f0, f1]) rfl ?_
  exact ⟨_, rfl, HLO.out.mono (by have := HS1.out; have := HG.out; omega), HG.out ▸ HBE.out⟩
set_option maxHeartbeats 4000000 in
theorem links_any (b m : Nat) (s : Sn) (w : World) (h : PAt w b m s) :
    Calls Try.prog 22 #[.pointer (some ⟨b, 0, none⟩)] w fun e w' => ∃ v, e = .returned v ∧ OwC w' w.heap.size v (lnkL s) ∧ Below w.heap.size w w' := by
  have HC1 := Lib.hid (echoes_lnk (fun h => h.2.2.2) (fun y w => lnk1 y w) b m s w h)
  clear h
  go_enter Try.func22, Try.ntmps22
  go_wp2_with fail
  refine HC1.out.mono ?_
  rintro e w1 ⟨⟨a, c, rfl, h1⟩, h2⟩
  have H1 := Lib.hid h1
  have H2 := Lib.hid h2
  clear h1 h2
  go_wp2_with fail
  go_ret
  exact ⟨_, rfl, H1.out, H2.out⟩
theorem beacon_nil (w : World) : Calls Try.prog 19 #[.pointer none] w fun e w' => ∃ v, e = .returned (.agg #[.int .i64 0, v]) ∧ El w' v [] ∧ Below w.heap.size w w' := by
  have hb : Below w.heap.size w (w.alloc (.cells #[.int .i64 0, .slice none 0 0] 34)) := (Below.refl _ w).alloc (Nat.le_refl _) _
  have HB := Lib.hid hb
  clear hb
  go_enter Try.func19, Try.ntmps19
  go_wp2_with fail
  refine bodyPost_ret (v := .agg #[.int .i64 0, .slice none 0 0]) (by simp [results, Try.results19, go_sem]) rfl ?_
  exact ⟨_, rfl, (OwC_nil _ 0).el, HB.out⟩
theorem links_nil (w : World) : Calls Try.prog 22 #[.pointer none] w fun e w' => ∃ v, e = .returned v ∧ Es w' v [] ∧ Below w.heap.size w w' := by
  go_enter Try.func22, Try.ntmps22
  go_wp2_with fail
  go_ret
  exact ⟨_, rfl, (OwC_nil _ 0).es, Below.refl _ _⟩
end Go.Proofs.Ytcddicaebecneaa
