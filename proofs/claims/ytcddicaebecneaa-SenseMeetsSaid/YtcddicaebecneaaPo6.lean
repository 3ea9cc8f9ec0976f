/- What is remembered is swapped; what that tells (swap). No conditions. -/
import Derived.Test.YtcddicaebecneaaPo2
import Derived.Test.YtcddicaebecneaaPo3
import Derived.Test.YtcddicaebecneaaTyp5
namespace Go.Proofs.Ytcddicaebecneaa
set_option maxRecDepth 100000
open Go.RowKit

/-- The events by which one memory becomes another, of the first k. -/
def swO (L0 L1 : List Hd) : Nat → List Ev
  | 0 => []
  | k + 1 => swO L0 L1 k ++ tnO (k : Int) (L0.getD k zHd) (L1.getD k zHd)
theorem sw_len (L0 L1 : List Hd) (k : Nat) : (swO L0 L1 k).length ≤ 2 * k := by
  induction k with
  | zero => exact Nat.le_refl _
  | succ k ih =>
    have := tn_len (k : Int) (L0.getD k zHd) (L1.getD k zHd)
    show (swO L0 L1 k ++ _).length ≤ _
    rw [List.length_append]
    omega
def NewEv (V : World) (l : List Ev) : Ty := fun v w => ∃ a c, v = .slice a l.length c ∧ OwV3 w V.heap.size (.slice a l.length c) l
theorem NewEv.keeps (V : World) (l : List Ev) (k : Nat) : T3.Keeps (fun _ w w' => Below w.heap.size w w') k (NewEv V l) := fun _ _ _ _ _ ⟨a, c, h1, h2⟩ hb => ⟨a, c, h1, h2.below hb⟩
set_option maxHeartbeats 16000000 in
theorem swap_any (b m : Nat) (s : Sn) (n1 : Int) (L1 : List Hd) (w : World) (h : PAt w b m s) (hL1 : L1.length = 64) :
    Calls Try.prog 30 #[.pointer (some ⟨b, 0, none⟩), .agg (mcs n1 L1)] w fun e w' => (∃ a c, e = .returned (.slice a (swO s.L L1 64).length c) ∧ OwV3 w' (w.heap.size + 1) (.slice a (swO s.L L1 64).length c) (swO s.L L1 64)) ∧ Mem w' w.heap.size n1 L1 ∧ Mem w' m s.now s.L ∧ Chg (fun k => k = b) w w' ∧ w'.cell? ⟨b, 0, none⟩ = some (.int .i64 s.id) ∧ w'.cell? ⟨b, 1, none⟩ = some (.int .i64 s.ep) ∧ w'.cell? ⟨b, 2, none⟩ = some (.int .i64 s.hold) ∧ w'.cell? ⟨b, 3, none⟩ = some (.pointer (some ⟨w.heap.size, 0, none⟩)) ∧ ∀ k, w'.frozen? ⟨b, k, none⟩ = false := by
  have mixed : Try.prog.follows .mixedOrders = true := by kernel_rfl
  obtain ⟨R, hR⟩ : ∃ R, swO s.L L1 64 = R := ⟨_, rfl⟩
  rw [hR]
  obtain ⟨W1, hW1⟩ : ∃ W1, w.alloc (.cells (mcs n1 L1) 73) = W1 := ⟨_, rfl⟩
  have hm1 : Mem W1 w.heap.size n1 L1 := hW1 ▸ mem_new w n1 hL1
  have hb1 : Below w.heap.size w W1 := hW1 ▸ (Below.refl _ w).alloc (Nat.le_refl _) _
  obtain ⟨g0, hg0⟩ : ∃ g0, w.heap.size = g0 := ⟨_, rfl⟩
  have hs1 : W1.heap.size = g0 + 1 := by rw [← hg0, ← hW1]; simp
  rw [hg0] at hm1
  have h1 := h.below hb1
  have hbg : b ≠ g0 := by have := h.lt; omega
  have hmg : m ≠ g0 := by have := h.mem.lt; omega
  have SW := mswap b 3 ⟨m, 0, none⟩ ⟨g0, 0, none⟩ W1 h1.c3 (h1.fz 3) hm1.pt h1.mem.pt (fun e => h.ne e.symm)
  obtain ⟨W2, hW2⟩ : ∃ W2, W1.setCell ⟨b, 3, none⟩ (.pointer (some ⟨g0, 0, none⟩)) = W2 := ⟨_, rfl⟩
  rw [hW2] at SW
  have hs2 : W2.heap.size = g0 + 1 := by rw [← hW2]; simp [World.setCell, hs1]
  have hm2 : Mem W2 g0 n1 L1 := hW2 ▸ hm1.off (k := 3) hbg.symm _
  have hm0 : Mem W2 m s.now s.L := hW2 ▸ h1.mem.off (k := 3) h.ne.symm _
  have hch : Chg (fun k => k = b) w W2 := hW2 ▸ (Chg.setCell (F := fun k => k = b) (p := ⟨b, 3, none⟩) (chg0 hb1) (.inl rfl) _)
  have hk0 : W2.cell? ⟨b, 0, none⟩ = some (.int .i64 s.id) := by rw [← hW2]; simp [go_sem, h1.c0]
  have hk1 : W2.cell? ⟨b, 1, none⟩ = some (.int .i64 s.ep) := by rw [← hW2]; simp [go_sem, h1.c1]
  have hk2 : W2.cell? ⟨b, 2, none⟩ = some (.int .i64 s.hold) := by rw [← hW2]; simp [go_sem, h1.c2]
  have hk3 : W2.cell? ⟨b, 3, none⟩ = some (.pointer (some ⟨g0, 0, none⟩)) := by rw [← hW2]; exact World.cell?_setCell_same _ _ _ h1.c3
  have hkf : ∀ k, W2.frozen? ⟨b, k, none⟩ = false := fun k => by rw [← hW2]; simpa using h1.fz k
  have HFIN := Lib.hid (And.intro hm2 (And.intro hm0 (And.intro hch (And.intro hk0 (And.intro hk1 (And.intro hk2 (And.intro hk3 hkf)))))))
  have HSW := Lib.hid SW
  have HR := Lib.hid hR
  have HW1 := Lib.hid hW1
  have HG := Lib.hid hg0
  have HS2 := Lib.hid hs2
  have HLT : Hid (b < W2.heap.size ∧ m < W2.heap.size) := ⟨Nat.lt_of_lt_of_le h.lt hch.size, Nat.lt_of_lt_of_le h.mem.lt hch.size⟩
  clear h hL1 hR hW1 hm1 hb1 hg0 hs1 h1 hbg hmg SW hW2 hs2 hm2 hm0 hch hk0 hk1 hk2 hk3 hkf
  go_enter Try.func30, Try.ntmps30
  go_upto_region 1 with (fail)
  rw [HW1.out]
  simp only [HG.out]
  go_wp2_with fail
  refine HSW.out.mono ?_
  rintro e w1 ⟨rfl, rfl⟩
  obtain ⟨W2, rfl⟩ : ∃ W2, W2 = w1 := ⟨_, rfl⟩
  go_wp2_with fail
  go_loopw [6, 12] (fun lv iv wr => ∃ (k : Nat) (ax : Option Addr) (cx : Nat) (xs : List Ev), k ≤ 64 ∧ iv = .int .i64 k ∧ lv = .slice ax xs.length cx ∧ Hid (swO s.L L1 k = xs) ∧ Hid (OwV3 wr W2.heap.size (.slice ax xs.length cx) xs) ∧ Hid (Below W2.heap.size W2 wr)) (fun _ i _ => 64 - (intOf i).toNat)
  case atStart => exact ⟨0, none, 0, [], Nat.zero_le _, rfl, rfl, rfl, OwV3_nil _ _, Below.refl _ _⟩
  case round =>
    obtain ⟨k, ax, cx, xs, hk, rfl, rfl, HF, HO, HB⟩ := hrel
    have hxl : xs.length ≤ 2 * k := by
      have h1 := sw_len s.L L1 k
      rw [HF.out] at h1
      exact h1
    by_cases hlt : k < 64
    · obtain ⟨x, hx⟩ : ∃ x, s.L.getD k zHd = x := ⟨_, rfl⟩
      obtain ⟨y, hy⟩ : ∃ y, L1.getD k zHd = y := ⟨_, rfl⟩
      have hst : swO s.L L1 (k + 1) = xs ++ tnO (k : Int) x y := by rw [← HF.out, ← hx, ← hy]; rfl
      have hltz : (k : Int) < 64 := by omega
      have hq0 : (0 : Int) ≤ (k : Int) := by omega
      have hqn : ((k : Int)).toNat = k := Int.toNat_natCast k
      have HXL : Hid (xs.length ≤ 3000) := by show _ ≤ _; omega
      have HST := Lib.hid hst
      have kc : ∀ w', Below wr.heap.size wr w' → C4 w' m (1 + k * 4) x ∧ C4 w' g0 (1 + k * 4) y := fun w' hb => by
        have hbb := HB.out.trans (hb.mono HB.out.size)
        rw [← hx, ← hy]
        exact ⟨(HFIN.out.2.1.below hbb HLT.out.2).c4 hlt, (HFIN.out.1.below hbb (by have := HS2.out; omega)).c4 hlt⟩
      simp only [C4] at kc
      clear hx hy hst
      go_upto_region 6 with (fail)
      refine T3.wp_region_tailT (C := fun w' => Below wr.heap.size wr w') (X := fun _ w w' => Below w.heap.size w w') (n := 31) 13 (by kernel_rfl) (by kernel_rfl) (by kernel_rfl) (by kernel_rfl) rfl (fun _ w => Below.refl _ w) (Below.refl _ _).drew ?_
      simp only [List.take_succ_cons, List.take_zero, List.drop_succ_cons, List.drop_zero]
      refine T3.w_is (fun _ w => Below.refl _ w) rfl _ (.inl rfl) (fun ρ w hC hc hfn hf => by have e6 : ρ (.tmp 6) = _ := hf 6 (by decide); (conv => lhs; simp [execOp, go_sem, hc, e6])) ?_
      refine T3.w_is (fun _ w => Below.refl _ w) rfl _ (.inl rfl) (fun ρ w hC hc hfn hf => by have e7 : ρ (.tmp 7) = _ := hf 7 (by decide); (conv => lhs; simp [execOp, go_sem, hc, e7])) ?_
      refine T3.w_is (fun _ w => Below.refl _ w) rfl _ (.inl rfl) (fun ρ w hC hc hfn hf => by have e5 : ρ (.tmp 5) = _ := hf 5 (by decide); (conv => lhs; simp [execOp, go_sem, hc, e5])) ?_
      refine T3.w_is (fun _ w => Below.refl _ w) rfl _ (.inl rfl) (fun ρ w hC hc hfn hf => by have e7 : ρ (.tmp 7) = _ := hf 7 (by decide); (conv => lhs; simp [execOp, go_sem, hc, e7])) ?_
      refine T3.w_is (fun _ w => Below.refl _ w) rfl _ (.inl rfl) (fun ρ w hC hc hfn hf => by have e17 : ρ (.tmp 17) = _ := hf 17 (by decide); (conv => lhs; simp [execOp, go_sem, hc, e17])) ?_
      refine T3.w_is (fun _ w => Below.refl _ w) rfl _ (.inl rfl) (fun ρ w hC hc hfn hf => by have e19 : ρ (.tmp 19) = _ := hf 19 (by decide); (conv => lhs; simp [execOp, go_sem, hc, e19])) ?_
      refine T3.w_is (fun _ w => Below.refl _ w) rfl _ (.inl rfl) (fun ρ w hC hc hfn hf => by have e20 : ρ (.tmp 20) = _ := hf 20 (by decide); have e18 : ρ (.tmp 18) = _ := hf 18 (by decide); (conv => lhs; simp [execOp, go_sem, hc, e20, e18, hltz, hqn])) ?_
      refine T3.w_is (fun _ w => Below.refl _ w) rfl _ (.inl rfl) (fun ρ w hC hc hfn hf => by have e21 : ρ (.tmp 21) = _ := hf 21 (by decide); (conv => lhs; simp [execOp, go_sem, hc, e21, kc w hC])) ?_
      refine T3.w_is (fun _ w => Below.refl _ w) rfl _ (.inl rfl) (fun ρ w hC hc hfn hf => by have e7 : ρ (.tmp 7) = _ := hf 7 (by decide); (conv => lhs; simp [execOp, go_sem, hc, e7])) ?_
      refine T3.w_is (fun _ w => Below.refl _ w) rfl _ (.inl rfl) (fun ρ w hC hc hfn hf => by have e3 : ρ (.tmp 3) = _ := hf 3 (by decide); (conv => lhs; simp [execOp, go_sem, hc, e3])) ?_
      refine T3.w_is (fun _ w => Below.refl _ w) rfl _ (.inl rfl) (fun ρ w hC hc hfn hf => by have e24 : ρ (.tmp 24) = _ := hf 24 (by decide); have e23 : ρ (.tmp 23) = _ := hf 23 (by decide); (conv => lhs; simp [execOp, go_sem, hc, e24, e23, hltz, hqn])) ?_
      refine T3.w_is (fun _ w => Below.refl _ w) rfl _ (.inl rfl) (fun ρ w hC hc hfn hf => by have e25 : ρ (.tmp 25) = _ := hf 25 (by decide); (conv => lhs; simp [execOp, go_sem, hc, e25, kc w hC])) ?_
      refine T3.w_call rfl (NewEv wr (tnO (k : Int) x y)) (NewEv.keeps wr _ 12) 44 (.inl rfl) (fun ρ w hC hc hfn hf => by have e16 : ρ (.tmp 16) = _ := hf 16 (by decide); have e22 : ρ (.tmp 22) = _ := hf 22 (by decide); have e26 : ρ (.tmp 26) = _ := hf 26 (by decide); exact ⟨_, by (conv => lhs; simp [execOp, resolve, invoke, go_sem, hc, hfn, e16, e22, e26]), (turned_any (k : Int) x y w).mono fun e w' h => by obtain ⟨⟨a, c, h1, h2⟩, h3⟩ := h; exact ⟨_, h1, hC.trans (h3.mono hC.size), h3, ⟨a, c, rfl, h2.mono hC.size⟩⟩⟩) ?_
      intro A V5 hC hn hd hf
      obtain ⟨ta, tc, y27, ho⟩ := (show (NewEv wr (tnO (k : Int) x y)) (A.eval (.tmp 27)) V5 from hf 27)
      have y0 : A.eval (.tmp 0) = _ := Eq.trans (hf 0) (by conv => lhs; simp [go_sem])
      have y1 : A.eval (.tmp 1) = _ := Eq.trans (hf 1) (by conv => lhs; simp [go_sem])
      have y2 : A.eval (.tmp 2) = _ := Eq.trans (hf 2) (by conv => lhs; simp [go_sem])
      have y3 : A.eval (.tmp 3) = _ := Eq.trans (hf 3) (by conv => lhs; simp [go_sem])
      have y4 : A.eval (.tmp 4) = _ := Eq.trans (hf 4) (by conv => lhs; simp [go_sem])
      have y5 : A.eval (.tmp 5) = _ := Eq.trans (hf 5) (by conv => lhs; simp [go_sem])
      have y6 : A.eval (.tmp 6) = _ := Eq.trans (hf 6) (by conv => lhs; simp [go_sem])
      have y7 : A.eval (.tmp 7) = _ := Eq.trans (hf 7) (by conv => lhs; simp [go_sem])
      have y8 : A.eval (.tmp 8) = _ := Eq.trans (hf 8) (by conv => lhs; simp [go_sem])
      have y9 : A.eval (.tmp 9) = _ := Eq.trans (hf 9) (by conv => lhs; simp [go_sem])
      have y10 : A.eval (.tmp 10) = _ := Eq.trans (hf 10) (by conv => lhs; simp [go_sem])
      have y11 : A.eval (.tmp 11) = _ := Eq.trans (hf 11) (by conv => lhs; simp [go_sem])
      have y12 : A.eval (.tmp 12) = _ := Eq.trans (hf 12) (by conv => lhs; simp [go_sem])
      have y13 : A.eval (.tmp 13) = _ := Eq.trans (hf 13) (by conv => lhs; simp [go_sem])
      have y14 : A.eval (.tmp 14) = _ := Eq.trans (hf 14) (by conv => lhs; simp [go_sem])
      have y15 : A.eval (.tmp 15) = _ := hf 15
      have y16 : A.eval (.tmp 16) = _ := hf 16
      have y17 : A.eval (.tmp 17) = _ := hf 17
      have y18 : A.eval (.tmp 18) = _ := hf 18
      have y19 : A.eval (.tmp 19) = _ := hf 19
      have y20 : A.eval (.tmp 20) = _ := hf 20
      have y21 : A.eval (.tmp 21) = _ := hf 21
      have y22 : A.eval (.tmp 22) = _ := hf 22
      have y23 : A.eval (.tmp 23) = _ := hf 23
      have y24 : A.eval (.tmp 24) = _ := hf 24
      have y25 : A.eval (.tmp 25) = _ := hf 25
      have y26 : A.eval (.tmp 26) = _ := hf 26
      have y28 : A.eval (.tmp 28) = _ := Eq.trans (hf 28) (by conv => lhs; simp [go_sem])
      have y29 : A.eval (.tmp 29) = _ := Eq.trans (hf 29) (by conv => lhs; simp [go_sem])
      have y30 : A.eval (.tmp 30) = _ := Eq.trans (hf 30) (by conv => lhs; simp [go_sem])
      clear hf
      have hA := frame_eq hn
      rw [show List.range 31 = [0, 1, 2, 3, 4, 5, 6, 7, 8, 9, 10, 11, 12, 13, 14, 15, 16, 17, 18, 19, 20, 21, 22, 23, 24, 25, 26, 27, 28, 29, 30] from rfl, hd] at hA
      simp only [List.map_cons, List.map_nil, y0, y1, y2, y3, y4, y5, y6, y7, y8, y9, y10, y11, y12, y13, y14, y15, y16, y17, y18, y19, y20, y21, y22, y23, y24, y25, y26, y27, y28, y29, y30] at hA
      clear y0 y1 y2 y3 y4 y5 y6 y7 y8 y9 y10 y11 y12 y13 y14 y15 y16 y17 y18 y19 y20 y21 y22 y23 y24 y25 y26 y27 y28 y29 y30
      clear hn hd
      subst hA
      have hoX : OwV3 V5 W2.heap.size (.slice ax xs.length cx) xs := HO.out.below hC
      have hbX : Below W2.heap.size W2 V5 := HB.out.trans (hC.mono HB.out.size)
      have htl := tn_len (k : Int) x y
      obtain ⟨r, w2, hr, ho2, hg, -, -⟩ := run_gapps2 (R := RV3) V5 37 W2.heap.size _ xs hoX _ _ (tnO (k : Int) x y) ho (by show xs.length + (tnO (k : Int) x y).length ≤ 3000; omega) hbX.size
      have ho2' : OwV3 w2 W2.heap.size r (xs ++ tnO (k : Int) x y) := ho2
      have hb2 : Below W2.heap.size W2 w2 := hbX.grown hg hbX.size (fun k hk => (World.ownsRow.lt hoX k hk).1)
      obtain ⟨a2, c2, rfl⟩ := ho2'.form
      have HO2 := Lib.hid ho2'
      have HB2 := Lib.hid hb2
      clear ho ho2 ho2' hb2 hg hoX hbX htl hC kc
      go_wp2_with (at_builtin; refine app_go rfl (.tmp 15) (.tmp 27) 37 rfl _ _ _ _ rfl rfl hr ?_)
      go_roundw
      case rel => exact ⟨k + 1, a2, c2, xs ++ tnO (k : Int) x y, by omega, by go_num, by rw [List.length_append], HST.out, HO2.out, HB2.out⟩
      case measure => simp [intOf]; omega
    · obtain rfl : k = 64 := by omega
      have e1 : xs = R := by rw [← HF.out, ← HR.out]
      have E1 := Lib.hid e1
      clear e1
      go_wp2_with fail
      go_ret
      rw [← E1.out, HG.out, ← HS2.out]
      obtain ⟨q1, q2, q3, q4, q5, q6, q7, q8⟩ := HFIN.out
      have hbw := HB.out
      have hl := HLT.out
      have hs := HS2.out
      exact ⟨⟨ax, cx, rfl, HO.out⟩, q1.below hbw (by omega), q2.below hbw hl.2, q3.trans (G := fun _ => False) (chg0 hbw) (fun _ _ h => h.elim), (hbw.cell (p := ⟨b, 0, none⟩) hl.1).trans q4, (hbw.cell (p := ⟨b, 1, none⟩) hl.1).trans q5, (hbw.cell (p := ⟨b, 2, none⟩) hl.1).trans q6, (hbw.cell (p := ⟨b, 3, none⟩) hl.1).trans q7, fun k => (hbw.frozen (p := ⟨b, k, none⟩) hl.1).trans (q8 k)⟩
end Go.Proofs.Ytcddicaebecneaa
