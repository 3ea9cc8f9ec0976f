/- Which beacons are right: the reference's Right. No conditions but on lengths. -/
import Derived.Test.YtcddicaebecneaaBes
import Derived.Test.YtcddicaebecneaaTyp2
namespace Go.Proofs.Ytcddicaebecneaa
set_option maxRecDepth 100000
open Go.RowKit

/-- An echo that may stand there. -/
def EcAt (ys : List (Int × Int)) (i : Nat) : Prop := (0 ≤ (ys.getD i (0, 0)).1 ∧ (ys.getD i (0, 0)).1 < 64) ∧ (0 < i → (ys.getD (i - 1) (0, 0)).1 < (ys.getD i (0, 0)).1) ∧ EpOk (ys.getD i (0, 0)).2
instance (ys : List (Int × Int)) (i : Nat) : Decidable (EcAt ys i) := by unfold EcAt; infer_instance
/-- A beacon that is right. -/
def BeOk (M : Int) (ys : List (Int × Int)) : Prop := (∀ i, i < ys.length → EcAt ys i) ∧ EpOk M
instance (M : Int) (ys : List (Int × Int)) : Decidable (BeOk M ys) := by unfold BeOk; infer_instance
set_option maxHeartbeats 32000000 in
theorem rbright_fix (M : Int) (v : Value) (ys : List (Int × Int)) (Q : Bool) (hQ : Q = true ↔ BeOk M ys) (w : World) (hy : Es w v ys) (hl : ys.length ≤ 3000) :
    Calls Try.prog 33 #[.agg #[.int .i64 M, v]] w fun e w' => e = .returned (.bool Q) ∧ Below w.heap.size w w' := by
  obtain ⟨a, c, rfl⟩ := hy.form
  have HQ := Lib.hid hQ
  have k0 := Lib.hid (ownb2_alloc w M (.slice a ys.length c) 34 w.heap.size rfl)
  have HY := Lib.hid (hy.alloc (.cells #[.int .i64 M, .slice a ys.length c] 34))
  have HB : Hid (Below w.heap.size w (w.alloc (.cells #[.int .i64 M, .slice a ys.length c] 34))) := (Below.refl _ w).alloc (Nat.le_refl _) _
  clear hy hQ
  go_enter Try.func33, Try.ntmps33
  go_wp2_with fail
  obtain ⟨V, hV⟩ : ∃ V, w.alloc (.cells #[.int .i64 M, .slice a ys.length c] 34) = V := ⟨_, rfl⟩
  rw [hV] at k0 HY HB
  simp only [hV]
  clear hV
  go_loopw [3, 4] (fun i _ wr => ∃ k : Nat, k ≤ ys.length ∧ i = .int .i64 k ∧ (∀ i, i < k → EcAt ys i) ∧ Below V.heap.size V wr) (fun i _ _ => ys.length - (intOf i).toNat)
  case atStart => exact ⟨0, Nat.zero_le _, rfl, fun i h => absurd h (Nat.not_lt_zero _), Below.refl _ _⟩
  case round =>
    obtain ⟨k, hk, rfl, hok, hbel⟩ := hrel
    have HO := Lib.hid hok
    have HW := Lib.hid hbel
    clear hok hbel
    have OX := Lib.hid (k0.out.below HW.out)
    obtain ⟨c0, c1⟩ := OX.out.1
    by_cases hlt : k < ys.length
    · obtain ⟨b, off, rfl, hB, p0, p1⟩ := (HY.out.below HW.out).at hlt
      obtain ⟨⟨y1, y2⟩, hyk⟩ : ∃ y, ys.getD k (0, 0) = y := ⟨_, rfl⟩
      rw [hyk] at p0 p1
      simp only at p0 p1
      have HK := Lib.hid hyk
      clear hyk
      go_wp2_with fail
      obtain ⟨V1, hV1⟩ : ∃ V1, wr.alloc (.cells #[.int .i64 y1, .int .i64 y2] 51) = V1 := ⟨_, rfl⟩
      have hb1 : Below wr.heap.size wr (wr.alloc (.cells #[.int .i64 y1, .int .i64 y2] 51)) := (Below.refl _ wr).alloc (Nat.le_refl _) _
      have d0 : (wr.alloc (.cells #[.int .i64 y1, .int .i64 y2] 51)).cell? ⟨wr.heap.size, 0, none⟩ = some (.int .i64 y1) := by simp
      have d1 : (wr.alloc (.cells #[.int .i64 y1, .int .i64 y2] 51)).cell? ⟨wr.heap.size, 1, none⟩ = some (.int .i64 y2) := by simp
      have OX1 := Lib.hid (OX.out.below hb1)
      have YV1 := Lib.hid ((HY.out.below HW.out).below hb1)
      replace HW := Lib.hid (HW.out.trans (hb1.mono HW.out.size))
      rw [hV1] at d0 d1 OX1 YV1 HW
      simp only [hV1]
      clear hV1 hb1 p0 p1 c0 c1
      have fin : ¬ EcAt ys k → Hid (Q = false) := fun h => by
        cases hq : Q with
        | false => rfl
        | true => exact absurd ((HQ.out.1 hq).1 k hlt) h
      have hk0 : (0 : Int) ≤ (k : Int) - 1 ↔ 0 < k := by omega
      by_cases g1 : y1 < 0
      · have F := fin (fun h => by have := h.1.1; rw [HK.out] at this; simp only at this; omega)
        clear fin hk0
        have kc : ∀ w', Below V1.heap.size V1 w' → w'.cell? ⟨wr.heap.size, 0, none⟩ = some (.int .i64 y1) := fun w' h => by rw [h.cell (World.block_lt_of_cell? V1 _ d0)]; exact d0
        refine wp_region_typed (C := fun w' => Below V1.heap.size V1 w') (X := fun w w' => Below w.heap.size w w') (n := 50) (by kernel_rfl) (by kernel_rfl) rfl (fun w => Below.refl _ w) (Below.refl _ _).drew ?_
        refine w_is (fun w => Below.refl _ w) _ (.inl rfl) (fun ρ w hC hc hfn hf => by have e4 : ρ (.tmp 4) = _ := hf 4 (by decide); (conv => lhs; simp [execOp, go_sem, hc, e4])) ?_
        refine w_is (fun w => Below.refl _ w) _ (.inl rfl) (fun ρ w hC hc hfn hf => by have e17 : ρ (.tmp 17) = _ := hf 17 (by decide); (conv => lhs; simp [execOp, go_sem, hc, e17, kc w hC])) ?_
        refine w_is (fun w => Below.refl _ w) _ (.inl rfl) (fun ρ w hC hc hfn hf => by have e18 : ρ (.tmp 18) = _ := hf 18 (by decide); (conv => lhs; simp [execOp, go_sem, hc, e18, g1])) ?_
        refine w_is (fun w => Below.refl _ w) _ (.inl rfl) (fun ρ w hC hc hfn hf => by have e19 : ρ (.tmp 19) = _ := hf 19 (by decide); (conv => lhs; simp [execOp, go_sem, hc, e19])) ?_
        refine w_skip rfl rfl (known_is rfl) ?_
        refine w_skip rfl rfl (known_is rfl) ?_
        refine w_skip rfl rfl (known_is rfl) ?_
        refine w_is (fun w => Below.refl _ w) _ (.inl rfl) (fun ρ w hC hc hfn hf => by have e20 : ρ (.tmp 20) = _ := hf 20 (by decide); have e23 : ρ (.tmp 23) = _ := hf 23 (by decide); (conv => lhs; simp [execOp, go_sem, hc, e20, e23])) ?_
        refine w_is (fun w => Below.refl _ w) _ (.inl rfl) (fun ρ w hC hc hfn hf => by have e24 : ρ (.tmp 24) = _ := hf 24 (by decide); (conv => lhs; simp [execOp, go_sem, hc, e24])) ?_
        refine w_skip rfl rfl (known_is rfl) ?_
        refine w_skip rfl rfl (known_is rfl) ?_
        refine w_skip rfl rfl (known_is rfl) ?_
        refine w_skipU rfl rfl (known_is rfl) ?_
        refine w_skipU rfl rfl (known_is rfl) ?_
        refine w_skipU rfl rfl (known_is rfl) ?_
        refine w_skipU rfl rfl (known_is rfl) ?_
        refine w_skipU rfl rfl (known_is rfl) ?_
        refine w_skipU rfl rfl (known_is rfl) ?_
        refine w_skipU rfl rfl (known_is rfl) ?_
        refine w_skipU rfl rfl (known_is rfl) ?_
        refine w_skipU rfl rfl (known_is rfl) ?_
        refine w_skipU rfl rfl (known_is rfl) ?_
        refine w_skip rfl rfl (known_is rfl) ?_
        refine w_is (fun w => Below.refl _ w) _ (.inl rfl) (fun ρ w hC hc hfn hf => by have e25 : ρ (.tmp 25) = _ := hf 25 (by decide); have e39 : ρ (.tmp 39) = _ := hf 39 (by decide); (conv => lhs; simp [execOp, go_sem, hc, e25, e39])) ?_
        refine w_is (fun w => Below.refl _ w) _ (.inl rfl) (fun ρ w hC hc hfn hf => by have e40 : ρ (.tmp 40) = _ := hf 40 (by decide); (conv => lhs; simp [execOp, go_sem, hc, e40])) ?_
        refine w_skip rfl rfl (known_is rfl) ?_
        refine w_skip rfl rfl (known_is rfl) ?_
        refine w_skip rfl rfl (known_is rfl) ?_
        refine w_skip rfl rfl (known_is rfl) ?_
        refine w_is (fun w => Below.refl _ w) _ (.inl rfl) (fun ρ w hC hc hfn hf => by have e41 : ρ (.tmp 41) = _ := hf 41 (by decide); have e45 : ρ (.tmp 45) = _ := hf 45 (by decide); (conv => lhs; simp [execOp, go_sem, hc, e41, e45])) ?_
        intro A V5 hC hn hd hf
        have y0 : A.eval (.tmp 0) = _ := Eq.trans (hf 0) (by conv => lhs; simp [go_sem])
        have y1 : A.eval (.tmp 1) = _ := Eq.trans (hf 1) (by conv => lhs; simp [go_sem])
        have y2 : A.eval (.tmp 2) = _ := Eq.trans (hf 2) (by conv => lhs; simp [go_sem])
        have y3 : A.eval (.tmp 3) = _ := Eq.trans (hf 3) (by conv => lhs; simp [go_sem])
        have y4 : A.eval (.tmp 4) = _ := Eq.trans (hf 4) (by conv => lhs; simp [go_sem])
        have y5 : A.eval (.tmp 5) = _ := Eq.trans (hf 5) (by conv => lhs; simp [go_sem])
        have y6 : A.eval (.tmp 6) = _ := Eq.trans (hf 6) (by conv => lhs; simp [go_sem])
        have y7 : A.eval (.tmp 7) = _ := Eq.trans (hf 7) (by conv => lhs; simp [go_sem])
        have y8 : A.eval (.tmp 8) = _ := Eq.trans (hf 8) (by conv => lhs; simp [go_sem])
        have y9 : A.eval (.tmp 9) = _ := Eq.trans (hf 9) (by conv => lhs; simp [go_sem])
        have y10 : A.eval (.tmp 10) = _ := Eq.trans (hf 10) (by conv => lhs; simp [go_sem])
        have y11 : A.eval (.tmp 11) = _ := Eq.trans (hf 11) (by conv => lhs; simp [go_sem])
        have y12 : A.eval (.tmp 12) = _ := Eq.trans (hf 12) (by conv => lhs; simp [go_sem])
        have y13 : A.eval (.tmp 13) = _ := Eq.trans (hf 13) (by conv => lhs; simp [go_sem])
        have y14 : A.eval (.tmp 14) = _ := Eq.trans (hf 14) (by conv => lhs; simp [go_sem])
        have y15 : A.eval (.tmp 15) = _ := Eq.trans (hf 15) (by conv => lhs; simp [go_sem])
        have y16 : A.eval (.tmp 16) = _ := Eq.trans (hf 16) (by conv => lhs; simp [go_sem])
        have y17 : A.eval (.tmp 17) = _ := hf 17
        have y18 : A.eval (.tmp 18) = _ := hf 18
        have y19 : A.eval (.tmp 19) = _ := hf 19
        have y20 : A.eval (.tmp 20) = _ := hf 20
        have y21 : A.eval (.tmp 21) = _ := hf 21
        have y22 : A.eval (.tmp 22) = _ := hf 22
        have y23 : A.eval (.tmp 23) = _ := hf 23
        have y24 : A.eval (.tmp 24) = _ := hf 24
        have y25 : A.eval (.tmp 25) = _ := hf 25
        have y26 : A.eval (.tmp 26) = _ := hf 26
        have y27 : A.eval (.tmp 27) = _ := hf 27
        have y28 : A.eval (.tmp 28) = _ := hf 28
        have y29 : A.eval (.tmp 29) = _ := hf 29
        have y30 : A.eval (.tmp 30) = _ := hf 30
        have y31 : A.eval (.tmp 31) = _ := hf 31
        have y32 : A.eval (.tmp 32) = _ := hf 32
        have y33 : A.eval (.tmp 33) = _ := hf 33
        have y34 : A.eval (.tmp 34) = _ := hf 34
        have y35 : A.eval (.tmp 35) = _ := hf 35
        have y36 : A.eval (.tmp 36) = _ := hf 36
        have y37 : A.eval (.tmp 37) = _ := hf 37
        have y38 : A.eval (.tmp 38) = _ := hf 38
        have y39 : A.eval (.tmp 39) = _ := hf 39
        have y40 : A.eval (.tmp 40) = _ := hf 40
        have y41 : A.eval (.tmp 41) = _ := hf 41
        have y42 : A.eval (.tmp 42) = _ := hf 42
        have y43 : A.eval (.tmp 43) = _ := hf 43
        have y44 : A.eval (.tmp 44) = _ := hf 44
        have y45 : A.eval (.tmp 45) = _ := hf 45
        have y46 : A.eval (.tmp 46) = _ := hf 46
        have y47 : A.eval (.tmp 47) = _ := Eq.trans (hf 47) (by conv => lhs; simp [go_sem])
        have y48 : A.eval (.tmp 48) = _ := Eq.trans (hf 48) (by conv => lhs; simp [go_sem])
        have y49 : A.eval (.tmp 49) = _ := Eq.trans (hf 49) (by conv => lhs; simp [go_sem])
        clear hf
        have hA := frame_eq hn
        rw [show List.range 50 = [0, 1, 2, 3, 4, 5, 6, 7, 8, 9, 10, 11, 12, 13, 14, 15, 16, 17, 18, 19, 20, 21, 22, 23, 24, 25, 26, 27, 28, 29, 30, 31, 32, 33, 34, 35, 36, 37, 38, 39, 40, 41, 42, 43, 44, 45, 46, 47, 48, 49] from rfl, hd] at hA
        simp only [List.map_cons, List.map_nil, y0, y1, y2, y3, y4, y5, y6, y7, y8, y9, y10, y11, y12, y13, y14, y15, y16, y17, y18, y19, y20, y21, y22, y23, y24, y25, y26, y27, y28, y29, y30, y31, y32, y33, y34, y35, y36, y37, y38, y39, y40, y41, y42, y43, y44, y45, y46, y47, y48, y49] at hA
        clear y0 y1 y2 y3 y4 y5 y6 y7 y8 y9 y10 y11 y12 y13 y14 y15 y16 y17 y18 y19 y20 y21 y22 y23 y24 y25 y26 y27 y28 y29 y30 y31 y32 y33 y34 y35 y36 y37 y38 y39 y40 y41 y42 y43 y44 y45 y46 y47 y48 y49
        clear hn hd
        subst hA
        go_wp2_with fail
        go_ret
        exact ⟨by rw [F.out]; rfl, HB.out.trans ((HW.out.trans (hC.mono HW.out.size)).mono HB.out.size)⟩
      · by_cases g2 : 64 ≤ y1
        · have F := fin (fun h => by have := h.1.2; rw [HK.out] at this; simp only at this; omega)
          clear fin hk0
          have kc : ∀ w', Below V1.heap.size V1 w' → w'.cell? ⟨wr.heap.size, 0, none⟩ = some (.int .i64 y1) := fun w' h => by rw [h.cell (World.block_lt_of_cell? V1 _ d0)]; exact d0
          refine wp_region_typed (C := fun w' => Below V1.heap.size V1 w') (X := fun w w' => Below w.heap.size w w') (n := 50) (by kernel_rfl) (by kernel_rfl) rfl (fun w => Below.refl _ w) (Below.refl _ _).drew ?_
          refine w_is (fun w => Below.refl _ w) _ (.inl rfl) (fun ρ w hC hc hfn hf => by have e4 : ρ (.tmp 4) = _ := hf 4 (by decide); (conv => lhs; simp [execOp, go_sem, hc, e4])) ?_
          refine w_is (fun w => Below.refl _ w) _ (.inl rfl) (fun ρ w hC hc hfn hf => by have e17 : ρ (.tmp 17) = _ := hf 17 (by decide); (conv => lhs; simp [execOp, go_sem, hc, e17, kc w hC])) ?_
          refine w_is (fun w => Below.refl _ w) _ (.inl rfl) (fun ρ w hC hc hfn hf => by have e18 : ρ (.tmp 18) = _ := hf 18 (by decide); (conv => lhs; simp [execOp, go_sem, hc, e18, g1])) ?_
          refine w_is (fun w => Below.refl _ w) _ (.inl rfl) (fun ρ w hC hc hfn hf => by have e19 : ρ (.tmp 19) = _ := hf 19 (by decide); (conv => lhs; simp [execOp, go_sem, hc, e19])) ?_
          refine w_is (fun w => Below.refl _ w) _ (.inr ⟨3, 20, false, rfl, rfl, known_is rfl⟩) (fun ρ w hC hc hfn hf => by have e4 : ρ (.tmp 4) = _ := hf 4 (by decide); (conv => lhs; simp [execOp, go_sem, hc, e4])) ?_
          refine w_is (fun w => Below.refl _ w) _ (.inr ⟨3, 20, false, rfl, rfl, known_is rfl⟩) (fun ρ w hC hc hfn hf => by have e21 : ρ (.tmp 21) = _ := hf 21 (by decide); (conv => lhs; simp [execOp, go_sem, hc, e21, kc w hC])) ?_
          refine w_is (fun w => Below.refl _ w) _ (.inr ⟨3, 20, false, rfl, rfl, known_is rfl⟩) (fun ρ w hC hc hfn hf => by have e22 : ρ (.tmp 22) = _ := hf 22 (by decide); (conv => lhs; simp [execOp, go_sem, hc, e22, g2])) ?_
          refine w_is (fun w => Below.refl _ w) _ (.inl rfl) (fun ρ w hC hc hfn hf => by have e20 : ρ (.tmp 20) = _ := hf 20 (by decide); have e23 : ρ (.tmp 23) = _ := hf 23 (by decide); (conv => lhs; simp [execOp, go_sem, hc, e20, e23])) ?_
          refine w_is (fun w => Below.refl _ w) _ (.inl rfl) (fun ρ w hC hc hfn hf => by have e24 : ρ (.tmp 24) = _ := hf 24 (by decide); (conv => lhs; simp [execOp, go_sem, hc, e24])) ?_
          refine w_skip rfl rfl (known_is rfl) ?_
          refine w_skip rfl rfl (known_is rfl) ?_
          refine w_skip rfl rfl (known_is rfl) ?_
          refine w_skipU rfl rfl (known_is rfl) ?_
          refine w_skipU rfl rfl (known_is rfl) ?_
          refine w_skipU rfl rfl (known_is rfl) ?_
          refine w_skipU rfl rfl (known_is rfl) ?_
          refine w_skipU rfl rfl (known_is rfl) ?_
          refine w_skipU rfl rfl (known_is rfl) ?_
          refine w_skipU rfl rfl (known_is rfl) ?_
          refine w_skipU rfl rfl (known_is rfl) ?_
          refine w_skipU rfl rfl (known_is rfl) ?_
          refine w_skipU rfl rfl (known_is rfl) ?_
          refine w_skip rfl rfl (known_is rfl) ?_
          refine w_is (fun w => Below.refl _ w) _ (.inl rfl) (fun ρ w hC hc hfn hf => by have e25 : ρ (.tmp 25) = _ := hf 25 (by decide); have e39 : ρ (.tmp 39) = _ := hf 39 (by decide); (conv => lhs; simp [execOp, go_sem, hc, e25, e39])) ?_
          refine w_is (fun w => Below.refl _ w) _ (.inl rfl) (fun ρ w hC hc hfn hf => by have e40 : ρ (.tmp 40) = _ := hf 40 (by decide); (conv => lhs; simp [execOp, go_sem, hc, e40])) ?_
          refine w_skip rfl rfl (known_is rfl) ?_
          refine w_skip rfl rfl (known_is rfl) ?_
          refine w_skip rfl rfl (known_is rfl) ?_
          refine w_skip rfl rfl (known_is rfl) ?_
          refine w_is (fun w => Below.refl _ w) _ (.inl rfl) (fun ρ w hC hc hfn hf => by have e41 : ρ (.tmp 41) = _ := hf 41 (by decide); have e45 : ρ (.tmp 45) = _ := hf 45 (by decide); (conv => lhs; simp [execOp, go_sem, hc, e41, e45])) ?_
          intro A V5 hC hn hd hf
          have y0 : A.eval (.tmp 0) = _ := Eq.trans (hf 0) (by conv => lhs; simp [go_sem])
          have y1 : A.eval (.tmp 1) = _ := Eq.trans (hf 1) (by conv => lhs; simp [go_sem])
          have y2 : A.eval (.tmp 2) = _ := Eq.trans (hf 2) (by conv => lhs; simp [go_sem])
          have y3 : A.eval (.tmp 3) = _ := Eq.trans (hf 3) (by conv => lhs; simp [go_sem])
          have y4 : A.eval (.tmp 4) = _ := Eq.trans (hf 4) (by conv => lhs; simp [go_sem])
          have y5 : A.eval (.tmp 5) = _ := Eq.trans (hf 5) (by conv => lhs; simp [go_sem])
          have y6 : A.eval (.tmp 6) = _ := Eq.trans (hf 6) (by conv => lhs; simp [go_sem])
          have y7 : A.eval (.tmp 7) = _ := Eq.trans (hf 7) (by conv => lhs; simp [go_sem])
          have y8 : A.eval (.tmp 8) = _ := Eq.trans (hf 8) (by conv => lhs; simp [go_sem])
          have y9 : A.eval (.tmp 9) = _ := Eq.trans (hf 9) (by conv => lhs; simp [go_sem])
          have y10 : A.eval (.tmp 10) = _ := Eq.trans (hf 10) (by conv => lhs; simp [go_sem])
          have y11 : A.eval (.tmp 11) = _ := Eq.trans (hf 11) (by conv => lhs; simp [go_sem])
          have y12 : A.eval (.tmp 12) = _ := Eq.trans (hf 12) (by conv => lhs; simp [go_sem])
          have y13 : A.eval (.tmp 13) = _ := Eq.trans (hf 13) (by conv => lhs; simp [go_sem])
          have y14 : A.eval (.tmp 14) = _ := Eq.trans (hf 14) (by conv => lhs; simp [go_sem])
          have y15 : A.eval (.tmp 15) = _ := Eq.trans (hf 15) (by conv => lhs; simp [go_sem])
          have y16 : A.eval (.tmp 16) = _ := Eq.trans (hf 16) (by conv => lhs; simp [go_sem])
          have y17 : A.eval (.tmp 17) = _ := hf 17
          have y18 : A.eval (.tmp 18) = _ := hf 18
          have y19 : A.eval (.tmp 19) = _ := hf 19
          have y20 : A.eval (.tmp 20) = _ := hf 20
          have y21 : A.eval (.tmp 21) = _ := hf 21
          have y22 : A.eval (.tmp 22) = _ := hf 22
          have y23 : A.eval (.tmp 23) = _ := hf 23
          have y24 : A.eval (.tmp 24) = _ := hf 24
          have y25 : A.eval (.tmp 25) = _ := hf 25
          have y26 : A.eval (.tmp 26) = _ := hf 26
          have y27 : A.eval (.tmp 27) = _ := hf 27
          have y28 : A.eval (.tmp 28) = _ := hf 28
          have y29 : A.eval (.tmp 29) = _ := hf 29
          have y30 : A.eval (.tmp 30) = _ := hf 30
          have y31 : A.eval (.tmp 31) = _ := hf 31
          have y32 : A.eval (.tmp 32) = _ := hf 32
          have y33 : A.eval (.tmp 33) = _ := hf 33
          have y34 : A.eval (.tmp 34) = _ := hf 34
          have y35 : A.eval (.tmp 35) = _ := hf 35
          have y36 : A.eval (.tmp 36) = _ := hf 36
          have y37 : A.eval (.tmp 37) = _ := hf 37
          have y38 : A.eval (.tmp 38) = _ := hf 38
          have y39 : A.eval (.tmp 39) = _ := hf 39
          have y40 : A.eval (.tmp 40) = _ := hf 40
          have y41 : A.eval (.tmp 41) = _ := hf 41
          have y42 : A.eval (.tmp 42) = _ := hf 42
          have y43 : A.eval (.tmp 43) = _ := hf 43
          have y44 : A.eval (.tmp 44) = _ := hf 44
          have y45 : A.eval (.tmp 45) = _ := hf 45
          have y46 : A.eval (.tmp 46) = _ := hf 46
          have y47 : A.eval (.tmp 47) = _ := Eq.trans (hf 47) (by conv => lhs; simp [go_sem])
          have y48 : A.eval (.tmp 48) = _ := Eq.trans (hf 48) (by conv => lhs; simp [go_sem])
          have y49 : A.eval (.tmp 49) = _ := Eq.trans (hf 49) (by conv => lhs; simp [go_sem])
          clear hf
          have hA := frame_eq hn
          rw [show List.range 50 = [0, 1, 2, 3, 4, 5, 6, 7, 8, 9, 10, 11, 12, 13, 14, 15, 16, 17, 18, 19, 20, 21, 22, 23, 24, 25, 26, 27, 28, 29, 30, 31, 32, 33, 34, 35, 36, 37, 38, 39, 40, 41, 42, 43, 44, 45, 46, 47, 48, 49] from rfl, hd] at hA
          simp only [List.map_cons, List.map_nil, y0, y1, y2, y3, y4, y5, y6, y7, y8, y9, y10, y11, y12, y13, y14, y15, y16, y17, y18, y19, y20, y21, y22, y23, y24, y25, y26, y27, y28, y29, y30, y31, y32, y33, y34, y35, y36, y37, y38, y39, y40, y41, y42, y43, y44, y45, y46, y47, y48, y49] at hA
          clear y0 y1 y2 y3 y4 y5 y6 y7 y8 y9 y10 y11 y12 y13 y14 y15 y16 y17 y18 y19 y20 y21 y22 y23 y24 y25 y26 y27 y28 y29 y30 y31 y32 y33 y34 y35 y36 y37 y38 y39 y40 y41 y42 y43 y44 y45 y46 y47 y48 y49
          clear hn hd
          subst hA
          go_wp2_with fail
          go_ret
          exact ⟨by rw [F.out]; rfl, HB.out.trans ((HW.out.trans (hC.mono HW.out.size)).mono HB.out.size)⟩
        · obtain ⟨q, hq⟩ : ∃ q : Bool, q = true ↔ EpOk y2 := ⟨decide (EpOk y2), decide_eq_true_iff⟩
          have cE := fun w => repoch_fix y2 q hq w
          have HE := Lib.hid hq
          clear hq
          by_cases g3 : 0 < k
          · have hkm : k - 1 < ys.length := by omega
            obtain ⟨hB9, r0, -⟩ := YV1.out.all hkm
            obtain ⟨⟨z1, z2⟩, hzk⟩ : ∃ z, ys.getD (k - 1) (0, 0) = z := ⟨_, rfl⟩
            rw [hzk] at r0
            simp only at r0
            have HZ := Lib.hid hzk
            clear hzk
            have hk1 : (1 : Int) ≤ (k : Int) := by omega
            have hk2 : (k : Int) - 1 < (ys.length : Int) := by omega
            have hkn : ((k : Int) - 1).toNat = k - 1 := by omega
            have hkw : IntKind.i64.wrap ((k : Int) - 1) = (k : Int) - 1 := by rw [IntKind.wrap_i64]; omega
            have kc : ∀ w', Below V1.heap.size V1 w' → w'.cell? ⟨wr.heap.size, 0, none⟩ = some (.int .i64 y1) ∧ w'.cell? ⟨wr.heap.size, 1, none⟩ = some (.int .i64 y2) ∧ w'.cell? ⟨w.heap.size, 1, none⟩ = some (.slice (some ⟨b, off, none⟩) ys.length c) ∧ w'.cell? ⟨b, off + (k - 1) * 2, none⟩ = some (.int .i64 z1) := fun w' h =>
              ⟨by rw [h.cell (World.block_lt_of_cell? V1 _ d0)]; exact d0, by rw [h.cell (World.block_lt_of_cell? V1 _ d1)]; exact d1, (OX1.out.below h).1.2, by rw [h.cell (World.block_lt_of_cell? V1 _ r0)]; exact r0⟩
            by_cases g4 : y1 ≤ z1
            · have F := fin (fun h => by have h2 := h.2.1 g3; rw [HK.out, HZ.out] at h2; simp only at h2; omega)
              clear fin hk0
              refine wp_region_typed (C := fun w' => Below V1.heap.size V1 w') (X := fun w w' => Below w.heap.size w w') (n := 50) (by kernel_rfl) (by kernel_rfl) rfl (fun w => Below.refl _ w) (Below.refl _ _).drew ?_
              refine w_is (fun w => Below.refl _ w) _ (.inl rfl) (fun ρ w hC hc hfn hf => by have e4 : ρ (.tmp 4) = _ := hf 4 (by decide); (conv => lhs; simp [execOp, go_sem, hc, e4])) ?_
              refine w_is (fun w => Below.refl _ w) _ (.inl rfl) (fun ρ w hC hc hfn hf => by have e17 : ρ (.tmp 17) = _ := hf 17 (by decide); (conv => lhs; simp [execOp, go_sem, hc, e17, kc w hC])) ?_
              refine w_is (fun w => Below.refl _ w) _ (.inl rfl) (fun ρ w hC hc hfn hf => by have e18 : ρ (.tmp 18) = _ := hf 18 (by decide); (conv => lhs; simp [execOp, go_sem, hc, e18, g1])) ?_
              refine w_is (fun w => Below.refl _ w) _ (.inl rfl) (fun ρ w hC hc hfn hf => by have e19 : ρ (.tmp 19) = _ := hf 19 (by decide); (conv => lhs; simp [execOp, go_sem, hc, e19])) ?_
              refine w_is (fun w => Below.refl _ w) _ (.inr ⟨3, 20, false, rfl, rfl, known_is rfl⟩) (fun ρ w hC hc hfn hf => by have e4 : ρ (.tmp 4) = _ := hf 4 (by decide); (conv => lhs; simp [execOp, go_sem, hc, e4])) ?_
              refine w_is (fun w => Below.refl _ w) _ (.inr ⟨3, 20, false, rfl, rfl, known_is rfl⟩) (fun ρ w hC hc hfn hf => by have e21 : ρ (.tmp 21) = _ := hf 21 (by decide); (conv => lhs; simp [execOp, go_sem, hc, e21, kc w hC])) ?_
              refine w_is (fun w => Below.refl _ w) _ (.inr ⟨3, 20, false, rfl, rfl, known_is rfl⟩) (fun ρ w hC hc hfn hf => by have e22 : ρ (.tmp 22) = _ := hf 22 (by decide); (conv => lhs; simp [execOp, go_sem, hc, e22, g2])) ?_
              refine w_is (fun w => Below.refl _ w) _ (.inl rfl) (fun ρ w hC hc hfn hf => by have e20 : ρ (.tmp 20) = _ := hf 20 (by decide); have e23 : ρ (.tmp 23) = _ := hf 23 (by decide); (conv => lhs; simp [execOp, go_sem, hc, e20, e23])) ?_
              refine w_is (fun w => Below.refl _ w) _ (.inl rfl) (fun ρ w hC hc hfn hf => by have e24 : ρ (.tmp 24) = _ := hf 24 (by decide); (conv => lhs; simp [execOp, go_sem, hc, e24])) ?_
              refine w_is (fun w => Below.refl _ w) _ (.inr ⟨8, 25, false, rfl, rfl, known_is rfl⟩) (fun ρ w hC hc hfn hf => by have e3 : ρ (.tmp 3) = _ := hf 3 (by decide); (conv => lhs; simp [execOp, go_sem, hc, e3])) ?_
              refine w_is (fun w => Below.refl _ w) _ (.inr ⟨8, 25, false, rfl, rfl, known_is rfl⟩) (fun ρ w hC hc hfn hf => by have e26 : ρ (.tmp 26) = _ := hf 26 (by decide); (conv => lhs; simp [execOp, go_sem, hc, e26, g3])) ?_
              refine w_is (fun w => Below.refl _ w) _ (.inr ⟨8, 25, false, rfl, rfl, known_is rfl⟩) (fun ρ w hC hc hfn hf => by have e27 : ρ (.tmp 27) = _ := hf 27 (by decide); (conv => lhs; simp [execOp, go_sem, hc, e27])) ?_
              refine w_is (fun w => Below.refl _ w) _ (.inr ⟨11, 28, true, rfl, rfl, known_is rfl⟩) (fun ρ w hC hc hfn hf => by have e1 : ρ (.tmp 1) = _ := hf 1 (by decide); (conv => lhs; simp [execOp, go_sem, hc, e1])) ?_
              refine w_is (fun w => Below.refl _ w) _ (.inr ⟨11, 28, true, rfl, rfl, known_is rfl⟩) (fun ρ w hC hc hfn hf => by have e29 : ρ (.tmp 29) = _ := hf 29 (by decide); (conv => lhs; simp [execOp, go_sem, hc, e29, kc w hC])) ?_
              refine w_is (fun w => Below.refl _ w) _ (.inr ⟨11, 28, true, rfl, rfl, known_is rfl⟩) (fun ρ w hC hc hfn hf => by have e3 : ρ (.tmp 3) = _ := hf 3 (by decide); (conv => lhs; simp [execOp, go_sem, hc, e3])) ?_
              refine w_is (fun w => Below.refl _ w) _ (.inr ⟨11, 28, true, rfl, rfl, known_is rfl⟩) (fun ρ w hC hc hfn hf => by have e31 : ρ (.tmp 31) = _ := hf 31 (by decide); (conv => lhs; simp [execOp, go_sem, hc, e31])) ?_
              refine w_is (fun w => Below.refl _ w) _ (.inr ⟨11, 28, true, rfl, rfl, known_is rfl⟩) (fun ρ w hC hc hfn hf => by have e30 : ρ (.tmp 30) = _ := hf 30 (by decide); have e32 : ρ (.tmp 32) = _ := hf 32 (by decide); (conv => lhs; simp [execOp, go_sem, hc, e30, e32, hkw, hk1, hk2, hkn])) ?_
              refine w_is (fun w => Below.refl _ w) _ (.inr ⟨11, 28, true, rfl, rfl, known_is rfl⟩) (fun ρ w hC hc hfn hf => by have e33 : ρ (.tmp 33) = _ := hf 33 (by decide); (conv => lhs; simp [execOp, go_sem, hc, e33])) ?_
              refine w_is (fun w => Below.refl _ w) _ (.inr ⟨11, 28, true, rfl, rfl, known_is rfl⟩) (fun ρ w hC hc hfn hf => by have e34 : ρ (.tmp 34) = _ := hf 34 (by decide); (conv => lhs; simp [execOp, go_sem, hc, e34, kc w hC])) ?_
              refine w_is (fun w => Below.refl _ w) _ (.inr ⟨11, 28, true, rfl, rfl, known_is rfl⟩) (fun ρ w hC hc hfn hf => by have e4 : ρ (.tmp 4) = _ := hf 4 (by decide); (conv => lhs; simp [execOp, go_sem, hc, e4])) ?_
              refine w_is (fun w => Below.refl _ w) _ (.inr ⟨11, 28, true, rfl, rfl, known_is rfl⟩) (fun ρ w hC hc hfn hf => by have e36 : ρ (.tmp 36) = _ := hf 36 (by decide); (conv => lhs; simp [execOp, go_sem, hc, e36, kc w hC])) ?_
              refine w_is (fun w => Below.refl _ w) _ (.inr ⟨11, 28, true, rfl, rfl, known_is rfl⟩) (fun ρ w hC hc hfn hf => by have e35 : ρ (.tmp 35) = _ := hf 35 (by decide); have e37 : ρ (.tmp 37) = _ := hf 37 (by decide); (conv => lhs; simp [execOp, go_sem, hc, e35, e37, g4])) ?_
              refine w_is (fun w => Below.refl _ w) _ (.inr ⟨8, 25, false, rfl, rfl, known_is rfl⟩) (fun ρ w hC hc hfn hf => by have e28 : ρ (.tmp 28) = _ := hf 28 (by decide); have e38 : ρ (.tmp 38) = _ := hf 38 (by decide); (conv => lhs; simp [execOp, go_sem, hc, e28, e38])) ?_
              refine w_is (fun w => Below.refl _ w) _ (.inl rfl) (fun ρ w hC hc hfn hf => by have e25 : ρ (.tmp 25) = _ := hf 25 (by decide); have e39 : ρ (.tmp 39) = _ := hf 39 (by decide); (conv => lhs; simp [execOp, go_sem, hc, e25, e39])) ?_
              refine w_is (fun w => Below.refl _ w) _ (.inl rfl) (fun ρ w hC hc hfn hf => by have e40 : ρ (.tmp 40) = _ := hf 40 (by decide); (conv => lhs; simp [execOp, go_sem, hc, e40])) ?_
              refine w_skip rfl rfl (known_is rfl) ?_
              refine w_skip rfl rfl (known_is rfl) ?_
              refine w_skip rfl rfl (known_is rfl) ?_
              refine w_skip rfl rfl (known_is rfl) ?_
              refine w_is (fun w => Below.refl _ w) _ (.inl rfl) (fun ρ w hC hc hfn hf => by have e41 : ρ (.tmp 41) = _ := hf 41 (by decide); have e45 : ρ (.tmp 45) = _ := hf 45 (by decide); (conv => lhs; simp [execOp, go_sem, hc, e41, e45])) ?_
              intro A V5 hC hn hd hf
              have y0 : A.eval (.tmp 0) = _ := Eq.trans (hf 0) (by conv => lhs; simp [go_sem])
              have y1 : A.eval (.tmp 1) = _ := Eq.trans (hf 1) (by conv => lhs; simp [go_sem])
              have y2 : A.eval (.tmp 2) = _ := Eq.trans (hf 2) (by conv => lhs; simp [go_sem])
              have y3 : A.eval (.tmp 3) = _ := Eq.trans (hf 3) (by conv => lhs; simp [go_sem])
              have y4 : A.eval (.tmp 4) = _ := Eq.trans (hf 4) (by conv => lhs; simp [go_sem])
              have y5 : A.eval (.tmp 5) = _ := Eq.trans (hf 5) (by conv => lhs; simp [go_sem])
              have y6 : A.eval (.tmp 6) = _ := Eq.trans (hf 6) (by conv => lhs; simp [go_sem])
              have y7 : A.eval (.tmp 7) = _ := Eq.trans (hf 7) (by conv => lhs; simp [go_sem])
              have y8 : A.eval (.tmp 8) = _ := Eq.trans (hf 8) (by conv => lhs; simp [go_sem])
              have y9 : A.eval (.tmp 9) = _ := Eq.trans (hf 9) (by conv => lhs; simp [go_sem])
              have y10 : A.eval (.tmp 10) = _ := Eq.trans (hf 10) (by conv => lhs; simp [go_sem])
              have y11 : A.eval (.tmp 11) = _ := Eq.trans (hf 11) (by conv => lhs; simp [go_sem])
              have y12 : A.eval (.tmp 12) = _ := Eq.trans (hf 12) (by conv => lhs; simp [go_sem])
              have y13 : A.eval (.tmp 13) = _ := Eq.trans (hf 13) (by conv => lhs; simp [go_sem])
              have y14 : A.eval (.tmp 14) = _ := Eq.trans (hf 14) (by conv => lhs; simp [go_sem])
              have y15 : A.eval (.tmp 15) = _ := Eq.trans (hf 15) (by conv => lhs; simp [go_sem])
              have y16 : A.eval (.tmp 16) = _ := Eq.trans (hf 16) (by conv => lhs; simp [go_sem])
              have y17 : A.eval (.tmp 17) = _ := hf 17
              have y18 : A.eval (.tmp 18) = _ := hf 18
              have y19 : A.eval (.tmp 19) = _ := hf 19
              have y20 : A.eval (.tmp 20) = _ := hf 20
              have y21 : A.eval (.tmp 21) = _ := hf 21
              have y22 : A.eval (.tmp 22) = _ := hf 22
              have y23 : A.eval (.tmp 23) = _ := hf 23
              have y24 : A.eval (.tmp 24) = _ := hf 24
              have y25 : A.eval (.tmp 25) = _ := hf 25
              have y26 : A.eval (.tmp 26) = _ := hf 26
              have y27 : A.eval (.tmp 27) = _ := hf 27
              have y28 : A.eval (.tmp 28) = _ := hf 28
              have y29 : A.eval (.tmp 29) = _ := hf 29
              have y30 : A.eval (.tmp 30) = _ := hf 30
              have y31 : A.eval (.tmp 31) = _ := hf 31
              have y32 : A.eval (.tmp 32) = _ := hf 32
              have y33 : A.eval (.tmp 33) = _ := hf 33
              have y34 : A.eval (.tmp 34) = _ := hf 34
              have y35 : A.eval (.tmp 35) = _ := hf 35
              have y36 : A.eval (.tmp 36) = _ := hf 36
              have y37 : A.eval (.tmp 37) = _ := hf 37
              have y38 : A.eval (.tmp 38) = _ := hf 38
              have y39 : A.eval (.tmp 39) = _ := hf 39
              have y40 : A.eval (.tmp 40) = _ := hf 40
              have y41 : A.eval (.tmp 41) = _ := hf 41
              have y42 : A.eval (.tmp 42) = _ := hf 42
              have y43 : A.eval (.tmp 43) = _ := hf 43
              have y44 : A.eval (.tmp 44) = _ := hf 44
              have y45 : A.eval (.tmp 45) = _ := hf 45
              have y46 : A.eval (.tmp 46) = _ := hf 46
              have y47 : A.eval (.tmp 47) = _ := Eq.trans (hf 47) (by conv => lhs; simp [go_sem])
              have y48 : A.eval (.tmp 48) = _ := Eq.trans (hf 48) (by conv => lhs; simp [go_sem])
              have y49 : A.eval (.tmp 49) = _ := Eq.trans (hf 49) (by conv => lhs; simp [go_sem])
              clear hf
              have hA := frame_eq hn
              rw [show List.range 50 = [0, 1, 2, 3, 4, 5, 6, 7, 8, 9, 10, 11, 12, 13, 14, 15, 16, 17, 18, 19, 20, 21, 22, 23, 24, 25, 26, 27, 28, 29, 30, 31, 32, 33, 34, 35, 36, 37, 38, 39, 40, 41, 42, 43, 44, 45, 46, 47, 48, 49] from rfl, hd] at hA
              simp only [List.map_cons, List.map_nil, y0, y1, y2, y3, y4, y5, y6, y7, y8, y9, y10, y11, y12, y13, y14, y15, y16, y17, y18, y19, y20, y21, y22, y23, y24, y25, y26, y27, y28, y29, y30, y31, y32, y33, y34, y35, y36, y37, y38, y39, y40, y41, y42, y43, y44, y45, y46, y47, y48, y49] at hA
              clear y0 y1 y2 y3 y4 y5 y6 y7 y8 y9 y10 y11 y12 y13 y14 y15 y16 y17 y18 y19 y20 y21 y22 y23 y24 y25 y26 y27 y28 y29 y30 y31 y32 y33 y34 y35 y36 y37 y38 y39 y40 y41 y42 y43 y44 y45 y46 y47 y48 y49
              clear hn hd
              subst hA
              go_wp2_with fail
              go_ret
              exact ⟨by rw [F.out]; rfl, HB.out.trans ((HW.out.trans (hC.mono HW.out.size)).mono HB.out.size)⟩
            · have HA : Hid (EpOk y2 → EcAt ys k) := fun he => ⟨by rw [HK.out]; simp only; omega, fun _ => by rw [HK.out, HZ.out]; simp only; omega, by rw [HK.out]; exact he⟩
              have HF : Hid (¬ EpOk y2 → Q = false) := fun hne => (fin (fun h => hne (by have := h.2.2; rw [HK.out] at this; exact this))).out
              clear fin hk0
              refine wp_region_typed (C := fun w' => Below V1.heap.size V1 w') (X := fun w w' => Below w.heap.size w w') (n := 50) (by kernel_rfl) (by kernel_rfl) rfl (fun w => Below.refl _ w) (Below.refl _ _).drew ?_
              refine w_is (fun w => Below.refl _ w) _ (.inl rfl) (fun ρ w hC hc hfn hf => by have e4 : ρ (.tmp 4) = _ := hf 4 (by decide); (conv => lhs; simp [execOp, go_sem, hc, e4])) ?_
              refine w_is (fun w => Below.refl _ w) _ (.inl rfl) (fun ρ w hC hc hfn hf => by have e17 : ρ (.tmp 17) = _ := hf 17 (by decide); (conv => lhs; simp [execOp, go_sem, hc, e17, kc w hC])) ?_
              refine w_is (fun w => Below.refl _ w) _ (.inl rfl) (fun ρ w hC hc hfn hf => by have e18 : ρ (.tmp 18) = _ := hf 18 (by decide); (conv => lhs; simp [execOp, go_sem, hc, e18, g1])) ?_
              refine w_is (fun w => Below.refl _ w) _ (.inl rfl) (fun ρ w hC hc hfn hf => by have e19 : ρ (.tmp 19) = _ := hf 19 (by decide); (conv => lhs; simp [execOp, go_sem, hc, e19])) ?_
              refine w_is (fun w => Below.refl _ w) _ (.inr ⟨3, 20, false, rfl, rfl, known_is rfl⟩) (fun ρ w hC hc hfn hf => by have e4 : ρ (.tmp 4) = _ := hf 4 (by decide); (conv => lhs; simp [execOp, go_sem, hc, e4])) ?_
              refine w_is (fun w => Below.refl _ w) _ (.inr ⟨3, 20, false, rfl, rfl, known_is rfl⟩) (fun ρ w hC hc hfn hf => by have e21 : ρ (.tmp 21) = _ := hf 21 (by decide); (conv => lhs; simp [execOp, go_sem, hc, e21, kc w hC])) ?_
              refine w_is (fun w => Below.refl _ w) _ (.inr ⟨3, 20, false, rfl, rfl, known_is rfl⟩) (fun ρ w hC hc hfn hf => by have e22 : ρ (.tmp 22) = _ := hf 22 (by decide); (conv => lhs; simp [execOp, go_sem, hc, e22, g2])) ?_
              refine w_is (fun w => Below.refl _ w) _ (.inl rfl) (fun ρ w hC hc hfn hf => by have e20 : ρ (.tmp 20) = _ := hf 20 (by decide); have e23 : ρ (.tmp 23) = _ := hf 23 (by decide); (conv => lhs; simp [execOp, go_sem, hc, e20, e23])) ?_
              refine w_is (fun w => Below.refl _ w) _ (.inl rfl) (fun ρ w hC hc hfn hf => by have e24 : ρ (.tmp 24) = _ := hf 24 (by decide); (conv => lhs; simp [execOp, go_sem, hc, e24])) ?_
              refine w_is (fun w => Below.refl _ w) _ (.inr ⟨8, 25, false, rfl, rfl, known_is rfl⟩) (fun ρ w hC hc hfn hf => by have e3 : ρ (.tmp 3) = _ := hf 3 (by decide); (conv => lhs; simp [execOp, go_sem, hc, e3])) ?_
              refine w_is (fun w => Below.refl _ w) _ (.inr ⟨8, 25, false, rfl, rfl, known_is rfl⟩) (fun ρ w hC hc hfn hf => by have e26 : ρ (.tmp 26) = _ := hf 26 (by decide); (conv => lhs; simp [execOp, go_sem, hc, e26, g3])) ?_
              refine w_is (fun w => Below.refl _ w) _ (.inr ⟨8, 25, false, rfl, rfl, known_is rfl⟩) (fun ρ w hC hc hfn hf => by have e27 : ρ (.tmp 27) = _ := hf 27 (by decide); (conv => lhs; simp [execOp, go_sem, hc, e27])) ?_
              refine w_is (fun w => Below.refl _ w) _ (.inr ⟨11, 28, true, rfl, rfl, known_is rfl⟩) (fun ρ w hC hc hfn hf => by have e1 : ρ (.tmp 1) = _ := hf 1 (by decide); (conv => lhs; simp [execOp, go_sem, hc, e1])) ?_
              refine w_is (fun w => Below.refl _ w) _ (.inr ⟨11, 28, true, rfl, rfl, known_is rfl⟩) (fun ρ w hC hc hfn hf => by have e29 : ρ (.tmp 29) = _ := hf 29 (by decide); (conv => lhs; simp [execOp, go_sem, hc, e29, kc w hC])) ?_
              refine w_is (fun w => Below.refl _ w) _ (.inr ⟨11, 28, true, rfl, rfl, known_is rfl⟩) (fun ρ w hC hc hfn hf => by have e3 : ρ (.tmp 3) = _ := hf 3 (by decide); (conv => lhs; simp [execOp, go_sem, hc, e3])) ?_
              refine w_is (fun w => Below.refl _ w) _ (.inr ⟨11, 28, true, rfl, rfl, known_is rfl⟩) (fun ρ w hC hc hfn hf => by have e31 : ρ (.tmp 31) = _ := hf 31 (by decide); (conv => lhs; simp [execOp, go_sem, hc, e31])) ?_
              refine w_is (fun w => Below.refl _ w) _ (.inr ⟨11, 28, true, rfl, rfl, known_is rfl⟩) (fun ρ w hC hc hfn hf => by have e30 : ρ (.tmp 30) = _ := hf 30 (by decide); have e32 : ρ (.tmp 32) = _ := hf 32 (by decide); (conv => lhs; simp [execOp, go_sem, hc, e30, e32, hkw, hk1, hk2, hkn])) ?_
              refine w_is (fun w => Below.refl _ w) _ (.inr ⟨11, 28, true, rfl, rfl, known_is rfl⟩) (fun ρ w hC hc hfn hf => by have e33 : ρ (.tmp 33) = _ := hf 33 (by decide); (conv => lhs; simp [execOp, go_sem, hc, e33])) ?_
              refine w_is (fun w => Below.refl _ w) _ (.inr ⟨11, 28, true, rfl, rfl, known_is rfl⟩) (fun ρ w hC hc hfn hf => by have e34 : ρ (.tmp 34) = _ := hf 34 (by decide); (conv => lhs; simp [execOp, go_sem, hc, e34, kc w hC])) ?_
              refine w_is (fun w => Below.refl _ w) _ (.inr ⟨11, 28, true, rfl, rfl, known_is rfl⟩) (fun ρ w hC hc hfn hf => by have e4 : ρ (.tmp 4) = _ := hf 4 (by decide); (conv => lhs; simp [execOp, go_sem, hc, e4])) ?_
              refine w_is (fun w => Below.refl _ w) _ (.inr ⟨11, 28, true, rfl, rfl, known_is rfl⟩) (fun ρ w hC hc hfn hf => by have e36 : ρ (.tmp 36) = _ := hf 36 (by decide); (conv => lhs; simp [execOp, go_sem, hc, e36, kc w hC])) ?_
              refine w_is (fun w => Below.refl _ w) _ (.inr ⟨11, 28, true, rfl, rfl, known_is rfl⟩) (fun ρ w hC hc hfn hf => by have e35 : ρ (.tmp 35) = _ := hf 35 (by decide); have e37 : ρ (.tmp 37) = _ := hf 37 (by decide); (conv => lhs; simp [execOp, go_sem, hc, e35, e37, g4])) ?_
              refine w_is (fun w => Below.refl _ w) _ (.inr ⟨8, 25, false, rfl, rfl, known_is rfl⟩) (fun ρ w hC hc hfn hf => by have e28 : ρ (.tmp 28) = _ := hf 28 (by decide); have e38 : ρ (.tmp 38) = _ := hf 38 (by decide); (conv => lhs; simp [execOp, go_sem, hc, e28, e38])) ?_
              refine w_is (fun w => Below.refl _ w) _ (.inl rfl) (fun ρ w hC hc hfn hf => by have e25 : ρ (.tmp 25) = _ := hf 25 (by decide); have e39 : ρ (.tmp 39) = _ := hf 39 (by decide); (conv => lhs; simp [execOp, go_sem, hc, e25, e39])) ?_
              refine w_is (fun w => Below.refl _ w) _ (.inl rfl) (fun ρ w hC hc hfn hf => by have e40 : ρ (.tmp 40) = _ := hf 40 (by decide); (conv => lhs; simp [execOp, go_sem, hc, e40])) ?_
              refine w_is (fun w => Below.refl _ w) _ (.inr ⟨24, 41, false, rfl, rfl, known_is rfl⟩) (fun ρ w hC hc hfn hf => by have e4 : ρ (.tmp 4) = _ := hf 4 (by decide); (conv => lhs; simp [execOp, go_sem, hc, e4])) ?_
              refine w_is (fun w => Below.refl _ w) _ (.inr ⟨24, 41, false, rfl, rfl, known_is rfl⟩) (fun ρ w hC hc hfn hf => by have e42 : ρ (.tmp 42) = _ := hf 42 (by decide); (conv => lhs; simp [execOp, go_sem, hc, e42, kc w hC])) ?_
              refine w_call (Is _) (fun _ _ _ h _ => h) 28 (.inr ⟨24, 41, false, rfl, rfl, known_is rfl⟩) (fun ρ w hC hc hfn hf => by have e43 : ρ (.tmp 43) = _ := hf 43 (by decide); exact ⟨_, by (conv => lhs; simp [execOp, resolve, invoke, go_sem, hc, hfn, e43]), tc_same hC (cE w)⟩) ?_
              refine w_is (fun w => Below.refl _ w) _ (.inr ⟨24, 41, false, rfl, rfl, known_is rfl⟩) (fun ρ w hC hc hfn hf => by have e44 : ρ (.tmp 44) = _ := hf 44 (by decide); (conv => lhs; simp [execOp, go_sem, hc, e44])) ?_
              refine w_is (fun w => Below.refl _ w) _ (.inl rfl) (fun ρ w hC hc hfn hf => by have e41 : ρ (.tmp 41) = _ := hf 41 (by decide); have e45 : ρ (.tmp 45) = _ := hf 45 (by decide); (conv => lhs; simp [execOp, go_sem, hc, e41, e45])) ?_
              intro A V5 hC hn hd hf
              have y0 : A.eval (.tmp 0) = _ := Eq.trans (hf 0) (by conv => lhs; simp [go_sem])
              have y1 : A.eval (.tmp 1) = _ := Eq.trans (hf 1) (by conv => lhs; simp [go_sem])
              have y2 : A.eval (.tmp 2) = _ := Eq.trans (hf 2) (by conv => lhs; simp [go_sem])
              have y3 : A.eval (.tmp 3) = _ := Eq.trans (hf 3) (by conv => lhs; simp [go_sem])
              have y4 : A.eval (.tmp 4) = _ := Eq.trans (hf 4) (by conv => lhs; simp [go_sem])
              have y5 : A.eval (.tmp 5) = _ := Eq.trans (hf 5) (by conv => lhs; simp [go_sem])
              have y6 : A.eval (.tmp 6) = _ := Eq.trans (hf 6) (by conv => lhs; simp [go_sem])
              have y7 : A.eval (.tmp 7) = _ := Eq.trans (hf 7) (by conv => lhs; simp [go_sem])
              have y8 : A.eval (.tmp 8) = _ := Eq.trans (hf 8) (by conv => lhs; simp [go_sem])
              have y9 : A.eval (.tmp 9) = _ := Eq.trans (hf 9) (by conv => lhs; simp [go_sem])
              have y10 : A.eval (.tmp 10) = _ := Eq.trans (hf 10) (by conv => lhs; simp [go_sem])
              have y11 : A.eval (.tmp 11) = _ := Eq.trans (hf 11) (by conv => lhs; simp [go_sem])
              have y12 : A.eval (.tmp 12) = _ := Eq.trans (hf 12) (by conv => lhs; simp [go_sem])
              have y13 : A.eval (.tmp 13) = _ := Eq.trans (hf 13) (by conv => lhs; simp [go_sem])
              have y14 : A.eval (.tmp 14) = _ := Eq.trans (hf 14) (by conv => lhs; simp [go_sem])
              have y15 : A.eval (.tmp 15) = _ := Eq.trans (hf 15) (by conv => lhs; simp [go_sem])
              have y16 : A.eval (.tmp 16) = _ := Eq.trans (hf 16) (by conv => lhs; simp [go_sem])
              have y17 : A.eval (.tmp 17) = _ := hf 17
              have y18 : A.eval (.tmp 18) = _ := hf 18
              have y19 : A.eval (.tmp 19) = _ := hf 19
              have y20 : A.eval (.tmp 20) = _ := hf 20
              have y21 : A.eval (.tmp 21) = _ := hf 21
              have y22 : A.eval (.tmp 22) = _ := hf 22
              have y23 : A.eval (.tmp 23) = _ := hf 23
              have y24 : A.eval (.tmp 24) = _ := hf 24
              have y25 : A.eval (.tmp 25) = _ := hf 25
              have y26 : A.eval (.tmp 26) = _ := hf 26
              have y27 : A.eval (.tmp 27) = _ := hf 27
              have y28 : A.eval (.tmp 28) = _ := hf 28
              have y29 : A.eval (.tmp 29) = _ := hf 29
              have y30 : A.eval (.tmp 30) = _ := hf 30
              have y31 : A.eval (.tmp 31) = _ := hf 31
              have y32 : A.eval (.tmp 32) = _ := hf 32
              have y33 : A.eval (.tmp 33) = _ := hf 33
              have y34 : A.eval (.tmp 34) = _ := hf 34
              have y35 : A.eval (.tmp 35) = _ := hf 35
              have y36 : A.eval (.tmp 36) = _ := hf 36
              have y37 : A.eval (.tmp 37) = _ := hf 37
              have y38 : A.eval (.tmp 38) = _ := hf 38
              have y39 : A.eval (.tmp 39) = _ := hf 39
              have y40 : A.eval (.tmp 40) = _ := hf 40
              have y41 : A.eval (.tmp 41) = _ := hf 41
              have y42 : A.eval (.tmp 42) = _ := hf 42
              have y43 : A.eval (.tmp 43) = _ := hf 43
              have y44 : A.eval (.tmp 44) = _ := hf 44
              have y45 : A.eval (.tmp 45) = _ := hf 45
              have y46 : A.eval (.tmp 46) = _ := hf 46
              have y47 : A.eval (.tmp 47) = _ := Eq.trans (hf 47) (by conv => lhs; simp [go_sem])
              have y48 : A.eval (.tmp 48) = _ := Eq.trans (hf 48) (by conv => lhs; simp [go_sem])
              have y49 : A.eval (.tmp 49) = _ := Eq.trans (hf 49) (by conv => lhs; simp [go_sem])
              clear hf
              have hA := frame_eq hn
              rw [show List.range 50 = [0, 1, 2, 3, 4, 5, 6, 7, 8, 9, 10, 11, 12, 13, 14, 15, 16, 17, 18, 19, 20, 21, 22, 23, 24, 25, 26, 27, 28, 29, 30, 31, 32, 33, 34, 35, 36, 37, 38, 39, 40, 41, 42, 43, 44, 45, 46, 47, 48, 49] from rfl, hd] at hA
              simp only [List.map_cons, List.map_nil, y0, y1, y2, y3, y4, y5, y6, y7, y8, y9, y10, y11, y12, y13, y14, y15, y16, y17, y18, y19, y20, y21, y22, y23, y24, y25, y26, y27, y28, y29, y30, y31, y32, y33, y34, y35, y36, y37, y38, y39, y40, y41, y42, y43, y44, y45, y46, y47, y48, y49] at hA
              clear y0 y1 y2 y3 y4 y5 y6 y7 y8 y9 y10 y11 y12 y13 y14 y15 y16 y17 y18 y19 y20 y21 y22 y23 y24 y25 y26 y27 y28 y29 y30 y31 y32 y33 y34 y35 y36 y37 y38 y39 y40 y41 y42 y43 y44 y45 y46 y47 y48 y49
              clear hn hd
              subst hA
              cases q with
              | true =>
                go_wp2_with fail
                go_roundw
                case rel =>
                  refine ⟨k + 1, by omega, by go_num, fun j hj => ?_, HW.out.trans (hC.mono HW.out.size)⟩
                  by_cases h : j < k
                  · exact HO.out j h
                  · obtain rfl : j = k := by omega
                    exact HA.out (HE.out.1 rfl)
                case measure => simp [intOf]; omega
              | false =>
                go_wp2_with fail
                go_ret
                exact ⟨by rw [HF.out (fun h => absurd (HE.out.2 h) (by decide))]; rfl, HB.out.trans ((HW.out.trans (hC.mono HW.out.size)).mono HB.out.size)⟩
          · obtain rfl : k = 0 := by omega
            have HA : Hid (EpOk y2 → EcAt ys 0) := fun he => ⟨by rw [HK.out]; simp only; omega, fun h => absurd h (Nat.lt_irrefl 0), by rw [HK.out]; exact he⟩
            have HF : Hid (¬ EpOk y2 → Q = false) := fun hne => (fin (fun h => hne (by have := h.2.2; rw [HK.out] at this; exact this))).out
            clear fin hk0 g3
            have kc : ∀ w', Below V1.heap.size V1 w' → w'.cell? ⟨wr.heap.size, 0, none⟩ = some (.int .i64 y1) ∧ w'.cell? ⟨wr.heap.size, 1, none⟩ = some (.int .i64 y2) := fun w' h =>
              ⟨by rw [h.cell (World.block_lt_of_cell? V1 _ d0)]; exact d0, by rw [h.cell (World.block_lt_of_cell? V1 _ d1)]; exact d1⟩
            refine wp_region_typed (C := fun w' => Below V1.heap.size V1 w') (X := fun w w' => Below w.heap.size w w') (n := 50) (by kernel_rfl) (by kernel_rfl) rfl (fun w => Below.refl _ w) (Below.refl _ _).drew ?_
            refine w_is (fun w => Below.refl _ w) _ (.inl rfl) (fun ρ w hC hc hfn hf => by have e4 : ρ (.tmp 4) = _ := hf 4 (by decide); (conv => lhs; simp [execOp, go_sem, hc, e4])) ?_
            refine w_is (fun w => Below.refl _ w) _ (.inl rfl) (fun ρ w hC hc hfn hf => by have e17 : ρ (.tmp 17) = _ := hf 17 (by decide); (conv => lhs; simp [execOp, go_sem, hc, e17, kc w hC])) ?_
            refine w_is (fun w => Below.refl _ w) _ (.inl rfl) (fun ρ w hC hc hfn hf => by have e18 : ρ (.tmp 18) = _ := hf 18 (by decide); (conv => lhs; simp [execOp, go_sem, hc, e18, g1])) ?_
            refine w_is (fun w => Below.refl _ w) _ (.inl rfl) (fun ρ w hC hc hfn hf => by have e19 : ρ (.tmp 19) = _ := hf 19 (by decide); (conv => lhs; simp [execOp, go_sem, hc, e19])) ?_
            refine w_is (fun w => Below.refl _ w) _ (.inr ⟨3, 20, false, rfl, rfl, known_is rfl⟩) (fun ρ w hC hc hfn hf => by have e4 : ρ (.tmp 4) = _ := hf 4 (by decide); (conv => lhs; simp [execOp, go_sem, hc, e4])) ?_
            refine w_is (fun w => Below.refl _ w) _ (.inr ⟨3, 20, false, rfl, rfl, known_is rfl⟩) (fun ρ w hC hc hfn hf => by have e21 : ρ (.tmp 21) = _ := hf 21 (by decide); (conv => lhs; simp [execOp, go_sem, hc, e21, kc w hC])) ?_
            refine w_is (fun w => Below.refl _ w) _ (.inr ⟨3, 20, false, rfl, rfl, known_is rfl⟩) (fun ρ w hC hc hfn hf => by have e22 : ρ (.tmp 22) = _ := hf 22 (by decide); (conv => lhs; simp [execOp, go_sem, hc, e22, g2])) ?_
            refine w_is (fun w => Below.refl _ w) _ (.inl rfl) (fun ρ w hC hc hfn hf => by have e20 : ρ (.tmp 20) = _ := hf 20 (by decide); have e23 : ρ (.tmp 23) = _ := hf 23 (by decide); (conv => lhs; simp [execOp, go_sem, hc, e20, e23])) ?_
            refine w_is (fun w => Below.refl _ w) _ (.inl rfl) (fun ρ w hC hc hfn hf => by have e24 : ρ (.tmp 24) = _ := hf 24 (by decide); (conv => lhs; simp [execOp, go_sem, hc, e24])) ?_
            refine w_is (fun w => Below.refl _ w) _ (.inr ⟨8, 25, false, rfl, rfl, known_is rfl⟩) (fun ρ w hC hc hfn hf => by have e3 : ρ (.tmp 3) = _ := hf 3 (by decide); (conv => lhs; simp [execOp, go_sem, hc, e3])) ?_
            refine w_is (fun w => Below.refl _ w) _ (.inr ⟨8, 25, false, rfl, rfl, known_is rfl⟩) (fun ρ w hC hc hfn hf => by have e26 : ρ (.tmp 26) = _ := hf 26 (by decide); (conv => lhs; simp [execOp, go_sem, hc, e26])) ?_
            refine w_is (fun w => Below.refl _ w) _ (.inr ⟨8, 25, false, rfl, rfl, known_is rfl⟩) (fun ρ w hC hc hfn hf => by have e27 : ρ (.tmp 27) = _ := hf 27 (by decide); (conv => lhs; simp [execOp, go_sem, hc, e27])) ?_
            refine w_skip rfl rfl (known_is rfl) ?_
            refine w_skip rfl rfl (known_is rfl) ?_
            refine w_skip rfl rfl (known_is rfl) ?_
            refine w_skip rfl rfl (known_is rfl) ?_
            refine w_skip rfl rfl (known_is rfl) ?_
            refine w_skip rfl rfl (known_is rfl) ?_
            refine w_skip rfl rfl (known_is rfl) ?_
            refine w_skip rfl rfl (known_is rfl) ?_
            refine w_skip rfl rfl (known_is rfl) ?_
            refine w_skip rfl rfl (known_is rfl) ?_
            refine w_is (fun w => Below.refl _ w) _ (.inr ⟨8, 25, false, rfl, rfl, known_is rfl⟩) (fun ρ w hC hc hfn hf => by have e28 : ρ (.tmp 28) = _ := hf 28 (by decide); have e38 : ρ (.tmp 38) = _ := hf 38 (by decide); (conv => lhs; simp [execOp, go_sem, hc, e28, e38])) ?_
            refine w_is (fun w => Below.refl _ w) _ (.inl rfl) (fun ρ w hC hc hfn hf => by have e25 : ρ (.tmp 25) = _ := hf 25 (by decide); have e39 : ρ (.tmp 39) = _ := hf 39 (by decide); (conv => lhs; simp [execOp, go_sem, hc, e25, e39])) ?_
            refine w_is (fun w => Below.refl _ w) _ (.inl rfl) (fun ρ w hC hc hfn hf => by have e40 : ρ (.tmp 40) = _ := hf 40 (by decide); (conv => lhs; simp [execOp, go_sem, hc, e40])) ?_
            refine w_is (fun w => Below.refl _ w) _ (.inr ⟨24, 41, false, rfl, rfl, known_is rfl⟩) (fun ρ w hC hc hfn hf => by have e4 : ρ (.tmp 4) = _ := hf 4 (by decide); (conv => lhs; simp [execOp, go_sem, hc, e4])) ?_
            refine w_is (fun w => Below.refl _ w) _ (.inr ⟨24, 41, false, rfl, rfl, known_is rfl⟩) (fun ρ w hC hc hfn hf => by have e42 : ρ (.tmp 42) = _ := hf 42 (by decide); (conv => lhs; simp [execOp, go_sem, hc, e42, kc w hC])) ?_
            refine w_call (Is _) (fun _ _ _ h _ => h) 28 (.inr ⟨24, 41, false, rfl, rfl, known_is rfl⟩) (fun ρ w hC hc hfn hf => by have e43 : ρ (.tmp 43) = _ := hf 43 (by decide); exact ⟨_, by (conv => lhs; simp [execOp, resolve, invoke, go_sem, hc, hfn, e43]), tc_same hC (cE w)⟩) ?_
            refine w_is (fun w => Below.refl _ w) _ (.inr ⟨24, 41, false, rfl, rfl, known_is rfl⟩) (fun ρ w hC hc hfn hf => by have e44 : ρ (.tmp 44) = _ := hf 44 (by decide); (conv => lhs; simp [execOp, go_sem, hc, e44])) ?_
            refine w_is (fun w => Below.refl _ w) _ (.inl rfl) (fun ρ w hC hc hfn hf => by have e41 : ρ (.tmp 41) = _ := hf 41 (by decide); have e45 : ρ (.tmp 45) = _ := hf 45 (by decide); (conv => lhs; simp [execOp, go_sem, hc, e41, e45])) ?_
            intro A V5 hC hn hd hf
            have y0 : A.eval (.tmp 0) = _ := Eq.trans (hf 0) (by conv => lhs; simp [go_sem])
            have y1 : A.eval (.tmp 1) = _ := Eq.trans (hf 1) (by conv => lhs; simp [go_sem])
            have y2 : A.eval (.tmp 2) = _ := Eq.trans (hf 2) (by conv => lhs; simp [go_sem])
            have y3 : A.eval (.tmp 3) = _ := Eq.trans (hf 3) (by conv => lhs; simp [go_sem])
            have y4 : A.eval (.tmp 4) = _ := Eq.trans (hf 4) (by conv => lhs; simp [go_sem])
            have y5 : A.eval (.tmp 5) = _ := Eq.trans (hf 5) (by conv => lhs; simp [go_sem])
            have y6 : A.eval (.tmp 6) = _ := Eq.trans (hf 6) (by conv => lhs; simp [go_sem])
            have y7 : A.eval (.tmp 7) = _ := Eq.trans (hf 7) (by conv => lhs; simp [go_sem])
            have y8 : A.eval (.tmp 8) = _ := Eq.trans (hf 8) (by conv => lhs; simp [go_sem])
            have y9 : A.eval (.tmp 9) = _ := Eq.trans (hf 9) (by conv => lhs; simp [go_sem])
            have y10 : A.eval (.tmp 10) = _ := Eq.trans (hf 10) (by conv => lhs; simp [go_sem])
            have y11 : A.eval (.tmp 11) = _ := Eq.trans (hf 11) (by conv => lhs; simp [go_sem])
            have y12 : A.eval (.tmp 12) = _ := Eq.trans (hf 12) (by conv => lhs; simp [go_sem])
            have y13 : A.eval (.tmp 13) = _ := Eq.trans (hf 13) (by conv => lhs; simp [go_sem])
            have y14 : A.eval (.tmp 14) = _ := Eq.trans (hf 14) (by conv => lhs; simp [go_sem])
            have y15 : A.eval (.tmp 15) = _ := Eq.trans (hf 15) (by conv => lhs; simp [go_sem])
            have y16 : A.eval (.tmp 16) = _ := Eq.trans (hf 16) (by conv => lhs; simp [go_sem])
            have y17 : A.eval (.tmp 17) = _ := hf 17
            have y18 : A.eval (.tmp 18) = _ := hf 18
            have y19 : A.eval (.tmp 19) = _ := hf 19
            have y20 : A.eval (.tmp 20) = _ := hf 20
            have y21 : A.eval (.tmp 21) = _ := hf 21
            have y22 : A.eval (.tmp 22) = _ := hf 22
            have y23 : A.eval (.tmp 23) = _ := hf 23
            have y24 : A.eval (.tmp 24) = _ := hf 24
            have y25 : A.eval (.tmp 25) = _ := hf 25
            have y26 : A.eval (.tmp 26) = _ := hf 26
            have y27 : A.eval (.tmp 27) = _ := hf 27
            have y28 : A.eval (.tmp 28) = _ := hf 28
            have y29 : A.eval (.tmp 29) = _ := hf 29
            have y30 : A.eval (.tmp 30) = _ := hf 30
            have y31 : A.eval (.tmp 31) = _ := hf 31
            have y32 : A.eval (.tmp 32) = _ := hf 32
            have y33 : A.eval (.tmp 33) = _ := hf 33
            have y34 : A.eval (.tmp 34) = _ := hf 34
            have y35 : A.eval (.tmp 35) = _ := hf 35
            have y36 : A.eval (.tmp 36) = _ := hf 36
            have y37 : A.eval (.tmp 37) = _ := hf 37
            have y38 : A.eval (.tmp 38) = _ := hf 38
            have y39 : A.eval (.tmp 39) = _ := hf 39
            have y40 : A.eval (.tmp 40) = _ := hf 40
            have y41 : A.eval (.tmp 41) = _ := hf 41
            have y42 : A.eval (.tmp 42) = _ := hf 42
            have y43 : A.eval (.tmp 43) = _ := hf 43
            have y44 : A.eval (.tmp 44) = _ := hf 44
            have y45 : A.eval (.tmp 45) = _ := hf 45
            have y46 : A.eval (.tmp 46) = _ := hf 46
            have y47 : A.eval (.tmp 47) = _ := Eq.trans (hf 47) (by conv => lhs; simp [go_sem])
            have y48 : A.eval (.tmp 48) = _ := Eq.trans (hf 48) (by conv => lhs; simp [go_sem])
            have y49 : A.eval (.tmp 49) = _ := Eq.trans (hf 49) (by conv => lhs; simp [go_sem])
            clear hf
            have hA := frame_eq hn
            rw [show List.range 50 = [0, 1, 2, 3, 4, 5, 6, 7, 8, 9, 10, 11, 12, 13, 14, 15, 16, 17, 18, 19, 20, 21, 22, 23, 24, 25, 26, 27, 28, 29, 30, 31, 32, 33, 34, 35, 36, 37, 38, 39, 40, 41, 42, 43, 44, 45, 46, 47, 48, 49] from rfl, hd] at hA
            simp only [List.map_cons, List.map_nil, y0, y1, y2, y3, y4, y5, y6, y7, y8, y9, y10, y11, y12, y13, y14, y15, y16, y17, y18, y19, y20, y21, y22, y23, y24, y25, y26, y27, y28, y29, y30, y31, y32, y33, y34, y35, y36, y37, y38, y39, y40, y41, y42, y43, y44, y45, y46, y47, y48, y49] at hA
            clear y0 y1 y2 y3 y4 y5 y6 y7 y8 y9 y10 y11 y12 y13 y14 y15 y16 y17 y18 y19 y20 y21 y22 y23 y24 y25 y26 y27 y28 y29 y30 y31 y32 y33 y34 y35 y36 y37 y38 y39 y40 y41 y42 y43 y44 y45 y46 y47 y48 y49
            clear hn hd
            subst hA
            cases q with
            | true =>
              go_wp2_with fail
              go_roundw
              case rel =>
                refine ⟨1, by omega, by go_num, fun j hj => ?_, HW.out.trans (hC.mono HW.out.size)⟩
                obtain rfl : j = 0 := by omega
                exact HA.out (HE.out.1 rfl)
              case measure => simp [intOf]; omega
            | false =>
              go_wp2_with fail
              go_ret
              exact ⟨by rw [HF.out (fun h => absurd (HE.out.2 h) (by decide))]; rfl, HB.out.trans ((HW.out.trans (hC.mono HW.out.size)).mono HB.out.size)⟩
    · obtain rfl : k = ys.length := by omega
      obtain ⟨q, hq⟩ : ∃ q : Bool, q = true ↔ EpOk M := ⟨decide (EpOk M), decide_eq_true_iff⟩
      have HE : Hid (Q = q) := by
        have h1 := HQ.out
        unfold BeOk at h1
        show Q = q
        rw [Bool.eq_iff_iff, h1, hq]
        exact ⟨fun h => h.2, fun h => ⟨HO.out, h⟩⟩
      have cE := fun w => repoch_fix M q hq w
      clear hq
      go_wp2_with fail
      refine (cE _).mono ?_
      rintro e w1 ⟨rfl, hw⟩
      subst hw
      go_wp2_with fail
      go_ret
      exact ⟨by rw [HE.out]; rfl, HB.out.trans (HW.out.mono HB.out.size)⟩
end Go.Proofs.Ytcddicaebecneaa

