/- Which rows of acks are right: the reference's Right. No conditions but on lengths. -/
import Derived.Test.YtipdjfgaenoepaaAkt
import Derived.Test.YtipdjfgaenoepaaTyp2
namespace Go.Proofs.Ytipdjfgaenoepaa
set_option maxRecDepth 100000
open Go.RowKit

/-- An ack that may stand there. -/
def AkAt (ys : List (Int × Int × Int × Int)) (i : Nat) : Prop := AkOne (ys.getD i (0, 0, 0, 0)) ∧ (0 < i → (ys.getD (i - 1) (0, 0, 0, 0)).1 < (ys.getD i (0, 0, 0, 0)).1)
instance (ys : List (Int × Int × Int × Int)) (i : Nat) : Decidable (AkAt ys i) := by unfold AkAt; infer_instance
/-- A row of acks that is right. -/
def AksOk (ys : List (Int × Int × Int × Int)) : Prop := (∀ i, i < ys.length → AkAt ys i) ∧ 1 ≤ ys.length ∧ ys.length ≤ 64
instance (ys : List (Int × Int × Int × Int)) : Decidable (AksOk ys) := by unfold AksOk; infer_instance
set_option maxHeartbeats 32000000 in
theorem raright_fix (v : Value) (ys : List (Int × Int × Int × Int)) (Q : Bool) (hQ : Q = true ↔ AksOk ys) (w : World) (hy : As w v ys) (hl : ys.length ≤ 3000) :
    Calls Try.prog 15 #[v] w fun e w' => e = .returned (.bool Q) ∧ Below w.heap.size w w' := by
  obtain ⟨a, c, rfl⟩ := hy.form
  have HQ := Lib.hid hQ
  have HY := Lib.hid hy
  clear hy hQ
  go_enter Try.func15, Try.ntmps15
  go_wp2_with fail
  go_loopw [3] (fun i wr => ∃ k : Nat, k ≤ ys.length ∧ i = .int .i64 k ∧ (∀ i, i < k → AkAt ys i) ∧ Below w.heap.size w wr) (fun i _ => ys.length - (intOf i).toNat)
  case atStart => exact ⟨0, Nat.zero_le _, rfl, fun i h => absurd h (Nat.not_lt_zero _), Below.refl _ _⟩
  case round =>
    obtain ⟨k, hk, rfl, hok, hbel⟩ := hrel
    have HO := Lib.hid hok
    have HW := Lib.hid hbel
    clear hok hbel
    by_cases hlt : k < ys.length
    · have YV := Lib.hid (HY.out.below HW.out)
      obtain ⟨b, off, rfl, hB, p0⟩ := YV.out.at hlt
      obtain ⟨⟨y1, y2, y3, y4⟩, hyk⟩ : ∃ y, ys.getD k (0, 0, 0, 0) = y := ⟨_, rfl⟩
      rw [hyk] at p0
      have P0 := Lib.hid p0
      have HK := Lib.hid hyk
      clear hyk p0
      go_wp2_with fail
      obtain ⟨q, hq⟩ : ∃ q : Bool, q = true ↔ AkOne (y1, y2, y3, y4) := ⟨decide (AkOne (y1, y2, y3, y4)), decide_eq_true_iff⟩
      have cE := fun w => rone_fix y1 y2 y3 y4 q hq w
      have HE := Lib.hid hq
      clear hq
      have fin : ¬ AkAt ys k → Hid (Q = false) := fun h => by
        cases hq : Q with
        | false => rfl
        | true => exact absurd ((HQ.out.1 hq).1 k hlt) h
      cases q with
      | false =>
        have F := fin (fun h => by have h2 := h.1; rw [HK.out] at h2; exact absurd (HE.out.2 h2) (by decide))
        clear fin
        have kc : ∀ w', Below wr.heap.size wr w' → Cells4 w' b (off + k * 4) (y1, y2, y3, y4) := fun w' h => P0.out.below h
        simp only [Cells4] at kc
        refine wp_region_typed (C := fun w' => Below wr.heap.size wr w') (X := fun w w' => Below w.heap.size w w') (n := 42) (by kernel_rfl) (by kernel_rfl) rfl (fun w => Below.refl _ w) (Below.refl _ _).drew ?_
        refine w_is (fun w => Below.refl _ w) _ (.inl rfl) (fun ρ w hC hc hfn hf => by have e0 : ρ (.tmp 0) = _ := hf 0 (by decide); (conv => lhs; simp [execOp, go_sem, hc, e0])) ?_
        refine w_is (fun w => Below.refl _ w) _ (.inl rfl) (fun ρ w hC hc hfn hf => by have e3 : ρ (.tmp 3) = _ := hf 3 (by decide); (conv => lhs; simp [execOp, go_sem, hc, e3])) ?_
        refine w_is (fun w => Below.refl _ w) _ (.inl rfl) (fun ρ w hC hc hfn hf => by have e10 : ρ (.tmp 10) = _ := hf 10 (by decide); have e11 : ρ (.tmp 11) = _ := hf 11 (by decide); (conv => lhs; simp [execOp, go_sem, hc, e10, e11, hlt])) ?_
        refine w_is (fun w => Below.refl _ w) _ (.inl rfl) (fun ρ w hC hc hfn hf => by have e12 : ρ (.tmp 12) = _ := hf 12 (by decide); (conv => lhs; simp [execOp, go_sem, hc, e12, kc w hC])) ?_
        refine w_call (Is _) (fun _ _ _ h _ => h) 32 (.inl rfl) (fun ρ w hC hc hfn hf => by have e13 : ρ (.tmp 13) = _ := hf 13 (by decide); exact ⟨_, by (conv => lhs; simp [execOp, resolve, invoke, go_sem, hc, hfn, e13]), tc_below hC (cE w)⟩) ?_
        refine w_is (fun w => Below.refl _ w) _ (.inl rfl) (fun ρ w hC hc hfn hf => by have e14 : ρ (.tmp 14) = _ := hf 14 (by decide); (conv => lhs; simp [execOp, go_sem, hc, e14])) ?_
        refine w_is (fun w => Below.refl _ w) _ (.inl rfl) (fun ρ w hC hc hfn hf => by have e15 : ρ (.tmp 15) = _ := hf 15 (by decide); (conv => lhs; simp [execOp, go_sem, hc, e15])) ?_
        refine w_skip rfl rfl (known_is rfl) ?_
        refine w_skip rfl rfl (known_is rfl) ?_
        refine w_skip rfl rfl (known_is rfl) ?_
        refine w_skipU rfl rfl (known_is rfl) ?_
        refine w_skipU rfl rfl (known_is rfl) ?_
        refine w_skipU rfl rfl (known_is rfl) ?_
        refine w_skipU rfl rfl (known_is rfl) ?_
        refine w_skipU rfl rfl (known_is rfl) ?_
        refine w_skipU rfl rfl (known_is rfl) ?_
        refine w_skipU rfl rfl (known_is rfl) ?_
        refine w_skipU rfl rfl (known_is rfl) ?_
        refine w_skipU rfl rfl (known_is rfl) ?_
        refine w_skipU rfl rfl (known_is rfl) ?_
        refine w_skipU rfl rfl (known_is rfl) ?_
        refine w_skipU rfl rfl (known_is rfl) ?_
        refine w_skip rfl rfl (known_is rfl) ?_
        refine w_is (fun w => Below.refl _ w) _ (.inl rfl) (fun ρ w hC hc hfn hf => by have e16 : ρ (.tmp 16) = _ := hf 16 (by decide); have e32 : ρ (.tmp 32) = _ := hf 32 (by decide); (conv => lhs; simp [execOp, go_sem, hc, e16, e32])) ?_
        intro A V5 hC hn hd hf
        have y0 : A.eval (.tmp 0) = _ := Eq.trans (hf 0) (by conv => lhs; simp [go_sem])
        have y1 : A.eval (.tmp 1) = _ := Eq.trans (hf 1) (by conv => lhs; simp [go_sem])
        have y2 : A.eval (.tmp 2) = _ := Eq.trans (hf 2) (by conv => lhs; simp [go_sem])
        have y3 : A.eval (.tmp 3) = _ := Eq.trans (hf 3) (by conv => lhs; simp [go_sem])
        have y4 : A.eval (.tmp 4) = _ := Eq.trans (hf 4) (by conv => lhs; simp [go_sem])
        have y5 : A.eval (.tmp 5) = _ := Eq.trans (hf 5) (by conv => lhs; simp [go_sem])
        have y6 : A.eval (.tmp 6) = _ := Eq.trans (hf 6) (by conv => lhs; simp [go_sem])
        have y7 : A.eval (.tmp 7) = _ := Eq.trans (hf 7) (by conv => lhs; simp [go_sem])
        have y8 : A.eval (.tmp 8) = _ := Eq.trans (hf 8) (by conv => lhs; simp [go_sem])
        have y9 : A.eval (.tmp 9) = _ := Eq.trans (hf 9) (by conv => lhs; simp [go_sem])
        have y10 : A.eval (.tmp 10) = _ := hf 10
        have y11 : A.eval (.tmp 11) = _ := hf 11
        have y12 : A.eval (.tmp 12) = _ := hf 12
        have y13 : A.eval (.tmp 13) = _ := hf 13
        have y14 : A.eval (.tmp 14) = _ := hf 14
        have y15 : A.eval (.tmp 15) = _ := hf 15
        have y16 : A.eval (.tmp 16) = _ := hf 16
        have y17 : A.eval (.tmp 17) = _ := hf 17
        have y18 : A.eval (.tmp 18) = _ := hf 18
        have y19 : A.eval (.tmp 19) = _ := hf 19
        have y20 : A.eval (.tmp 20) = _ := hf 20
        have y21 : A.eval (.tmp 21) = _ := hf 21
        have y22 : A.eval (.tmp 22) = _ := hf 22
        have y23 : A.eval (.tmp 23) = _ := hf 23
        have y24 : A.eval (.tmp 24) = _ := hf 24
        have y25 : A.eval (.tmp 25) = _ := hf 25
        have y26 : A.eval (.tmp 26) = _ := hf 26
        have y27 : A.eval (.tmp 27) = _ := hf 27
        have y28 : A.eval (.tmp 28) = _ := hf 28
        have y29 : A.eval (.tmp 29) = _ := hf 29
        have y30 : A.eval (.tmp 30) = _ := hf 30
        have y31 : A.eval (.tmp 31) = _ := hf 31
        have y32 : A.eval (.tmp 32) = _ := hf 32
        have y33 : A.eval (.tmp 33) = _ := hf 33
        have y34 : A.eval (.tmp 34) = _ := Eq.trans (hf 34) (by conv => lhs; simp [go_sem])
        have y35 : A.eval (.tmp 35) = _ := Eq.trans (hf 35) (by conv => lhs; simp [go_sem])
        have y36 : A.eval (.tmp 36) = _ := Eq.trans (hf 36) (by conv => lhs; simp [go_sem])
        have y37 : A.eval (.tmp 37) = _ := Eq.trans (hf 37) (by conv => lhs; simp [go_sem])
        have y38 : A.eval (.tmp 38) = _ := Eq.trans (hf 38) (by conv => lhs; simp [go_sem])
        have y39 : A.eval (.tmp 39) = _ := Eq.trans (hf 39) (by conv => lhs; simp [go_sem])
        have y40 : A.eval (.tmp 40) = _ := Eq.trans (hf 40) (by conv => lhs; simp [go_sem])
        have y41 : A.eval (.tmp 41) = _ := Eq.trans (hf 41) (by conv => lhs; simp [go_sem])
        clear hf
        have hA := frame_eq hn
        rw [show List.range 42 = [0, 1, 2, 3, 4, 5, 6, 7, 8, 9, 10, 11, 12, 13, 14, 15, 16, 17, 18, 19, 20, 21, 22, 23, 24, 25, 26, 27, 28, 29, 30, 31, 32, 33, 34, 35, 36, 37, 38, 39, 40, 41] from rfl, hd] at hA
        simp only [List.map_cons, List.map_nil, y0, y1, y2, y3, y4, y5, y6, y7, y8, y9, y10, y11, y12, y13, y14, y15, y16, y17, y18, y19, y20, y21, y22, y23, y24, y25, y26, y27, y28, y29, y30, y31, y32, y33, y34, y35, y36, y37, y38, y39, y40, y41] at hA
        clear y0 y1 y2 y3 y4 y5 y6 y7 y8 y9 y10 y11 y12 y13 y14 y15 y16 y17 y18 y19 y20 y21 y22 y23 y24 y25 y26 y27 y28 y29 y30 y31 y32 y33 y34 y35 y36 y37 y38 y39 y40 y41
        clear hn hd
        subst hA
        go_wp2_with fail
        go_ret
        exact ⟨by rw [F.out]; rfl, HW.out.trans (hC.mono HW.out.size)⟩
      | true =>
        by_cases g3 : 0 < k
        · have hkm : k - 1 < ys.length := by omega
          obtain ⟨hB9, r0⟩ := YV.out.all hkm
          obtain ⟨⟨z1, z2, z3, z4⟩, hzk⟩ : ∃ z, ys.getD (k - 1) (0, 0, 0, 0) = z := ⟨_, rfl⟩
          rw [hzk] at r0
          have R0 := Lib.hid r0
          have HZ := Lib.hid hzk
          clear hzk r0
          have hk1 : (1 : Int) ≤ (k : Int) := by omega
          have hk2 : (k : Int) - 1 < (ys.length : Int) := by omega
          have hkn : ((k : Int) - 1).toNat = k - 1 := by omega
          have hkw : IntKind.i64.wrap ((k : Int) - 1) = (k : Int) - 1 := by rw [IntKind.wrap_i64]; omega
          have kc : ∀ w', Below wr.heap.size wr w' → Cells4 w' b (off + k * 4) (y1, y2, y3, y4) ∧ w'.cell? ⟨b, off + (k - 1) * 4, none⟩ = some (.int .i64 z1) := fun w' h => ⟨P0.out.below h, (R0.out.below h).1⟩
          simp only [Cells4] at kc
          by_cases g4 : y1 ≤ z1
          · have F := fin (fun h => by have h2 := h.2 g3; rw [HK.out, HZ.out] at h2; simp only at h2; omega)
            clear fin
            refine wp_region_typed (C := fun w' => Below wr.heap.size wr w') (X := fun w w' => Below w.heap.size w w') (n := 42) (by kernel_rfl) (by kernel_rfl) rfl (fun w => Below.refl _ w) (Below.refl _ _).drew ?_
            refine w_is (fun w => Below.refl _ w) _ (.inl rfl) (fun ρ w hC hc hfn hf => by have e0 : ρ (.tmp 0) = _ := hf 0 (by decide); (conv => lhs; simp [execOp, go_sem, hc, e0])) ?_
            refine w_is (fun w => Below.refl _ w) _ (.inl rfl) (fun ρ w hC hc hfn hf => by have e3 : ρ (.tmp 3) = _ := hf 3 (by decide); (conv => lhs; simp [execOp, go_sem, hc, e3])) ?_
            refine w_is (fun w => Below.refl _ w) _ (.inl rfl) (fun ρ w hC hc hfn hf => by have e10 : ρ (.tmp 10) = _ := hf 10 (by decide); have e11 : ρ (.tmp 11) = _ := hf 11 (by decide); (conv => lhs; simp [execOp, go_sem, hc, e10, e11, hlt])) ?_
            refine w_is (fun w => Below.refl _ w) _ (.inl rfl) (fun ρ w hC hc hfn hf => by have e12 : ρ (.tmp 12) = _ := hf 12 (by decide); (conv => lhs; simp [execOp, go_sem, hc, e12, kc w hC])) ?_
            refine w_call (Is _) (fun _ _ _ h _ => h) 32 (.inl rfl) (fun ρ w hC hc hfn hf => by have e13 : ρ (.tmp 13) = _ := hf 13 (by decide); exact ⟨_, by (conv => lhs; simp [execOp, resolve, invoke, go_sem, hc, hfn, e13]), tc_below hC (cE w)⟩) ?_
            refine w_is (fun w => Below.refl _ w) _ (.inl rfl) (fun ρ w hC hc hfn hf => by have e14 : ρ (.tmp 14) = _ := hf 14 (by decide); (conv => lhs; simp [execOp, go_sem, hc, e14])) ?_
            refine w_is (fun w => Below.refl _ w) _ (.inl rfl) (fun ρ w hC hc hfn hf => by have e15 : ρ (.tmp 15) = _ := hf 15 (by decide); (conv => lhs; simp [execOp, go_sem, hc, e15])) ?_
            refine w_is (fun w => Below.refl _ w) _ (.inr ⟨6, 16, false, rfl, rfl, known_is rfl⟩) (fun ρ w hC hc hfn hf => by have e3 : ρ (.tmp 3) = _ := hf 3 (by decide); (conv => lhs; simp [execOp, go_sem, hc, e3])) ?_
            refine w_is (fun w => Below.refl _ w) _ (.inr ⟨6, 16, false, rfl, rfl, known_is rfl⟩) (fun ρ w hC hc hfn hf => by have e17 : ρ (.tmp 17) = _ := hf 17 (by decide); (conv => lhs; simp [execOp, go_sem, hc, e17, g3])) ?_
            refine w_is (fun w => Below.refl _ w) _ (.inr ⟨6, 16, false, rfl, rfl, known_is rfl⟩) (fun ρ w hC hc hfn hf => by have e18 : ρ (.tmp 18) = _ := hf 18 (by decide); (conv => lhs; simp [execOp, go_sem, hc, e18])) ?_
            refine w_is (fun w => Below.refl _ w) _ (.inr ⟨9, 19, true, rfl, rfl, known_is rfl⟩) (fun ρ w hC hc hfn hf => by have e0 : ρ (.tmp 0) = _ := hf 0 (by decide); (conv => lhs; simp [execOp, go_sem, hc, e0])) ?_
            refine w_is (fun w => Below.refl _ w) _ (.inr ⟨9, 19, true, rfl, rfl, known_is rfl⟩) (fun ρ w hC hc hfn hf => by have e3 : ρ (.tmp 3) = _ := hf 3 (by decide); (conv => lhs; simp [execOp, go_sem, hc, e3])) ?_
            refine w_is (fun w => Below.refl _ w) _ (.inr ⟨9, 19, true, rfl, rfl, known_is rfl⟩) (fun ρ w hC hc hfn hf => by have e21 : ρ (.tmp 21) = _ := hf 21 (by decide); (conv => lhs; simp [execOp, go_sem, hc, e21])) ?_
            refine w_is (fun w => Below.refl _ w) _ (.inr ⟨9, 19, true, rfl, rfl, known_is rfl⟩) (fun ρ w hC hc hfn hf => by have e20 : ρ (.tmp 20) = _ := hf 20 (by decide); have e22 : ρ (.tmp 22) = _ := hf 22 (by decide); (conv => lhs; simp [execOp, go_sem, hc, e20, e22, hkw, hk1, hk2, hkn])) ?_
            refine w_is (fun w => Below.refl _ w) _ (.inr ⟨9, 19, true, rfl, rfl, known_is rfl⟩) (fun ρ w hC hc hfn hf => by have e23 : ρ (.tmp 23) = _ := hf 23 (by decide); (conv => lhs; simp [execOp, go_sem, hc, e23])) ?_
            refine w_is (fun w => Below.refl _ w) _ (.inr ⟨9, 19, true, rfl, rfl, known_is rfl⟩) (fun ρ w hC hc hfn hf => by have e24 : ρ (.tmp 24) = _ := hf 24 (by decide); (conv => lhs; simp [execOp, go_sem, hc, e24, kc w hC])) ?_
            refine w_is (fun w => Below.refl _ w) _ (.inr ⟨9, 19, true, rfl, rfl, known_is rfl⟩) (fun ρ w hC hc hfn hf => by have e0 : ρ (.tmp 0) = _ := hf 0 (by decide); (conv => lhs; simp [execOp, go_sem, hc, e0])) ?_
            refine w_is (fun w => Below.refl _ w) _ (.inr ⟨9, 19, true, rfl, rfl, known_is rfl⟩) (fun ρ w hC hc hfn hf => by have e3 : ρ (.tmp 3) = _ := hf 3 (by decide); (conv => lhs; simp [execOp, go_sem, hc, e3])) ?_
            refine w_is (fun w => Below.refl _ w) _ (.inr ⟨9, 19, true, rfl, rfl, known_is rfl⟩) (fun ρ w hC hc hfn hf => by have e26 : ρ (.tmp 26) = _ := hf 26 (by decide); have e27 : ρ (.tmp 27) = _ := hf 27 (by decide); (conv => lhs; simp [execOp, go_sem, hc, e26, e27, hlt])) ?_
            refine w_is (fun w => Below.refl _ w) _ (.inr ⟨9, 19, true, rfl, rfl, known_is rfl⟩) (fun ρ w hC hc hfn hf => by have e28 : ρ (.tmp 28) = _ := hf 28 (by decide); (conv => lhs; simp [execOp, go_sem, hc, e28])) ?_
            refine w_is (fun w => Below.refl _ w) _ (.inr ⟨9, 19, true, rfl, rfl, known_is rfl⟩) (fun ρ w hC hc hfn hf => by have e29 : ρ (.tmp 29) = _ := hf 29 (by decide); (conv => lhs; simp [execOp, go_sem, hc, e29, kc w hC])) ?_
            refine w_is (fun w => Below.refl _ w) _ (.inr ⟨9, 19, true, rfl, rfl, known_is rfl⟩) (fun ρ w hC hc hfn hf => by have e25 : ρ (.tmp 25) = _ := hf 25 (by decide); have e30 : ρ (.tmp 30) = _ := hf 30 (by decide); (conv => lhs; simp [execOp, go_sem, hc, e25, e30, g4])) ?_
            refine w_is (fun w => Below.refl _ w) _ (.inr ⟨6, 16, false, rfl, rfl, known_is rfl⟩) (fun ρ w hC hc hfn hf => by have e19 : ρ (.tmp 19) = _ := hf 19 (by decide); have e31 : ρ (.tmp 31) = _ := hf 31 (by decide); (conv => lhs; simp [execOp, go_sem, hc, e19, e31])) ?_
            refine w_is (fun w => Below.refl _ w) _ (.inl rfl) (fun ρ w hC hc hfn hf => by have e16 : ρ (.tmp 16) = _ := hf 16 (by decide); have e32 : ρ (.tmp 32) = _ := hf 32 (by decide); (conv => lhs; simp [execOp, go_sem, hc, e16, e32])) ?_
            intro A V5 hC hn hd hf
            have y0 : A.eval (.tmp 0) = _ := Eq.trans (hf 0) (by conv => lhs; simp [go_sem])
            have y1 : A.eval (.tmp 1) = _ := Eq.trans (hf 1) (by conv => lhs; simp [go_sem])
            have y2 : A.eval (.tmp 2) = _ := Eq.trans (hf 2) (by conv => lhs; simp [go_sem])
            have y3 : A.eval (.tmp 3) = _ := Eq.trans (hf 3) (by conv => lhs; simp [go_sem])
            have y4 : A.eval (.tmp 4) = _ := Eq.trans (hf 4) (by conv => lhs; simp [go_sem])
            have y5 : A.eval (.tmp 5) = _ := Eq.trans (hf 5) (by conv => lhs; simp [go_sem])
            have y6 : A.eval (.tmp 6) = _ := Eq.trans (hf 6) (by conv => lhs; simp [go_sem])
            have y7 : A.eval (.tmp 7) = _ := Eq.trans (hf 7) (by conv => lhs; simp [go_sem])
            have y8 : A.eval (.tmp 8) = _ := Eq.trans (hf 8) (by conv => lhs; simp [go_sem])
            have y9 : A.eval (.tmp 9) = _ := Eq.trans (hf 9) (by conv => lhs; simp [go_sem])
            have y10 : A.eval (.tmp 10) = _ := hf 10
            have y11 : A.eval (.tmp 11) = _ := hf 11
            have y12 : A.eval (.tmp 12) = _ := hf 12
            have y13 : A.eval (.tmp 13) = _ := hf 13
            have y14 : A.eval (.tmp 14) = _ := hf 14
            have y15 : A.eval (.tmp 15) = _ := hf 15
            have y16 : A.eval (.tmp 16) = _ := hf 16
            have y17 : A.eval (.tmp 17) = _ := hf 17
            have y18 : A.eval (.tmp 18) = _ := hf 18
            have y19 : A.eval (.tmp 19) = _ := hf 19
            have y20 : A.eval (.tmp 20) = _ := hf 20
            have y21 : A.eval (.tmp 21) = _ := hf 21
            have y22 : A.eval (.tmp 22) = _ := hf 22
            have y23 : A.eval (.tmp 23) = _ := hf 23
            have y24 : A.eval (.tmp 24) = _ := hf 24
            have y25 : A.eval (.tmp 25) = _ := hf 25
            have y26 : A.eval (.tmp 26) = _ := hf 26
            have y27 : A.eval (.tmp 27) = _ := hf 27
            have y28 : A.eval (.tmp 28) = _ := hf 28
            have y29 : A.eval (.tmp 29) = _ := hf 29
            have y30 : A.eval (.tmp 30) = _ := hf 30
            have y31 : A.eval (.tmp 31) = _ := hf 31
            have y32 : A.eval (.tmp 32) = _ := hf 32
            have y33 : A.eval (.tmp 33) = _ := hf 33
            have y34 : A.eval (.tmp 34) = _ := Eq.trans (hf 34) (by conv => lhs; simp [go_sem])
            have y35 : A.eval (.tmp 35) = _ := Eq.trans (hf 35) (by conv => lhs; simp [go_sem])
            have y36 : A.eval (.tmp 36) = _ := Eq.trans (hf 36) (by conv => lhs; simp [go_sem])
            have y37 : A.eval (.tmp 37) = _ := Eq.trans (hf 37) (by conv => lhs; simp [go_sem])
            have y38 : A.eval (.tmp 38) = _ := Eq.trans (hf 38) (by conv => lhs; simp [go_sem])
            have y39 : A.eval (.tmp 39) = _ := Eq.trans (hf 39) (by conv => lhs; simp [go_sem])
            have y40 : A.eval (.tmp 40) = _ := Eq.trans (hf 40) (by conv => lhs; simp [go_sem])
            have y41 : A.eval (.tmp 41) = _ := Eq.trans (hf 41) (by conv => lhs; simp [go_sem])
            clear hf
            have hA := frame_eq hn
            rw [show List.range 42 = [0, 1, 2, 3, 4, 5, 6, 7, 8, 9, 10, 11, 12, 13, 14, 15, 16, 17, 18, 19, 20, 21, 22, 23, 24, 25, 26, 27, 28, 29, 30, 31, 32, 33, 34, 35, 36, 37, 38, 39, 40, 41] from rfl, hd] at hA
            simp only [List.map_cons, List.map_nil, y0, y1, y2, y3, y4, y5, y6, y7, y8, y9, y10, y11, y12, y13, y14, y15, y16, y17, y18, y19, y20, y21, y22, y23, y24, y25, y26, y27, y28, y29, y30, y31, y32, y33, y34, y35, y36, y37, y38, y39, y40, y41] at hA
            clear y0 y1 y2 y3 y4 y5 y6 y7 y8 y9 y10 y11 y12 y13 y14 y15 y16 y17 y18 y19 y20 y21 y22 y23 y24 y25 y26 y27 y28 y29 y30 y31 y32 y33 y34 y35 y36 y37 y38 y39 y40 y41
            clear hn hd
            subst hA
            go_wp2_with fail
            go_ret
            exact ⟨by rw [F.out]; rfl, HW.out.trans (hC.mono HW.out.size)⟩
          · have HA : Hid (AkAt ys k) := ⟨by rw [HK.out]; exact HE.out.1 rfl, fun _ => by rw [HK.out, HZ.out]; simp only; omega⟩
            clear fin
            refine wp_region_typed (C := fun w' => Below wr.heap.size wr w') (X := fun w w' => Below w.heap.size w w') (n := 42) (by kernel_rfl) (by kernel_rfl) rfl (fun w => Below.refl _ w) (Below.refl _ _).drew ?_
            refine w_is (fun w => Below.refl _ w) _ (.inl rfl) (fun ρ w hC hc hfn hf => by have e0 : ρ (.tmp 0) = _ := hf 0 (by decide); (conv => lhs; simp [execOp, go_sem, hc, e0])) ?_
            refine w_is (fun w => Below.refl _ w) _ (.inl rfl) (fun ρ w hC hc hfn hf => by have e3 : ρ (.tmp 3) = _ := hf 3 (by decide); (conv => lhs; simp [execOp, go_sem, hc, e3])) ?_
            refine w_is (fun w => Below.refl _ w) _ (.inl rfl) (fun ρ w hC hc hfn hf => by have e10 : ρ (.tmp 10) = _ := hf 10 (by decide); have e11 : ρ (.tmp 11) = _ := hf 11 (by decide); (conv => lhs; simp [execOp, go_sem, hc, e10, e11, hlt])) ?_
            refine w_is (fun w => Below.refl _ w) _ (.inl rfl) (fun ρ w hC hc hfn hf => by have e12 : ρ (.tmp 12) = _ := hf 12 (by decide); (conv => lhs; simp [execOp, go_sem, hc, e12, kc w hC])) ?_
            refine w_call (Is _) (fun _ _ _ h _ => h) 32 (.inl rfl) (fun ρ w hC hc hfn hf => by have e13 : ρ (.tmp 13) = _ := hf 13 (by decide); exact ⟨_, by (conv => lhs; simp [execOp, resolve, invoke, go_sem, hc, hfn, e13]), tc_below hC (cE w)⟩) ?_
            refine w_is (fun w => Below.refl _ w) _ (.inl rfl) (fun ρ w hC hc hfn hf => by have e14 : ρ (.tmp 14) = _ := hf 14 (by decide); (conv => lhs; simp [execOp, go_sem, hc, e14])) ?_
            refine w_is (fun w => Below.refl _ w) _ (.inl rfl) (fun ρ w hC hc hfn hf => by have e15 : ρ (.tmp 15) = _ := hf 15 (by decide); (conv => lhs; simp [execOp, go_sem, hc, e15])) ?_
            refine w_is (fun w => Below.refl _ w) _ (.inr ⟨6, 16, false, rfl, rfl, known_is rfl⟩) (fun ρ w hC hc hfn hf => by have e3 : ρ (.tmp 3) = _ := hf 3 (by decide); (conv => lhs; simp [execOp, go_sem, hc, e3])) ?_
            refine w_is (fun w => Below.refl _ w) _ (.inr ⟨6, 16, false, rfl, rfl, known_is rfl⟩) (fun ρ w hC hc hfn hf => by have e17 : ρ (.tmp 17) = _ := hf 17 (by decide); (conv => lhs; simp [execOp, go_sem, hc, e17, g3])) ?_
            refine w_is (fun w => Below.refl _ w) _ (.inr ⟨6, 16, false, rfl, rfl, known_is rfl⟩) (fun ρ w hC hc hfn hf => by have e18 : ρ (.tmp 18) = _ := hf 18 (by decide); (conv => lhs; simp [execOp, go_sem, hc, e18])) ?_
            refine w_is (fun w => Below.refl _ w) _ (.inr ⟨9, 19, true, rfl, rfl, known_is rfl⟩) (fun ρ w hC hc hfn hf => by have e0 : ρ (.tmp 0) = _ := hf 0 (by decide); (conv => lhs; simp [execOp, go_sem, hc, e0])) ?_
            refine w_is (fun w => Below.refl _ w) _ (.inr ⟨9, 19, true, rfl, rfl, known_is rfl⟩) (fun ρ w hC hc hfn hf => by have e3 : ρ (.tmp 3) = _ := hf 3 (by decide); (conv => lhs; simp [execOp, go_sem, hc, e3])) ?_
            refine w_is (fun w => Below.refl _ w) _ (.inr ⟨9, 19, true, rfl, rfl, known_is rfl⟩) (fun ρ w hC hc hfn hf => by have e21 : ρ (.tmp 21) = _ := hf 21 (by decide); (conv => lhs; simp [execOp, go_sem, hc, e21])) ?_
            refine w_is (fun w => Below.refl _ w) _ (.inr ⟨9, 19, true, rfl, rfl, known_is rfl⟩) (fun ρ w hC hc hfn hf => by have e20 : ρ (.tmp 20) = _ := hf 20 (by decide); have e22 : ρ (.tmp 22) = _ := hf 22 (by decide); (conv => lhs; simp [execOp, go_sem, hc, e20, e22, hkw, hk1, hk2, hkn])) ?_
            refine w_is (fun w => Below.refl _ w) _ (.inr ⟨9, 19, true, rfl, rfl, known_is rfl⟩) (fun ρ w hC hc hfn hf => by have e23 : ρ (.tmp 23) = _ := hf 23 (by decide); (conv => lhs; simp [execOp, go_sem, hc, e23])) ?_
            refine w_is (fun w => Below.refl _ w) _ (.inr ⟨9, 19, true, rfl, rfl, known_is rfl⟩) (fun ρ w hC hc hfn hf => by have e24 : ρ (.tmp 24) = _ := hf 24 (by decide); (conv => lhs; simp [execOp, go_sem, hc, e24, kc w hC])) ?_
            refine w_is (fun w => Below.refl _ w) _ (.inr ⟨9, 19, true, rfl, rfl, known_is rfl⟩) (fun ρ w hC hc hfn hf => by have e0 : ρ (.tmp 0) = _ := hf 0 (by decide); (conv => lhs; simp [execOp, go_sem, hc, e0])) ?_
            refine w_is (fun w => Below.refl _ w) _ (.inr ⟨9, 19, true, rfl, rfl, known_is rfl⟩) (fun ρ w hC hc hfn hf => by have e3 : ρ (.tmp 3) = _ := hf 3 (by decide); (conv => lhs; simp [execOp, go_sem, hc, e3])) ?_
            refine w_is (fun w => Below.refl _ w) _ (.inr ⟨9, 19, true, rfl, rfl, known_is rfl⟩) (fun ρ w hC hc hfn hf => by have e26 : ρ (.tmp 26) = _ := hf 26 (by decide); have e27 : ρ (.tmp 27) = _ := hf 27 (by decide); (conv => lhs; simp [execOp, go_sem, hc, e26, e27, hlt])) ?_
            refine w_is (fun w => Below.refl _ w) _ (.inr ⟨9, 19, true, rfl, rfl, known_is rfl⟩) (fun ρ w hC hc hfn hf => by have e28 : ρ (.tmp 28) = _ := hf 28 (by decide); (conv => lhs; simp [execOp, go_sem, hc, e28])) ?_
            refine w_is (fun w => Below.refl _ w) _ (.inr ⟨9, 19, true, rfl, rfl, known_is rfl⟩) (fun ρ w hC hc hfn hf => by have e29 : ρ (.tmp 29) = _ := hf 29 (by decide); (conv => lhs; simp [execOp, go_sem, hc, e29, kc w hC])) ?_
            refine w_is (fun w => Below.refl _ w) _ (.inr ⟨9, 19, true, rfl, rfl, known_is rfl⟩) (fun ρ w hC hc hfn hf => by have e25 : ρ (.tmp 25) = _ := hf 25 (by decide); have e30 : ρ (.tmp 30) = _ := hf 30 (by decide); (conv => lhs; simp [execOp, go_sem, hc, e25, e30, g4])) ?_
            refine w_is (fun w => Below.refl _ w) _ (.inr ⟨6, 16, false, rfl, rfl, known_is rfl⟩) (fun ρ w hC hc hfn hf => by have e19 : ρ (.tmp 19) = _ := hf 19 (by decide); have e31 : ρ (.tmp 31) = _ := hf 31 (by decide); (conv => lhs; simp [execOp, go_sem, hc, e19, e31])) ?_
            refine w_is (fun w => Below.refl _ w) _ (.inl rfl) (fun ρ w hC hc hfn hf => by have e16 : ρ (.tmp 16) = _ := hf 16 (by decide); have e32 : ρ (.tmp 32) = _ := hf 32 (by decide); (conv => lhs; simp [execOp, go_sem, hc, e16, e32])) ?_
            intro A V5 hC hn hd hf
            have y0 : A.eval (.tmp 0) = _ := Eq.trans (hf 0) (by conv => lhs; simp [go_sem])
            have y1 : A.eval (.tmp 1) = _ := Eq.trans (hf 1) (by conv => lhs; simp [go_sem])
            have y2 : A.eval (.tmp 2) = _ := Eq.trans (hf 2) (by conv => lhs; simp [go_sem])
            have y3 : A.eval (.tmp 3) = _ := Eq.trans (hf 3) (by conv => lhs; simp [go_sem])
            have y4 : A.eval (.tmp 4) = _ := Eq.trans (hf 4) (by conv => lhs; simp [go_sem])
            have y5 : A.eval (.tmp 5) = _ := Eq.trans (hf 5) (by conv => lhs; simp [go_sem])
            have y6 : A.eval (.tmp 6) = _ := Eq.trans (hf 6) (by conv => lhs; simp [go_sem])
            have y7 : A.eval (.tmp 7) = _ := Eq.trans (hf 7) (by conv => lhs; simp [go_sem])
            have y8 : A.eval (.tmp 8) = _ := Eq.trans (hf 8) (by conv => lhs; simp [go_sem])
            have y9 : A.eval (.tmp 9) = _ := Eq.trans (hf 9) (by conv => lhs; simp [go_sem])
            have y10 : A.eval (.tmp 10) = _ := hf 10
            have y11 : A.eval (.tmp 11) = _ := hf 11
            have y12 : A.eval (.tmp 12) = _ := hf 12
            have y13 : A.eval (.tmp 13) = _ := hf 13
            have y14 : A.eval (.tmp 14) = _ := hf 14
            have y15 : A.eval (.tmp 15) = _ := hf 15
            have y16 : A.eval (.tmp 16) = _ := hf 16
            have y17 : A.eval (.tmp 17) = _ := hf 17
            have y18 : A.eval (.tmp 18) = _ := hf 18
            have y19 : A.eval (.tmp 19) = _ := hf 19
            have y20 : A.eval (.tmp 20) = _ := hf 20
            have y21 : A.eval (.tmp 21) = _ := hf 21
            have y22 : A.eval (.tmp 22) = _ := hf 22
            have y23 : A.eval (.tmp 23) = _ := hf 23
            have y24 : A.eval (.tmp 24) = _ := hf 24
            have y25 : A.eval (.tmp 25) = _ := hf 25
            have y26 : A.eval (.tmp 26) = _ := hf 26
            have y27 : A.eval (.tmp 27) = _ := hf 27
            have y28 : A.eval (.tmp 28) = _ := hf 28
            have y29 : A.eval (.tmp 29) = _ := hf 29
            have y30 : A.eval (.tmp 30) = _ := hf 30
            have y31 : A.eval (.tmp 31) = _ := hf 31
            have y32 : A.eval (.tmp 32) = _ := hf 32
            have y33 : A.eval (.tmp 33) = _ := hf 33
            have y34 : A.eval (.tmp 34) = _ := Eq.trans (hf 34) (by conv => lhs; simp [go_sem])
            have y35 : A.eval (.tmp 35) = _ := Eq.trans (hf 35) (by conv => lhs; simp [go_sem])
            have y36 : A.eval (.tmp 36) = _ := Eq.trans (hf 36) (by conv => lhs; simp [go_sem])
            have y37 : A.eval (.tmp 37) = _ := Eq.trans (hf 37) (by conv => lhs; simp [go_sem])
            have y38 : A.eval (.tmp 38) = _ := Eq.trans (hf 38) (by conv => lhs; simp [go_sem])
            have y39 : A.eval (.tmp 39) = _ := Eq.trans (hf 39) (by conv => lhs; simp [go_sem])
            have y40 : A.eval (.tmp 40) = _ := Eq.trans (hf 40) (by conv => lhs; simp [go_sem])
            have y41 : A.eval (.tmp 41) = _ := Eq.trans (hf 41) (by conv => lhs; simp [go_sem])
            clear hf
            have hA := frame_eq hn
            rw [show List.range 42 = [0, 1, 2, 3, 4, 5, 6, 7, 8, 9, 10, 11, 12, 13, 14, 15, 16, 17, 18, 19, 20, 21, 22, 23, 24, 25, 26, 27, 28, 29, 30, 31, 32, 33, 34, 35, 36, 37, 38, 39, 40, 41] from rfl, hd] at hA
            simp only [List.map_cons, List.map_nil, y0, y1, y2, y3, y4, y5, y6, y7, y8, y9, y10, y11, y12, y13, y14, y15, y16, y17, y18, y19, y20, y21, y22, y23, y24, y25, y26, y27, y28, y29, y30, y31, y32, y33, y34, y35, y36, y37, y38, y39, y40, y41] at hA
            clear y0 y1 y2 y3 y4 y5 y6 y7 y8 y9 y10 y11 y12 y13 y14 y15 y16 y17 y18 y19 y20 y21 y22 y23 y24 y25 y26 y27 y28 y29 y30 y31 y32 y33 y34 y35 y36 y37 y38 y39 y40 y41
            clear hn hd
            subst hA
            go_wp2_with fail
            go_roundw
            case rel =>
              refine ⟨k + 1, by omega, by go_num, fun j hj => ?_, HW.out.trans (hC.mono HW.out.size)⟩
              by_cases h : j < k
              · exact HO.out j h
              · obtain rfl : j = k := by omega
                exact HA.out
            case measure => simp [intOf]; omega
        · obtain rfl : k = 0 := by omega
          have HA : Hid (AkAt ys 0) := ⟨by rw [HK.out]; exact HE.out.1 rfl, fun h => absurd h (Nat.lt_irrefl 0)⟩
          clear fin g3
          have kc : ∀ w', Below wr.heap.size wr w' → Cells4 w' b (off + 0 * 4) (y1, y2, y3, y4) := fun w' h => P0.out.below h
          simp only [Cells4, Nat.zero_mul, Nat.add_zero] at kc
          refine wp_region_typed (C := fun w' => Below wr.heap.size wr w') (X := fun w w' => Below w.heap.size w w') (n := 42) (by kernel_rfl) (by kernel_rfl) rfl (fun w => Below.refl _ w) (Below.refl _ _).drew ?_
          refine w_is (fun w => Below.refl _ w) _ (.inl rfl) (fun ρ w hC hc hfn hf => by have e0 : ρ (.tmp 0) = _ := hf 0 (by decide); (conv => lhs; simp [execOp, go_sem, hc, e0])) ?_
          refine w_is (fun w => Below.refl _ w) _ (.inl rfl) (fun ρ w hC hc hfn hf => by have e3 : ρ (.tmp 3) = _ := hf 3 (by decide); (conv => lhs; simp [execOp, go_sem, hc, e3])) ?_
          refine w_is (fun w => Below.refl _ w) _ (.inl rfl) (fun ρ w hC hc hfn hf => by have e10 : ρ (.tmp 10) = _ := hf 10 (by decide); have e11 : ρ (.tmp 11) = _ := hf 11 (by decide); (conv => lhs; simp [execOp, go_sem, hc, e10, e11, hlt])) ?_
          refine w_is (fun w => Below.refl _ w) _ (.inl rfl) (fun ρ w hC hc hfn hf => by have e12 : ρ (.tmp 12) = _ := hf 12 (by decide); (conv => lhs; simp [execOp, go_sem, hc, e12, kc w hC])) ?_
          refine w_call (Is _) (fun _ _ _ h _ => h) 32 (.inl rfl) (fun ρ w hC hc hfn hf => by have e13 : ρ (.tmp 13) = _ := hf 13 (by decide); exact ⟨_, by (conv => lhs; simp [execOp, resolve, invoke, go_sem, hc, hfn, e13]), tc_below hC (cE w)⟩) ?_
          refine w_is (fun w => Below.refl _ w) _ (.inl rfl) (fun ρ w hC hc hfn hf => by have e14 : ρ (.tmp 14) = _ := hf 14 (by decide); (conv => lhs; simp [execOp, go_sem, hc, e14])) ?_
          refine w_is (fun w => Below.refl _ w) _ (.inl rfl) (fun ρ w hC hc hfn hf => by have e15 : ρ (.tmp 15) = _ := hf 15 (by decide); (conv => lhs; simp [execOp, go_sem, hc, e15])) ?_
          refine w_is (fun w => Below.refl _ w) _ (.inr ⟨6, 16, false, rfl, rfl, known_is rfl⟩) (fun ρ w hC hc hfn hf => by have e3 : ρ (.tmp 3) = _ := hf 3 (by decide); (conv => lhs; simp [execOp, go_sem, hc, e3])) ?_
          refine w_is (fun w => Below.refl _ w) _ (.inr ⟨6, 16, false, rfl, rfl, known_is rfl⟩) (fun ρ w hC hc hfn hf => by have e17 : ρ (.tmp 17) = _ := hf 17 (by decide); (conv => lhs; simp [execOp, go_sem, hc, e17])) ?_
          refine w_is (fun w => Below.refl _ w) _ (.inr ⟨6, 16, false, rfl, rfl, known_is rfl⟩) (fun ρ w hC hc hfn hf => by have e18 : ρ (.tmp 18) = _ := hf 18 (by decide); (conv => lhs; simp [execOp, go_sem, hc, e18])) ?_
          refine w_skip rfl rfl (known_is rfl) ?_
          refine w_skip rfl rfl (known_is rfl) ?_
          refine w_skip rfl rfl (known_is rfl) ?_
          refine w_skip rfl rfl (known_is rfl) ?_
          refine w_skip rfl rfl (known_is rfl) ?_
          refine w_skip rfl rfl (known_is rfl) ?_
          refine w_skip rfl rfl (known_is rfl) ?_
          refine w_skip rfl rfl (known_is rfl) ?_
          refine w_skip rfl rfl (known_is rfl) ?_
          refine w_skip rfl rfl (known_is rfl) ?_
          refine w_skip rfl rfl (known_is rfl) ?_
          refine w_skip rfl rfl (known_is rfl) ?_
          refine w_is (fun w => Below.refl _ w) _ (.inr ⟨6, 16, false, rfl, rfl, known_is rfl⟩) (fun ρ w hC hc hfn hf => by have e19 : ρ (.tmp 19) = _ := hf 19 (by decide); have e31 : ρ (.tmp 31) = _ := hf 31 (by decide); (conv => lhs; simp [execOp, go_sem, hc, e19, e31])) ?_
          refine w_is (fun w => Below.refl _ w) _ (.inl rfl) (fun ρ w hC hc hfn hf => by have e16 : ρ (.tmp 16) = _ := hf 16 (by decide); have e32 : ρ (.tmp 32) = _ := hf 32 (by decide); (conv => lhs; simp [execOp, go_sem, hc, e16, e32])) ?_
          intro A V5 hC hn hd hf
          have y0 : A.eval (.tmp 0) = _ := Eq.trans (hf 0) (by conv => lhs; simp [go_sem])
          have y1 : A.eval (.tmp 1) = _ := Eq.trans (hf 1) (by conv => lhs; simp [go_sem])
          have y2 : A.eval (.tmp 2) = _ := Eq.trans (hf 2) (by conv => lhs; simp [go_sem])
          have y3 : A.eval (.tmp 3) = _ := Eq.trans (hf 3) (by conv => lhs; simp [go_sem])
          have y4 : A.eval (.tmp 4) = _ := Eq.trans (hf 4) (by conv => lhs; simp [go_sem])
          have y5 : A.eval (.tmp 5) = _ := Eq.trans (hf 5) (by conv => lhs; simp [go_sem])
          have y6 : A.eval (.tmp 6) = _ := Eq.trans (hf 6) (by conv => lhs; simp [go_sem])
          have y7 : A.eval (.tmp 7) = _ := Eq.trans (hf 7) (by conv => lhs; simp [go_sem])
          have y8 : A.eval (.tmp 8) = _ := Eq.trans (hf 8) (by conv => lhs; simp [go_sem])
          have y9 : A.eval (.tmp 9) = _ := Eq.trans (hf 9) (by conv => lhs; simp [go_sem])
          have y10 : A.eval (.tmp 10) = _ := hf 10
          have y11 : A.eval (.tmp 11) = _ := hf 11
          have y12 : A.eval (.tmp 12) = _ := hf 12
          have y13 : A.eval (.tmp 13) = _ := hf 13
          have y14 : A.eval (.tmp 14) = _ := hf 14
          have y15 : A.eval (.tmp 15) = _ := hf 15
          have y16 : A.eval (.tmp 16) = _ := hf 16
          have y17 : A.eval (.tmp 17) = _ := hf 17
          have y18 : A.eval (.tmp 18) = _ := hf 18
          have y19 : A.eval (.tmp 19) = _ := hf 19
          have y20 : A.eval (.tmp 20) = _ := hf 20
          have y21 : A.eval (.tmp 21) = _ := hf 21
          have y22 : A.eval (.tmp 22) = _ := hf 22
          have y23 : A.eval (.tmp 23) = _ := hf 23
          have y24 : A.eval (.tmp 24) = _ := hf 24
          have y25 : A.eval (.tmp 25) = _ := hf 25
          have y26 : A.eval (.tmp 26) = _ := hf 26
          have y27 : A.eval (.tmp 27) = _ := hf 27
          have y28 : A.eval (.tmp 28) = _ := hf 28
          have y29 : A.eval (.tmp 29) = _ := hf 29
          have y30 : A.eval (.tmp 30) = _ := hf 30
          have y31 : A.eval (.tmp 31) = _ := hf 31
          have y32 : A.eval (.tmp 32) = _ := hf 32
          have y33 : A.eval (.tmp 33) = _ := hf 33
          have y34 : A.eval (.tmp 34) = _ := Eq.trans (hf 34) (by conv => lhs; simp [go_sem])
          have y35 : A.eval (.tmp 35) = _ := Eq.trans (hf 35) (by conv => lhs; simp [go_sem])
          have y36 : A.eval (.tmp 36) = _ := Eq.trans (hf 36) (by conv => lhs; simp [go_sem])
          have y37 : A.eval (.tmp 37) = _ := Eq.trans (hf 37) (by conv => lhs; simp [go_sem])
          have y38 : A.eval (.tmp 38) = _ := Eq.trans (hf 38) (by conv => lhs; simp [go_sem])
          have y39 : A.eval (.tmp 39) = _ := Eq.trans (hf 39) (by conv => lhs; simp [go_sem])
          have y40 : A.eval (.tmp 40) = _ := Eq.trans (hf 40) (by conv => lhs; simp [go_sem])
          have y41 : A.eval (.tmp 41) = _ := Eq.trans (hf 41) (by conv => lhs; simp [go_sem])
          clear hf
          have hA := frame_eq hn
          rw [show List.range 42 = [0, 1, 2, 3, 4, 5, 6, 7, 8, 9, 10, 11, 12, 13, 14, 15, 16, 17, 18, 19, 20, 21, 22, 23, 24, 25, 26, 27, 28, 29, 30, 31, 32, 33, 34, 35, 36, 37, 38, 39, 40, 41] from rfl, hd] at hA
          simp only [List.map_cons, List.map_nil, y0, y1, y2, y3, y4, y5, y6, y7, y8, y9, y10, y11, y12, y13, y14, y15, y16, y17, y18, y19, y20, y21, y22, y23, y24, y25, y26, y27, y28, y29, y30, y31, y32, y33, y34, y35, y36, y37, y38, y39, y40, y41] at hA
          clear y0 y1 y2 y3 y4 y5 y6 y7 y8 y9 y10 y11 y12 y13 y14 y15 y16 y17 y18 y19 y20 y21 y22 y23 y24 y25 y26 y27 y28 y29 y30 y31 y32 y33 y34 y35 y36 y37 y38 y39 y40 y41
          clear hn hd
          subst hA
          go_wp2_with fail
          go_roundw
          case rel =>
            refine ⟨1, by omega, by go_num, fun j hj => ?_, HW.out.trans (hC.mono HW.out.size)⟩
            obtain rfl : j = 0 := by omega
            exact HA.out
          case measure => simp [intOf]; omega
    · obtain rfl : k = ys.length := by omega
      have HE : Hid (Q = (decide (1 ≤ ys.length) && decide (ys.length ≤ 64))) := by
        have h1 := HQ.out
        unfold AksOk at h1
        show Q = _
        rw [Bool.eq_iff_iff, h1, Bool.and_eq_true, decide_eq_true_iff, decide_eq_true_iff]
        exact ⟨fun h => h.2, fun h => ⟨HO.out, h⟩⟩
      by_cases h1 : 1 ≤ ys.length
      · have h1' : (1 : Int) ≤ (ys.length : Int) := by omega
        by_cases h2 : ys.length ≤ 64
        · have h2' : (ys.length : Int) ≤ 64 := by omega
          have F : Hid (Q = true) := HE.out.trans (by simp [h1, h2])
          go_wp2_with fail
          go_ret
          exact ⟨by rw [F.out]; rfl, HW.out⟩
        · have h2' : decide ((ys.length : Int) ≤ 64) = false := decide_eq_false (by omega)
          have F : Hid (Q = false) := HE.out.trans (by simp [h2])
          go_wp2_with fail
          go_ret
          exact ⟨by rw [F.out]; rfl, HW.out⟩
      · have h1' : decide ((1 : Int) ≤ (ys.length : Int)) = false := decide_eq_false (by omega)
        have F : Hid (Q = false) := HE.out.trans (by simp [h1])
        go_wp2_with fail
        go_ret
        exact ⟨by rw [F.out]; rfl, HW.out⟩
#print axioms raright_fix
end Go.Proofs.Ytipdjfgaenoepaa
