/- Texts Bck of this proof, in one. No conditions but on lengths. -/
import Derived.Test.YthnajpckhoomgaaGreatRows
import Derived.Test.YthnajpckhoomgaaGreatU17
import Derived.Test.YthnajpckhoomgaaGreatU20
import Derived.Below
import Derived.BigQuiet
import Derived.Calls
import Derived.ChangeArms
import Derived.ChangeOld
import Derived.Deep.QuietTactic
import Derived.Deep.RegionWith
import Derived.Deep.Slices
import Derived.Laws.AppendOwnNone
import Derived.Laws.BytesArg
import Derived.Laws.StructEq
import Derived.Lib.Hide
import Derived.Lib.QuietBelow
import Derived.LoopTactic
import Derived.OpenShut
import Derived.Orders
import Derived.Outline
import Derived.ProofKit
import Derived.ShutString
import Derived.WalkKit
import Derived.WalkSpells
import Derived.WideShapes
namespace Go.Proofs.YthnajpckhoomgaaGreat
set_option maxRecDepth 100000
open Go.RowKit Go.Sort

set_option maxHeartbeats 8000000 in
theorem pcheck_a (M : Int) (a : Option Addr) (c : Nat) (ys : List Ob) (w : World) (hy : Os w (.slice a ys.length c) ys) (_ : ys.length ≤ 3000) (hN : (M != lft M) = true) :
    Calls Tryz.prog 152 #[.agg #[.int .i64 M, .slice a ys.length c]] w fun e w' => e = .returned (.int .i64 1) ∧ Below w.heap.size w w' := by
  have cL : ∀ w, Calls Tryz.prog 108 #[.int .i64 M] w fun e w' => e = .returned (.int .i64 (lft M)) ∧ Below w.heap.size w w' := fun w => pleft_any M w
  have HY := Lib.hid (hy.alloc (.cells #[.int .i64 M, .slice a ys.length c] 69))
  have HB : Hid (Below w.heap.size w (w.alloc (.cells #[.int .i64 M, .slice a ys.length c] 69))) := (Below.refl _ w).alloc (Nat.le_refl _) _
  have k0 : (w.alloc (.cells #[.int .i64 M, .slice a ys.length c] 69)).cell? ⟨w.heap.size, 0, none⟩ = some (.int .i64 M) := by simp
  have k1 : (w.alloc (.cells #[.int .i64 M, .slice a ys.length c] 69)).cell? ⟨w.heap.size, 1, none⟩ = some (.slice a ys.length c) := by simp
  clear hy
  go_enter Tryz.func152, Tryz.ntmps152
  go_wp2_with fail
  generalize w.alloc (.cells #[.int .i64 M, .slice a ys.length c] 69) = V1 at *
  have kc : ∀ w', Below V1.heap.size V1 w' → w'.cell? ⟨w.heap.size, 0, none⟩ = some (.int .i64 M) ∧ w'.cell? ⟨w.heap.size, 1, none⟩ = some (.slice a ys.length c) := fun w' h =>
    ⟨by rw [h.cell (World.block_lt_of_cell? V1 _ k0)]; exact k0, by rw [h.cell (World.block_lt_of_cell? V1 _ k1)]; exact k1⟩

  refine wp_region_typed (C := fun w' => Below V1.heap.size V1 w') (X := fun w w' => Below w.heap.size w w') (n := 28) (by kernel_rfl) (by kernel_rfl) rfl (fun w => Below.refl _ w) (Below.refl _ _).drew ?_
  refine w_is (fun w => Below.refl _ w) _ (.inl rfl) (fun ρ w hC hc hfn hf => by have e1 : ρ (.tmp 1) = _ := hf 1 (by decide); (conv => lhs; simp [execOp, go_sem, hc, e1])) ?_
  refine w_is (fun w => Below.refl _ w) _ (.inl rfl) (fun ρ w hC hc hfn hf => by have e3 : ρ (.tmp 3) = _ := hf 3 (by decide); (conv => lhs; simp [execOp, go_sem, hc, e3, kc w hC])) ?_
  refine w_is (fun w => Below.refl _ w) _ (.inl rfl) (fun ρ w hC hc hfn hf => by have e1 : ρ (.tmp 1) = _ := hf 1 (by decide); (conv => lhs; simp [execOp, go_sem, hc, e1])) ?_
  refine w_is (fun w => Below.refl _ w) _ (.inl rfl) (fun ρ w hC hc hfn hf => by have e5 : ρ (.tmp 5) = _ := hf 5 (by decide); (conv => lhs; simp [execOp, go_sem, hc, e5, kc w hC])) ?_
  refine w_call (Is _) (fun _ _ _ h _ => h) 108 (.inl rfl) (fun ρ w hC hc hfn hf => by have e6 : ρ (.tmp 6) = _ := hf 6 (by decide); exact ⟨_, by (conv => lhs; simp [execOp, resolve, invoke, go_sem, hc, hfn, e6]), tc_below hC (cL w)⟩) ?_
  refine w_is (fun w => Below.refl _ w) _ (.inl rfl) (fun ρ w hC hc hfn hf => by have e4 : ρ (.tmp 4) = _ := hf 4 (by decide); have e7 : ρ (.tmp 7) = _ := hf 7 (by decide); (conv => lhs; simp [execOp, go_sem, hc, e4, e7, hN])) ?_
  refine w_is (fun w => Below.refl _ w) _ (.inl rfl) (fun ρ w hC hc hfn hf => by have e8 : ρ (.tmp 8) = _ := hf 8 (by decide); (conv => lhs; simp [execOp, go_sem, hc, e8])) ?_
  refine w_skip rfl rfl (known_is rfl) ?_
  refine w_skip rfl rfl (known_is rfl) ?_
  refine w_skip rfl rfl (known_is rfl) ?_
  refine w_skip rfl rfl (known_is rfl) ?_
  refine w_skip rfl rfl (known_is rfl) ?_
  refine w_is (fun w => Below.refl _ w) _ (.inl rfl) (fun ρ w hC hc hfn hf => by have e9 : ρ (.tmp 9) = _ := hf 9 (by decide); have e14 : ρ (.tmp 14) = _ := hf 14 (by decide); (conv => lhs; simp [execOp, go_sem, hc, e9, e14])) ?_
  refine w_is (fun w => Below.refl _ w) _ (.inl rfl) (fun ρ w hC hc hfn hf => by have e15 : ρ (.tmp 15) = _ := hf 15 (by decide); (conv => lhs; simp [execOp, go_sem, hc, e15])) ?_
  refine w_skip rfl rfl (known_is rfl) ?_
  refine w_skip rfl rfl (known_is rfl) ?_
  refine w_skip rfl rfl (known_is rfl) ?_
  refine w_skip rfl rfl (known_is rfl) ?_
  refine w_is (fun w => Below.refl _ w) _ (.inl rfl) (fun ρ w hC hc hfn hf => by have e16 : ρ (.tmp 16) = _ := hf 16 (by decide); have e20 : ρ (.tmp 20) = _ := hf 20 (by decide); (conv => lhs; simp [execOp, go_sem, hc, e16, e20])) ?_
  refine w_is (fun w => Below.refl _ w) _ (.inl rfl) (fun ρ w hC hc hfn hf => by have e21 : ρ (.tmp 21) = _ := hf 21 (by decide); (conv => lhs; simp [execOp, go_sem, hc, e21])) ?_
  refine w_skip rfl rfl (known_is rfl) ?_
  refine w_skip rfl rfl (known_is rfl) ?_
  refine w_skip rfl rfl (known_is rfl) ?_
  refine w_skip rfl rfl (known_is rfl) ?_
  refine w_is (fun w => Below.refl _ w) _ (.inl rfl) (fun ρ w hC hc hfn hf => by have e22 : ρ (.tmp 22) = _ := hf 22 (by decide); have e26 : ρ (.tmp 26) = _ := hf 26 (by decide); (conv => lhs; simp [execOp, go_sem, hc, e22, e26])) ?_
  intro A V5 hC hn hd hf
  have y0 : A.eval (.tmp 0) = _ := Eq.trans (hf 0) (by conv => lhs; simp [go_sem])
  have y1 : A.eval (.tmp 1) = _ := Eq.trans (hf 1) (by conv => lhs; simp [go_sem])
  have y2 : A.eval (.tmp 2) = _ := Eq.trans (hf 2) (by conv => lhs; simp [go_sem])
  have y3 : A.eval (.tmp 3) = _ := hf 3
  have y4 : A.eval (.tmp 4) = _ := hf 4
  have y5 : A.eval (.tmp 5) = _ := hf 5
  have y6 : A.eval (.tmp 6) = _ := hf 6
  have y7 : A.eval (.tmp 7) = _ := hf 7
  have y8 : A.eval (.tmp 8) = _ := hf 8
  have y9 : A.eval (.tmp 9) = _ := hf 9
  have y10 : A.eval (.tmp 10) = _ := hf 10
  have y11 : A.eval (.tmp 11) = _ := hf 11
  have y12 : A.eval (.tmp 12) = _ := hf 12
  have y13 : A.eval (.tmp 13) = _ := hf 13
  have y14 : A.eval (.tmp 14) = _ := hf 14
  have y15 : A.eval (.tmp 15) = _ := hf 15
  have y16 : A.eval (.tmp 16) = _ := hf 16
  have y17 : A.eval (.tmp 17) = _ := hf 17
  have y18 : A.eval (.tmp 18) = _ := hf 18
  have y19 : A.eval (.tmp 19) = _ := hf 19
  have y20 : A.eval (.tmp 20) = _ := hf 20
  have y21 : A.eval (.tmp 21) = _ := hf 21
  have y22 : A.eval (.tmp 22) = _ := hf 22
  have y23 : A.eval (.tmp 23) = _ := hf 23
  have y24 : A.eval (.tmp 24) = _ := hf 24
  have y25 : A.eval (.tmp 25) = _ := hf 25
  have y26 : A.eval (.tmp 26) = _ := hf 26
  have y27 : A.eval (.tmp 27) = _ := hf 27
  clear hf
  have hA := frame_eq hn
  rw [show List.range 28 = [0, 1, 2, 3, 4, 5, 6, 7, 8, 9, 10, 11, 12, 13, 14, 15, 16, 17, 18, 19, 20, 21, 22, 23, 24, 25, 26, 27] from rfl, hd] at hA
  simp only [List.map_cons, List.map_nil, y0, y1, y2, y3, y4, y5, y6, y7, y8, y9, y10, y11, y12, y13, y14, y15, y16, y17, y18, y19, y20, y21, y22, y23, y24, y25, y26, y27] at hA
  clear y0 y1 y2 y3 y4 y5 y6 y7 y8 y9 y10 y11 y12 y13 y14 y15 y16 y17 y18 y19 y20 y21 y22 y23 y24 y25 y26 y27
  clear hn hd
  subst hA
  go_wp2_with fail
  go_ret
  exact ⟨rfl, HB.out.trans (hC.mono HB.out.size)⟩
set_option maxHeartbeats 8000000 in
theorem pcheck_b (M : Int) (a : Option Addr) (c : Nat) (ys : List Ob) (w : World) (hy : Os w (.slice a ys.length c) ys) (_ : ys.length ≤ 3000) (hN : (M != lft M) = false) (hL : ¬ (1 ≤ (ys.length : Int) ∧ (ys.length : Int) ≤ 32)) :
    Calls Tryz.prog 152 #[.agg #[.int .i64 M, .slice a ys.length c]] w fun e w' => e = .returned (.int .i64 1) ∧ Below w.heap.size w w' := by
  have cL : ∀ w, Calls Tryz.prog 108 #[.int .i64 M] w fun e w' => e = .returned (.int .i64 (lft M)) ∧ Below w.heap.size w w' := fun w => pleft_any M w
  have cC : ∀ w, Calls Tryz.prog 181 #[.int .i64 ys.length] w fun e w' => e = .returned (.bool false) ∧ w = w' := fun w => by have h := iscount_any ys.length w; rwa [decide_eq_false hL] at h
  have HY := Lib.hid (hy.alloc (.cells #[.int .i64 M, .slice a ys.length c] 69))
  have HB : Hid (Below w.heap.size w (w.alloc (.cells #[.int .i64 M, .slice a ys.length c] 69))) := (Below.refl _ w).alloc (Nat.le_refl _) _
  have k0 : (w.alloc (.cells #[.int .i64 M, .slice a ys.length c] 69)).cell? ⟨w.heap.size, 0, none⟩ = some (.int .i64 M) := by simp
  have k1 : (w.alloc (.cells #[.int .i64 M, .slice a ys.length c] 69)).cell? ⟨w.heap.size, 1, none⟩ = some (.slice a ys.length c) := by simp
  clear hy
  go_enter Tryz.func152, Tryz.ntmps152
  go_wp2_with fail
  generalize w.alloc (.cells #[.int .i64 M, .slice a ys.length c] 69) = V1 at *
  have kc : ∀ w', Below V1.heap.size V1 w' → w'.cell? ⟨w.heap.size, 0, none⟩ = some (.int .i64 M) ∧ w'.cell? ⟨w.heap.size, 1, none⟩ = some (.slice a ys.length c) := fun w' h =>
    ⟨by rw [h.cell (World.block_lt_of_cell? V1 _ k0)]; exact k0, by rw [h.cell (World.block_lt_of_cell? V1 _ k1)]; exact k1⟩

  refine wp_region_typed (C := fun w' => Below V1.heap.size V1 w') (X := fun w w' => Below w.heap.size w w') (n := 28) (by kernel_rfl) (by kernel_rfl) rfl (fun w => Below.refl _ w) (Below.refl _ _).drew ?_
  refine w_is (fun w => Below.refl _ w) _ (.inl rfl) (fun ρ w hC hc hfn hf => by have e1 : ρ (.tmp 1) = _ := hf 1 (by decide); (conv => lhs; simp [execOp, go_sem, hc, e1])) ?_
  refine w_is (fun w => Below.refl _ w) _ (.inl rfl) (fun ρ w hC hc hfn hf => by have e3 : ρ (.tmp 3) = _ := hf 3 (by decide); (conv => lhs; simp [execOp, go_sem, hc, e3, kc w hC])) ?_
  refine w_is (fun w => Below.refl _ w) _ (.inl rfl) (fun ρ w hC hc hfn hf => by have e1 : ρ (.tmp 1) = _ := hf 1 (by decide); (conv => lhs; simp [execOp, go_sem, hc, e1])) ?_
  refine w_is (fun w => Below.refl _ w) _ (.inl rfl) (fun ρ w hC hc hfn hf => by have e5 : ρ (.tmp 5) = _ := hf 5 (by decide); (conv => lhs; simp [execOp, go_sem, hc, e5, kc w hC])) ?_
  refine w_call (Is _) (fun _ _ _ h _ => h) 108 (.inl rfl) (fun ρ w hC hc hfn hf => by have e6 : ρ (.tmp 6) = _ := hf 6 (by decide); exact ⟨_, by (conv => lhs; simp [execOp, resolve, invoke, go_sem, hc, hfn, e6]), tc_below hC (cL w)⟩) ?_
  refine w_is (fun w => Below.refl _ w) _ (.inl rfl) (fun ρ w hC hc hfn hf => by have e4 : ρ (.tmp 4) = _ := hf 4 (by decide); have e7 : ρ (.tmp 7) = _ := hf 7 (by decide); (conv => lhs; simp [execOp, go_sem, hc, e4, e7, hN])) ?_
  refine w_is (fun w => Below.refl _ w) _ (.inl rfl) (fun ρ w hC hc hfn hf => by have e8 : ρ (.tmp 8) = _ := hf 8 (by decide); (conv => lhs; simp [execOp, go_sem, hc, e8])) ?_
  refine w_is (fun w => Below.refl _ w) _ (.inr ⟨6, 9, false, rfl, rfl, known_is rfl⟩) (fun ρ w hC hc hfn hf => by have e1 : ρ (.tmp 1) = _ := hf 1 (by decide); (conv => lhs; simp [execOp, go_sem, hc, e1])) ?_
  refine w_is (fun w => Below.refl _ w) _ (.inr ⟨6, 9, false, rfl, rfl, known_is rfl⟩) (fun ρ w hC hc hfn hf => by have e10 : ρ (.tmp 10) = _ := hf 10 (by decide); (conv => lhs; simp [execOp, go_sem, hc, e10, kc w hC])) ?_
  refine w_is (fun w => Below.refl _ w) _ (.inr ⟨6, 9, false, rfl, rfl, known_is rfl⟩) (fun ρ w hC hc hfn hf => by have e11 : ρ (.tmp 11) = _ := hf 11 (by decide); (conv => lhs; simp [execOp, go_sem, hc, e11])) ?_
  refine w_call (Is _) (fun _ _ _ h _ => h) 181 (.inr ⟨6, 9, false, rfl, rfl, known_is rfl⟩) (fun ρ w hC hc hfn hf => by have e12 : ρ (.tmp 12) = _ := hf 12 (by decide); exact ⟨_, by (conv => lhs; simp [execOp, resolve, invoke, go_sem, hc, hfn, e12]), tc_same hC (cC w)⟩) ?_
  refine w_is (fun w => Below.refl _ w) _ (.inr ⟨6, 9, false, rfl, rfl, known_is rfl⟩) (fun ρ w hC hc hfn hf => by have e13 : ρ (.tmp 13) = _ := hf 13 (by decide); (conv => lhs; simp [execOp, go_sem, hc, e13])) ?_
  refine w_is (fun w => Below.refl _ w) _ (.inl rfl) (fun ρ w hC hc hfn hf => by have e9 : ρ (.tmp 9) = _ := hf 9 (by decide); have e14 : ρ (.tmp 14) = _ := hf 14 (by decide); (conv => lhs; simp [execOp, go_sem, hc, e9, e14])) ?_
  refine w_is (fun w => Below.refl _ w) _ (.inl rfl) (fun ρ w hC hc hfn hf => by have e15 : ρ (.tmp 15) = _ := hf 15 (by decide); (conv => lhs; simp [execOp, go_sem, hc, e15])) ?_
  refine w_skip rfl rfl (known_is rfl) ?_
  refine w_skip rfl rfl (known_is rfl) ?_
  refine w_skip rfl rfl (known_is rfl) ?_
  refine w_skip rfl rfl (known_is rfl) ?_
  refine w_is (fun w => Below.refl _ w) _ (.inl rfl) (fun ρ w hC hc hfn hf => by have e16 : ρ (.tmp 16) = _ := hf 16 (by decide); have e20 : ρ (.tmp 20) = _ := hf 20 (by decide); (conv => lhs; simp [execOp, go_sem, hc, e16, e20])) ?_
  refine w_is (fun w => Below.refl _ w) _ (.inl rfl) (fun ρ w hC hc hfn hf => by have e21 : ρ (.tmp 21) = _ := hf 21 (by decide); (conv => lhs; simp [execOp, go_sem, hc, e21])) ?_
  refine w_skip rfl rfl (known_is rfl) ?_
  refine w_skip rfl rfl (known_is rfl) ?_
  refine w_skip rfl rfl (known_is rfl) ?_
  refine w_skip rfl rfl (known_is rfl) ?_
  refine w_is (fun w => Below.refl _ w) _ (.inl rfl) (fun ρ w hC hc hfn hf => by have e22 : ρ (.tmp 22) = _ := hf 22 (by decide); have e26 : ρ (.tmp 26) = _ := hf 26 (by decide); (conv => lhs; simp [execOp, go_sem, hc, e22, e26])) ?_
  intro A V5 hC hn hd hf
  have y0 : A.eval (.tmp 0) = _ := Eq.trans (hf 0) (by conv => lhs; simp [go_sem])
  have y1 : A.eval (.tmp 1) = _ := Eq.trans (hf 1) (by conv => lhs; simp [go_sem])
  have y2 : A.eval (.tmp 2) = _ := Eq.trans (hf 2) (by conv => lhs; simp [go_sem])
  have y3 : A.eval (.tmp 3) = _ := hf 3
  have y4 : A.eval (.tmp 4) = _ := hf 4
  have y5 : A.eval (.tmp 5) = _ := hf 5
  have y6 : A.eval (.tmp 6) = _ := hf 6
  have y7 : A.eval (.tmp 7) = _ := hf 7
  have y8 : A.eval (.tmp 8) = _ := hf 8
  have y9 : A.eval (.tmp 9) = _ := hf 9
  have y10 : A.eval (.tmp 10) = _ := hf 10
  have y11 : A.eval (.tmp 11) = _ := hf 11
  have y12 : A.eval (.tmp 12) = _ := hf 12
  have y13 : A.eval (.tmp 13) = _ := hf 13
  have y14 : A.eval (.tmp 14) = _ := hf 14
  have y15 : A.eval (.tmp 15) = _ := hf 15
  have y16 : A.eval (.tmp 16) = _ := hf 16
  have y17 : A.eval (.tmp 17) = _ := hf 17
  have y18 : A.eval (.tmp 18) = _ := hf 18
  have y19 : A.eval (.tmp 19) = _ := hf 19
  have y20 : A.eval (.tmp 20) = _ := hf 20
  have y21 : A.eval (.tmp 21) = _ := hf 21
  have y22 : A.eval (.tmp 22) = _ := hf 22
  have y23 : A.eval (.tmp 23) = _ := hf 23
  have y24 : A.eval (.tmp 24) = _ := hf 24
  have y25 : A.eval (.tmp 25) = _ := hf 25
  have y26 : A.eval (.tmp 26) = _ := hf 26
  have y27 : A.eval (.tmp 27) = _ := hf 27
  clear hf
  have hA := frame_eq hn
  rw [show List.range 28 = [0, 1, 2, 3, 4, 5, 6, 7, 8, 9, 10, 11, 12, 13, 14, 15, 16, 17, 18, 19, 20, 21, 22, 23, 24, 25, 26, 27] from rfl, hd] at hA
  simp only [List.map_cons, List.map_nil, y0, y1, y2, y3, y4, y5, y6, y7, y8, y9, y10, y11, y12, y13, y14, y15, y16, y17, y18, y19, y20, y21, y22, y23, y24, y25, y26, y27] at hA
  clear y0 y1 y2 y3 y4 y5 y6 y7 y8 y9 y10 y11 y12 y13 y14 y15 y16 y17 y18 y19 y20 y21 y22 y23 y24 y25 y26 y27
  clear hn hd
  subst hA
  go_wp2_with fail
  go_ret
  exact ⟨rfl, HB.out.trans (hC.mono HB.out.size)⟩
set_option maxHeartbeats 8000000 in
theorem pcheck_c (M : Int) (a : Option Addr) (c : Nat) (ys : List Ob) (w : World) (hy : Os w (.slice a ys.length c) ys) (hl : ys.length ≤ 3000) (hN : (M != lft M) = false) (hL : 1 ≤ (ys.length : Int) ∧ (ys.length : Int) ≤ 32) (hR : ¬ AllOk ys) :
    Calls Tryz.prog 152 #[.agg #[.int .i64 M, .slice a ys.length c]] w fun e w' => e = .returned (.int .i64 1) ∧ Below w.heap.size w w' := by
  have cL : ∀ w, Calls Tryz.prog 108 #[.int .i64 M] w fun e w' => e = .returned (.int .i64 (lft M)) ∧ Below w.heap.size w w' := fun w => pleft_any M w
  have cC : ∀ w, Calls Tryz.prog 181 #[.int .i64 ys.length] w fun e w' => e = .returned (.bool true) ∧ w = w' := fun w => by have h := iscount_any ys.length w; rwa [decide_eq_true hL] at h
  have HY := Lib.hid (hy.alloc (.cells #[.int .i64 M, .slice a ys.length c] 69))
  have HB : Hid (Below w.heap.size w (w.alloc (.cells #[.int .i64 M, .slice a ys.length c] 69))) := (Below.refl _ w).alloc (Nat.le_refl _) _
  have k0 : (w.alloc (.cells #[.int .i64 M, .slice a ys.length c] 69)).cell? ⟨w.heap.size, 0, none⟩ = some (.int .i64 M) := by simp
  have k1 : (w.alloc (.cells #[.int .i64 M, .slice a ys.length c] 69)).cell? ⟨w.heap.size, 1, none⟩ = some (.slice a ys.length c) := by simp
  clear hy
  go_enter Tryz.func152, Tryz.ntmps152
  go_wp2_with fail
  generalize w.alloc (.cells #[.int .i64 M, .slice a ys.length c] 69) = V1 at *
  have kc : ∀ w', Below V1.heap.size V1 w' → w'.cell? ⟨w.heap.size, 0, none⟩ = some (.int .i64 M) ∧ w'.cell? ⟨w.heap.size, 1, none⟩ = some (.slice a ys.length c) := fun w' h =>
    ⟨by rw [h.cell (World.block_lt_of_cell? V1 _ k0)]; exact k0, by rw [h.cell (World.block_lt_of_cell? V1 _ k1)]; exact k1⟩
  have cR : ∀ w', Below V1.heap.size V1 w' → Calls Tryz.prog 106 #[.slice a ys.length c] w' fun e w'' => e = .returned (.bool false) ∧ Below w'.heap.size w' w'' := fun w' hb => by have h := areright_any (.slice a ys.length c) ys w' (HY.out.below hb) hl; rwa [decide_eq_false hR] at h

  refine wp_region_typed (C := fun w' => Below V1.heap.size V1 w') (X := fun w w' => Below w.heap.size w w') (n := 28) (by kernel_rfl) (by kernel_rfl) rfl (fun w => Below.refl _ w) (Below.refl _ _).drew ?_
  refine w_is (fun w => Below.refl _ w) _ (.inl rfl) (fun ρ w hC hc hfn hf => by have e1 : ρ (.tmp 1) = _ := hf 1 (by decide); (conv => lhs; simp [execOp, go_sem, hc, e1])) ?_
  refine w_is (fun w => Below.refl _ w) _ (.inl rfl) (fun ρ w hC hc hfn hf => by have e3 : ρ (.tmp 3) = _ := hf 3 (by decide); (conv => lhs; simp [execOp, go_sem, hc, e3, kc w hC])) ?_
  refine w_is (fun w => Below.refl _ w) _ (.inl rfl) (fun ρ w hC hc hfn hf => by have e1 : ρ (.tmp 1) = _ := hf 1 (by decide); (conv => lhs; simp [execOp, go_sem, hc, e1])) ?_
  refine w_is (fun w => Below.refl _ w) _ (.inl rfl) (fun ρ w hC hc hfn hf => by have e5 : ρ (.tmp 5) = _ := hf 5 (by decide); (conv => lhs; simp [execOp, go_sem, hc, e5, kc w hC])) ?_
  refine w_call (Is _) (fun _ _ _ h _ => h) 108 (.inl rfl) (fun ρ w hC hc hfn hf => by have e6 : ρ (.tmp 6) = _ := hf 6 (by decide); exact ⟨_, by (conv => lhs; simp [execOp, resolve, invoke, go_sem, hc, hfn, e6]), tc_below hC (cL w)⟩) ?_
  refine w_is (fun w => Below.refl _ w) _ (.inl rfl) (fun ρ w hC hc hfn hf => by have e4 : ρ (.tmp 4) = _ := hf 4 (by decide); have e7 : ρ (.tmp 7) = _ := hf 7 (by decide); (conv => lhs; simp [execOp, go_sem, hc, e4, e7, hN])) ?_
  refine w_is (fun w => Below.refl _ w) _ (.inl rfl) (fun ρ w hC hc hfn hf => by have e8 : ρ (.tmp 8) = _ := hf 8 (by decide); (conv => lhs; simp [execOp, go_sem, hc, e8])) ?_
  refine w_is (fun w => Below.refl _ w) _ (.inr ⟨6, 9, false, rfl, rfl, known_is rfl⟩) (fun ρ w hC hc hfn hf => by have e1 : ρ (.tmp 1) = _ := hf 1 (by decide); (conv => lhs; simp [execOp, go_sem, hc, e1])) ?_
  refine w_is (fun w => Below.refl _ w) _ (.inr ⟨6, 9, false, rfl, rfl, known_is rfl⟩) (fun ρ w hC hc hfn hf => by have e10 : ρ (.tmp 10) = _ := hf 10 (by decide); (conv => lhs; simp [execOp, go_sem, hc, e10, kc w hC])) ?_
  refine w_is (fun w => Below.refl _ w) _ (.inr ⟨6, 9, false, rfl, rfl, known_is rfl⟩) (fun ρ w hC hc hfn hf => by have e11 : ρ (.tmp 11) = _ := hf 11 (by decide); (conv => lhs; simp [execOp, go_sem, hc, e11])) ?_
  refine w_call (Is _) (fun _ _ _ h _ => h) 181 (.inr ⟨6, 9, false, rfl, rfl, known_is rfl⟩) (fun ρ w hC hc hfn hf => by have e12 : ρ (.tmp 12) = _ := hf 12 (by decide); exact ⟨_, by (conv => lhs; simp [execOp, resolve, invoke, go_sem, hc, hfn, e12]), tc_same hC (cC w)⟩) ?_
  refine w_is (fun w => Below.refl _ w) _ (.inr ⟨6, 9, false, rfl, rfl, known_is rfl⟩) (fun ρ w hC hc hfn hf => by have e13 : ρ (.tmp 13) = _ := hf 13 (by decide); (conv => lhs; simp [execOp, go_sem, hc, e13])) ?_
  refine w_is (fun w => Below.refl _ w) _ (.inl rfl) (fun ρ w hC hc hfn hf => by have e9 : ρ (.tmp 9) = _ := hf 9 (by decide); have e14 : ρ (.tmp 14) = _ := hf 14 (by decide); (conv => lhs; simp [execOp, go_sem, hc, e9, e14])) ?_
  refine w_is (fun w => Below.refl _ w) _ (.inl rfl) (fun ρ w hC hc hfn hf => by have e15 : ρ (.tmp 15) = _ := hf 15 (by decide); (conv => lhs; simp [execOp, go_sem, hc, e15])) ?_
  refine w_is (fun w => Below.refl _ w) _ (.inr ⟨13, 16, false, rfl, rfl, known_is rfl⟩) (fun ρ w hC hc hfn hf => by have e1 : ρ (.tmp 1) = _ := hf 1 (by decide); (conv => lhs; simp [execOp, go_sem, hc, e1])) ?_
  refine w_is (fun w => Below.refl _ w) _ (.inr ⟨13, 16, false, rfl, rfl, known_is rfl⟩) (fun ρ w hC hc hfn hf => by have e17 : ρ (.tmp 17) = _ := hf 17 (by decide); (conv => lhs; simp [execOp, go_sem, hc, e17, kc w hC])) ?_
  refine w_call (Is _) (fun _ _ _ h _ => h) 106 (.inr ⟨13, 16, false, rfl, rfl, known_is rfl⟩) (fun ρ w hC hc hfn hf => by have e18 : ρ (.tmp 18) = _ := hf 18 (by decide); exact ⟨_, by (conv => lhs; simp [execOp, resolve, invoke, go_sem, hc, hfn, e18]), tc_below hC (cR w hC)⟩) ?_
  refine w_is (fun w => Below.refl _ w) _ (.inr ⟨13, 16, false, rfl, rfl, known_is rfl⟩) (fun ρ w hC hc hfn hf => by have e19 : ρ (.tmp 19) = _ := hf 19 (by decide); (conv => lhs; simp [execOp, go_sem, hc, e19])) ?_
  refine w_is (fun w => Below.refl _ w) _ (.inl rfl) (fun ρ w hC hc hfn hf => by have e16 : ρ (.tmp 16) = _ := hf 16 (by decide); have e20 : ρ (.tmp 20) = _ := hf 20 (by decide); (conv => lhs; simp [execOp, go_sem, hc, e16, e20])) ?_
  refine w_is (fun w => Below.refl _ w) _ (.inl rfl) (fun ρ w hC hc hfn hf => by have e21 : ρ (.tmp 21) = _ := hf 21 (by decide); (conv => lhs; simp [execOp, go_sem, hc, e21])) ?_
  refine w_skip rfl rfl (known_is rfl) ?_
  refine w_skip rfl rfl (known_is rfl) ?_
  refine w_skip rfl rfl (known_is rfl) ?_
  refine w_skip rfl rfl (known_is rfl) ?_
  refine w_is (fun w => Below.refl _ w) _ (.inl rfl) (fun ρ w hC hc hfn hf => by have e22 : ρ (.tmp 22) = _ := hf 22 (by decide); have e26 : ρ (.tmp 26) = _ := hf 26 (by decide); (conv => lhs; simp [execOp, go_sem, hc, e22, e26])) ?_
  intro A V5 hC hn hd hf
  have y0 : A.eval (.tmp 0) = _ := Eq.trans (hf 0) (by conv => lhs; simp [go_sem])
  have y1 : A.eval (.tmp 1) = _ := Eq.trans (hf 1) (by conv => lhs; simp [go_sem])
  have y2 : A.eval (.tmp 2) = _ := Eq.trans (hf 2) (by conv => lhs; simp [go_sem])
  have y3 : A.eval (.tmp 3) = _ := hf 3
  have y4 : A.eval (.tmp 4) = _ := hf 4
  have y5 : A.eval (.tmp 5) = _ := hf 5
  have y6 : A.eval (.tmp 6) = _ := hf 6
  have y7 : A.eval (.tmp 7) = _ := hf 7
  have y8 : A.eval (.tmp 8) = _ := hf 8
  have y9 : A.eval (.tmp 9) = _ := hf 9
  have y10 : A.eval (.tmp 10) = _ := hf 10
  have y11 : A.eval (.tmp 11) = _ := hf 11
  have y12 : A.eval (.tmp 12) = _ := hf 12
  have y13 : A.eval (.tmp 13) = _ := hf 13
  have y14 : A.eval (.tmp 14) = _ := hf 14
  have y15 : A.eval (.tmp 15) = _ := hf 15
  have y16 : A.eval (.tmp 16) = _ := hf 16
  have y17 : A.eval (.tmp 17) = _ := hf 17
  have y18 : A.eval (.tmp 18) = _ := hf 18
  have y19 : A.eval (.tmp 19) = _ := hf 19
  have y20 : A.eval (.tmp 20) = _ := hf 20
  have y21 : A.eval (.tmp 21) = _ := hf 21
  have y22 : A.eval (.tmp 22) = _ := hf 22
  have y23 : A.eval (.tmp 23) = _ := hf 23
  have y24 : A.eval (.tmp 24) = _ := hf 24
  have y25 : A.eval (.tmp 25) = _ := hf 25
  have y26 : A.eval (.tmp 26) = _ := hf 26
  have y27 : A.eval (.tmp 27) = _ := hf 27
  clear hf
  have hA := frame_eq hn
  rw [show List.range 28 = [0, 1, 2, 3, 4, 5, 6, 7, 8, 9, 10, 11, 12, 13, 14, 15, 16, 17, 18, 19, 20, 21, 22, 23, 24, 25, 26, 27] from rfl, hd] at hA
  simp only [List.map_cons, List.map_nil, y0, y1, y2, y3, y4, y5, y6, y7, y8, y9, y10, y11, y12, y13, y14, y15, y16, y17, y18, y19, y20, y21, y22, y23, y24, y25, y26, y27] at hA
  clear y0 y1 y2 y3 y4 y5 y6 y7 y8 y9 y10 y11 y12 y13 y14 y15 y16 y17 y18 y19 y20 y21 y22 y23 y24 y25 y26 y27
  clear hn hd
  subst hA
  go_wp2_with fail
  go_ret
  exact ⟨rfl, HB.out.trans (hC.mono HB.out.size)⟩
set_option maxHeartbeats 8000000 in
theorem pcheck_d (M : Int) (a : Option Addr) (c : Nat) (ys : List Ob) (w : World) (hy : Os w (.slice a ys.length c) ys) (hl : ys.length ≤ 3000) (hN : (M != lft M) = false) (hL : 1 ≤ (ys.length : Int) ∧ (ys.length : Int) ≤ 32) (hR : AllOk ys) (hZ : (512 : Int) < 3 + (osz ys : Int)) :
    Calls Tryz.prog 152 #[.agg #[.int .i64 M, .slice a ys.length c]] w fun e w' => e = .returned (.int .i64 1) ∧ Below w.heap.size w w' := by
  have cL : ∀ w, Calls Tryz.prog 108 #[.int .i64 M] w fun e w' => e = .returned (.int .i64 (lft M)) ∧ Below w.heap.size w w' := fun w => pleft_any M w
  have cC : ∀ w, Calls Tryz.prog 181 #[.int .i64 ys.length] w fun e w' => e = .returned (.bool true) ∧ w = w' := fun w => by have h := iscount_any ys.length w; rwa [decide_eq_true hL] at h
  have HY := Lib.hid (hy.alloc (.cells #[.int .i64 M, .slice a ys.length c] 69))
  have HB : Hid (Below w.heap.size w (w.alloc (.cells #[.int .i64 M, .slice a ys.length c] 69))) := (Below.refl _ w).alloc (Nat.le_refl _) _
  have k0 : (w.alloc (.cells #[.int .i64 M, .slice a ys.length c] 69)).cell? ⟨w.heap.size, 0, none⟩ = some (.int .i64 M) := by simp
  have k1 : (w.alloc (.cells #[.int .i64 M, .slice a ys.length c] 69)).cell? ⟨w.heap.size, 1, none⟩ = some (.slice a ys.length c) := by simp
  clear hy
  go_enter Tryz.func152, Tryz.ntmps152
  go_wp2_with fail
  generalize w.alloc (.cells #[.int .i64 M, .slice a ys.length c] 69) = V1 at *
  have kc : ∀ w', Below V1.heap.size V1 w' → w'.cell? ⟨w.heap.size, 0, none⟩ = some (.int .i64 M) ∧ w'.cell? ⟨w.heap.size, 1, none⟩ = some (.slice a ys.length c) := fun w' h =>
    ⟨by rw [h.cell (World.block_lt_of_cell? V1 _ k0)]; exact k0, by rw [h.cell (World.block_lt_of_cell? V1 _ k1)]; exact k1⟩
  have cR : ∀ w', Below V1.heap.size V1 w' → Calls Tryz.prog 106 #[.slice a ys.length c] w' fun e w'' => e = .returned (.bool true) ∧ Below w'.heap.size w' w'' := fun w' hb => by have h := areright_any (.slice a ys.length c) ys w' (HY.out.below hb) hl; rwa [decide_eq_true hR] at h
  have cZ : ∀ w', Below V1.heap.size V1 w' → Calls Tryz.prog 182 #[.slice a ys.length c] w' fun e w'' => e = .returned (.int .i64 (3 + (osz ys : Int))) ∧ Below w'.heap.size w' w'' := fun w' hb => psize_any (.slice a ys.length c) ys w' (HY.out.below hb) hl

  refine wp_region_typed (C := fun w' => Below V1.heap.size V1 w') (X := fun w w' => Below w.heap.size w w') (n := 28) (by kernel_rfl) (by kernel_rfl) rfl (fun w => Below.refl _ w) (Below.refl _ _).drew ?_
  refine w_is (fun w => Below.refl _ w) _ (.inl rfl) (fun ρ w hC hc hfn hf => by have e1 : ρ (.tmp 1) = _ := hf 1 (by decide); (conv => lhs; simp [execOp, go_sem, hc, e1])) ?_
  refine w_is (fun w => Below.refl _ w) _ (.inl rfl) (fun ρ w hC hc hfn hf => by have e3 : ρ (.tmp 3) = _ := hf 3 (by decide); (conv => lhs; simp [execOp, go_sem, hc, e3, kc w hC])) ?_
  refine w_is (fun w => Below.refl _ w) _ (.inl rfl) (fun ρ w hC hc hfn hf => by have e1 : ρ (.tmp 1) = _ := hf 1 (by decide); (conv => lhs; simp [execOp, go_sem, hc, e1])) ?_
  refine w_is (fun w => Below.refl _ w) _ (.inl rfl) (fun ρ w hC hc hfn hf => by have e5 : ρ (.tmp 5) = _ := hf 5 (by decide); (conv => lhs; simp [execOp, go_sem, hc, e5, kc w hC])) ?_
  refine w_call (Is _) (fun _ _ _ h _ => h) 108 (.inl rfl) (fun ρ w hC hc hfn hf => by have e6 : ρ (.tmp 6) = _ := hf 6 (by decide); exact ⟨_, by (conv => lhs; simp [execOp, resolve, invoke, go_sem, hc, hfn, e6]), tc_below hC (cL w)⟩) ?_
  refine w_is (fun w => Below.refl _ w) _ (.inl rfl) (fun ρ w hC hc hfn hf => by have e4 : ρ (.tmp 4) = _ := hf 4 (by decide); have e7 : ρ (.tmp 7) = _ := hf 7 (by decide); (conv => lhs; simp [execOp, go_sem, hc, e4, e7, hN])) ?_
  refine w_is (fun w => Below.refl _ w) _ (.inl rfl) (fun ρ w hC hc hfn hf => by have e8 : ρ (.tmp 8) = _ := hf 8 (by decide); (conv => lhs; simp [execOp, go_sem, hc, e8])) ?_
  refine w_is (fun w => Below.refl _ w) _ (.inr ⟨6, 9, false, rfl, rfl, known_is rfl⟩) (fun ρ w hC hc hfn hf => by have e1 : ρ (.tmp 1) = _ := hf 1 (by decide); (conv => lhs; simp [execOp, go_sem, hc, e1])) ?_
  refine w_is (fun w => Below.refl _ w) _ (.inr ⟨6, 9, false, rfl, rfl, known_is rfl⟩) (fun ρ w hC hc hfn hf => by have e10 : ρ (.tmp 10) = _ := hf 10 (by decide); (conv => lhs; simp [execOp, go_sem, hc, e10, kc w hC])) ?_
  refine w_is (fun w => Below.refl _ w) _ (.inr ⟨6, 9, false, rfl, rfl, known_is rfl⟩) (fun ρ w hC hc hfn hf => by have e11 : ρ (.tmp 11) = _ := hf 11 (by decide); (conv => lhs; simp [execOp, go_sem, hc, e11])) ?_
  refine w_call (Is _) (fun _ _ _ h _ => h) 181 (.inr ⟨6, 9, false, rfl, rfl, known_is rfl⟩) (fun ρ w hC hc hfn hf => by have e12 : ρ (.tmp 12) = _ := hf 12 (by decide); exact ⟨_, by (conv => lhs; simp [execOp, resolve, invoke, go_sem, hc, hfn, e12]), tc_same hC (cC w)⟩) ?_
  refine w_is (fun w => Below.refl _ w) _ (.inr ⟨6, 9, false, rfl, rfl, known_is rfl⟩) (fun ρ w hC hc hfn hf => by have e13 : ρ (.tmp 13) = _ := hf 13 (by decide); (conv => lhs; simp [execOp, go_sem, hc, e13])) ?_
  refine w_is (fun w => Below.refl _ w) _ (.inl rfl) (fun ρ w hC hc hfn hf => by have e9 : ρ (.tmp 9) = _ := hf 9 (by decide); have e14 : ρ (.tmp 14) = _ := hf 14 (by decide); (conv => lhs; simp [execOp, go_sem, hc, e9, e14])) ?_
  refine w_is (fun w => Below.refl _ w) _ (.inl rfl) (fun ρ w hC hc hfn hf => by have e15 : ρ (.tmp 15) = _ := hf 15 (by decide); (conv => lhs; simp [execOp, go_sem, hc, e15])) ?_
  refine w_is (fun w => Below.refl _ w) _ (.inr ⟨13, 16, false, rfl, rfl, known_is rfl⟩) (fun ρ w hC hc hfn hf => by have e1 : ρ (.tmp 1) = _ := hf 1 (by decide); (conv => lhs; simp [execOp, go_sem, hc, e1])) ?_
  refine w_is (fun w => Below.refl _ w) _ (.inr ⟨13, 16, false, rfl, rfl, known_is rfl⟩) (fun ρ w hC hc hfn hf => by have e17 : ρ (.tmp 17) = _ := hf 17 (by decide); (conv => lhs; simp [execOp, go_sem, hc, e17, kc w hC])) ?_
  refine w_call (Is _) (fun _ _ _ h _ => h) 106 (.inr ⟨13, 16, false, rfl, rfl, known_is rfl⟩) (fun ρ w hC hc hfn hf => by have e18 : ρ (.tmp 18) = _ := hf 18 (by decide); exact ⟨_, by (conv => lhs; simp [execOp, resolve, invoke, go_sem, hc, hfn, e18]), tc_below hC (cR w hC)⟩) ?_
  refine w_is (fun w => Below.refl _ w) _ (.inr ⟨13, 16, false, rfl, rfl, known_is rfl⟩) (fun ρ w hC hc hfn hf => by have e19 : ρ (.tmp 19) = _ := hf 19 (by decide); (conv => lhs; simp [execOp, go_sem, hc, e19])) ?_
  refine w_is (fun w => Below.refl _ w) _ (.inl rfl) (fun ρ w hC hc hfn hf => by have e16 : ρ (.tmp 16) = _ := hf 16 (by decide); have e20 : ρ (.tmp 20) = _ := hf 20 (by decide); (conv => lhs; simp [execOp, go_sem, hc, e16, e20])) ?_
  refine w_is (fun w => Below.refl _ w) _ (.inl rfl) (fun ρ w hC hc hfn hf => by have e21 : ρ (.tmp 21) = _ := hf 21 (by decide); (conv => lhs; simp [execOp, go_sem, hc, e21])) ?_
  refine w_is (fun w => Below.refl _ w) _ (.inr ⟨19, 22, false, rfl, rfl, known_is rfl⟩) (fun ρ w hC hc hfn hf => by have e1 : ρ (.tmp 1) = _ := hf 1 (by decide); (conv => lhs; simp [execOp, go_sem, hc, e1])) ?_
  refine w_is (fun w => Below.refl _ w) _ (.inr ⟨19, 22, false, rfl, rfl, known_is rfl⟩) (fun ρ w hC hc hfn hf => by have e23 : ρ (.tmp 23) = _ := hf 23 (by decide); (conv => lhs; simp [execOp, go_sem, hc, e23, kc w hC])) ?_
  refine w_call (Is _) (fun _ _ _ h _ => h) 182 (.inr ⟨19, 22, false, rfl, rfl, known_is rfl⟩) (fun ρ w hC hc hfn hf => by have e24 : ρ (.tmp 24) = _ := hf 24 (by decide); exact ⟨_, by (conv => lhs; simp [execOp, resolve, invoke, go_sem, hc, hfn, e24]), tc_below hC (cZ w hC)⟩) ?_
  refine w_is (fun w => Below.refl _ w) _ (.inr ⟨19, 22, false, rfl, rfl, known_is rfl⟩) (fun ρ w hC hc hfn hf => by have e25 : ρ (.tmp 25) = _ := hf 25 (by decide); (conv => lhs; simp [execOp, go_sem, hc, e25, hZ])) ?_
  refine w_is (fun w => Below.refl _ w) _ (.inl rfl) (fun ρ w hC hc hfn hf => by have e22 : ρ (.tmp 22) = _ := hf 22 (by decide); have e26 : ρ (.tmp 26) = _ := hf 26 (by decide); (conv => lhs; simp [execOp, go_sem, hc, e22, e26])) ?_
  intro A V5 hC hn hd hf
  have y0 : A.eval (.tmp 0) = _ := Eq.trans (hf 0) (by conv => lhs; simp [go_sem])
  have y1 : A.eval (.tmp 1) = _ := Eq.trans (hf 1) (by conv => lhs; simp [go_sem])
  have y2 : A.eval (.tmp 2) = _ := Eq.trans (hf 2) (by conv => lhs; simp [go_sem])
  have y3 : A.eval (.tmp 3) = _ := hf 3
  have y4 : A.eval (.tmp 4) = _ := hf 4
  have y5 : A.eval (.tmp 5) = _ := hf 5
  have y6 : A.eval (.tmp 6) = _ := hf 6
  have y7 : A.eval (.tmp 7) = _ := hf 7
  have y8 : A.eval (.tmp 8) = _ := hf 8
  have y9 : A.eval (.tmp 9) = _ := hf 9
  have y10 : A.eval (.tmp 10) = _ := hf 10
  have y11 : A.eval (.tmp 11) = _ := hf 11
  have y12 : A.eval (.tmp 12) = _ := hf 12
  have y13 : A.eval (.tmp 13) = _ := hf 13
  have y14 : A.eval (.tmp 14) = _ := hf 14
  have y15 : A.eval (.tmp 15) = _ := hf 15
  have y16 : A.eval (.tmp 16) = _ := hf 16
  have y17 : A.eval (.tmp 17) = _ := hf 17
  have y18 : A.eval (.tmp 18) = _ := hf 18
  have y19 : A.eval (.tmp 19) = _ := hf 19
  have y20 : A.eval (.tmp 20) = _ := hf 20
  have y21 : A.eval (.tmp 21) = _ := hf 21
  have y22 : A.eval (.tmp 22) = _ := hf 22
  have y23 : A.eval (.tmp 23) = _ := hf 23
  have y24 : A.eval (.tmp 24) = _ := hf 24
  have y25 : A.eval (.tmp 25) = _ := hf 25
  have y26 : A.eval (.tmp 26) = _ := hf 26
  have y27 : A.eval (.tmp 27) = _ := hf 27
  clear hf
  have hA := frame_eq hn
  rw [show List.range 28 = [0, 1, 2, 3, 4, 5, 6, 7, 8, 9, 10, 11, 12, 13, 14, 15, 16, 17, 18, 19, 20, 21, 22, 23, 24, 25, 26, 27] from rfl, hd] at hA
  simp only [List.map_cons, List.map_nil, y0, y1, y2, y3, y4, y5, y6, y7, y8, y9, y10, y11, y12, y13, y14, y15, y16, y17, y18, y19, y20, y21, y22, y23, y24, y25, y26, y27] at hA
  clear y0 y1 y2 y3 y4 y5 y6 y7 y8 y9 y10 y11 y12 y13 y14 y15 y16 y17 y18 y19 y20 y21 y22 y23 y24 y25 y26 y27
  clear hn hd
  subst hA
  go_wp2_with fail
  go_ret
  exact ⟨rfl, HB.out.trans (hC.mono HB.out.size)⟩
set_option maxHeartbeats 8000000 in
theorem pcheck_e (M : Int) (a : Option Addr) (c : Nat) (ys : List Ob) (w : World) (hy : Os w (.slice a ys.length c) ys) (hl : ys.length ≤ 3000) (hN : (M != lft M) = false) (hL : 1 ≤ (ys.length : Int) ∧ (ys.length : Int) ≤ 32) (hR : AllOk ys) (hZ : ¬ (512 : Int) < 3 + (osz ys : Int)) :
    Calls Tryz.prog 152 #[.agg #[.int .i64 M, .slice a ys.length c]] w fun e w' => e = .returned (.int .i64 0) ∧ Below w.heap.size w w' := by
  have cL : ∀ w, Calls Tryz.prog 108 #[.int .i64 M] w fun e w' => e = .returned (.int .i64 (lft M)) ∧ Below w.heap.size w w' := fun w => pleft_any M w
  have cC : ∀ w, Calls Tryz.prog 181 #[.int .i64 ys.length] w fun e w' => e = .returned (.bool true) ∧ w = w' := fun w => by have h := iscount_any ys.length w; rwa [decide_eq_true hL] at h
  have HY := Lib.hid (hy.alloc (.cells #[.int .i64 M, .slice a ys.length c] 69))
  have HB : Hid (Below w.heap.size w (w.alloc (.cells #[.int .i64 M, .slice a ys.length c] 69))) := (Below.refl _ w).alloc (Nat.le_refl _) _
  have k0 : (w.alloc (.cells #[.int .i64 M, .slice a ys.length c] 69)).cell? ⟨w.heap.size, 0, none⟩ = some (.int .i64 M) := by simp
  have k1 : (w.alloc (.cells #[.int .i64 M, .slice a ys.length c] 69)).cell? ⟨w.heap.size, 1, none⟩ = some (.slice a ys.length c) := by simp
  clear hy
  go_enter Tryz.func152, Tryz.ntmps152
  go_wp2_with fail
  generalize w.alloc (.cells #[.int .i64 M, .slice a ys.length c] 69) = V1 at *
  have kc : ∀ w', Below V1.heap.size V1 w' → w'.cell? ⟨w.heap.size, 0, none⟩ = some (.int .i64 M) ∧ w'.cell? ⟨w.heap.size, 1, none⟩ = some (.slice a ys.length c) := fun w' h =>
    ⟨by rw [h.cell (World.block_lt_of_cell? V1 _ k0)]; exact k0, by rw [h.cell (World.block_lt_of_cell? V1 _ k1)]; exact k1⟩
  have cR : ∀ w', Below V1.heap.size V1 w' → Calls Tryz.prog 106 #[.slice a ys.length c] w' fun e w'' => e = .returned (.bool true) ∧ Below w'.heap.size w' w'' := fun w' hb => by have h := areright_any (.slice a ys.length c) ys w' (HY.out.below hb) hl; rwa [decide_eq_true hR] at h
  have cZ : ∀ w', Below V1.heap.size V1 w' → Calls Tryz.prog 182 #[.slice a ys.length c] w' fun e w'' => e = .returned (.int .i64 (3 + (osz ys : Int))) ∧ Below w'.heap.size w' w'' := fun w' hb => psize_any (.slice a ys.length c) ys w' (HY.out.below hb) hl

  refine wp_region_typed (C := fun w' => Below V1.heap.size V1 w') (X := fun w w' => Below w.heap.size w w') (n := 28) (by kernel_rfl) (by kernel_rfl) rfl (fun w => Below.refl _ w) (Below.refl _ _).drew ?_
  refine w_is (fun w => Below.refl _ w) _ (.inl rfl) (fun ρ w hC hc hfn hf => by have e1 : ρ (.tmp 1) = _ := hf 1 (by decide); (conv => lhs; simp [execOp, go_sem, hc, e1])) ?_
  refine w_is (fun w => Below.refl _ w) _ (.inl rfl) (fun ρ w hC hc hfn hf => by have e3 : ρ (.tmp 3) = _ := hf 3 (by decide); (conv => lhs; simp [execOp, go_sem, hc, e3, kc w hC])) ?_
  refine w_is (fun w => Below.refl _ w) _ (.inl rfl) (fun ρ w hC hc hfn hf => by have e1 : ρ (.tmp 1) = _ := hf 1 (by decide); (conv => lhs; simp [execOp, go_sem, hc, e1])) ?_
  refine w_is (fun w => Below.refl _ w) _ (.inl rfl) (fun ρ w hC hc hfn hf => by have e5 : ρ (.tmp 5) = _ := hf 5 (by decide); (conv => lhs; simp [execOp, go_sem, hc, e5, kc w hC])) ?_
  refine w_call (Is _) (fun _ _ _ h _ => h) 108 (.inl rfl) (fun ρ w hC hc hfn hf => by have e6 : ρ (.tmp 6) = _ := hf 6 (by decide); exact ⟨_, by (conv => lhs; simp [execOp, resolve, invoke, go_sem, hc, hfn, e6]), tc_below hC (cL w)⟩) ?_
  refine w_is (fun w => Below.refl _ w) _ (.inl rfl) (fun ρ w hC hc hfn hf => by have e4 : ρ (.tmp 4) = _ := hf 4 (by decide); have e7 : ρ (.tmp 7) = _ := hf 7 (by decide); (conv => lhs; simp [execOp, go_sem, hc, e4, e7, hN])) ?_
  refine w_is (fun w => Below.refl _ w) _ (.inl rfl) (fun ρ w hC hc hfn hf => by have e8 : ρ (.tmp 8) = _ := hf 8 (by decide); (conv => lhs; simp [execOp, go_sem, hc, e8])) ?_
  refine w_is (fun w => Below.refl _ w) _ (.inr ⟨6, 9, false, rfl, rfl, known_is rfl⟩) (fun ρ w hC hc hfn hf => by have e1 : ρ (.tmp 1) = _ := hf 1 (by decide); (conv => lhs; simp [execOp, go_sem, hc, e1])) ?_
  refine w_is (fun w => Below.refl _ w) _ (.inr ⟨6, 9, false, rfl, rfl, known_is rfl⟩) (fun ρ w hC hc hfn hf => by have e10 : ρ (.tmp 10) = _ := hf 10 (by decide); (conv => lhs; simp [execOp, go_sem, hc, e10, kc w hC])) ?_
  refine w_is (fun w => Below.refl _ w) _ (.inr ⟨6, 9, false, rfl, rfl, known_is rfl⟩) (fun ρ w hC hc hfn hf => by have e11 : ρ (.tmp 11) = _ := hf 11 (by decide); (conv => lhs; simp [execOp, go_sem, hc, e11])) ?_
  refine w_call (Is _) (fun _ _ _ h _ => h) 181 (.inr ⟨6, 9, false, rfl, rfl, known_is rfl⟩) (fun ρ w hC hc hfn hf => by have e12 : ρ (.tmp 12) = _ := hf 12 (by decide); exact ⟨_, by (conv => lhs; simp [execOp, resolve, invoke, go_sem, hc, hfn, e12]), tc_same hC (cC w)⟩) ?_
  refine w_is (fun w => Below.refl _ w) _ (.inr ⟨6, 9, false, rfl, rfl, known_is rfl⟩) (fun ρ w hC hc hfn hf => by have e13 : ρ (.tmp 13) = _ := hf 13 (by decide); (conv => lhs; simp [execOp, go_sem, hc, e13])) ?_
  refine w_is (fun w => Below.refl _ w) _ (.inl rfl) (fun ρ w hC hc hfn hf => by have e9 : ρ (.tmp 9) = _ := hf 9 (by decide); have e14 : ρ (.tmp 14) = _ := hf 14 (by decide); (conv => lhs; simp [execOp, go_sem, hc, e9, e14])) ?_
  refine w_is (fun w => Below.refl _ w) _ (.inl rfl) (fun ρ w hC hc hfn hf => by have e15 : ρ (.tmp 15) = _ := hf 15 (by decide); (conv => lhs; simp [execOp, go_sem, hc, e15])) ?_
  refine w_is (fun w => Below.refl _ w) _ (.inr ⟨13, 16, false, rfl, rfl, known_is rfl⟩) (fun ρ w hC hc hfn hf => by have e1 : ρ (.tmp 1) = _ := hf 1 (by decide); (conv => lhs; simp [execOp, go_sem, hc, e1])) ?_
  refine w_is (fun w => Below.refl _ w) _ (.inr ⟨13, 16, false, rfl, rfl, known_is rfl⟩) (fun ρ w hC hc hfn hf => by have e17 : ρ (.tmp 17) = _ := hf 17 (by decide); (conv => lhs; simp [execOp, go_sem, hc, e17, kc w hC])) ?_
  refine w_call (Is _) (fun _ _ _ h _ => h) 106 (.inr ⟨13, 16, false, rfl, rfl, known_is rfl⟩) (fun ρ w hC hc hfn hf => by have e18 : ρ (.tmp 18) = _ := hf 18 (by decide); exact ⟨_, by (conv => lhs; simp [execOp, resolve, invoke, go_sem, hc, hfn, e18]), tc_below hC (cR w hC)⟩) ?_
  refine w_is (fun w => Below.refl _ w) _ (.inr ⟨13, 16, false, rfl, rfl, known_is rfl⟩) (fun ρ w hC hc hfn hf => by have e19 : ρ (.tmp 19) = _ := hf 19 (by decide); (conv => lhs; simp [execOp, go_sem, hc, e19])) ?_
  refine w_is (fun w => Below.refl _ w) _ (.inl rfl) (fun ρ w hC hc hfn hf => by have e16 : ρ (.tmp 16) = _ := hf 16 (by decide); have e20 : ρ (.tmp 20) = _ := hf 20 (by decide); (conv => lhs; simp [execOp, go_sem, hc, e16, e20])) ?_
  refine w_is (fun w => Below.refl _ w) _ (.inl rfl) (fun ρ w hC hc hfn hf => by have e21 : ρ (.tmp 21) = _ := hf 21 (by decide); (conv => lhs; simp [execOp, go_sem, hc, e21])) ?_
  refine w_is (fun w => Below.refl _ w) _ (.inr ⟨19, 22, false, rfl, rfl, known_is rfl⟩) (fun ρ w hC hc hfn hf => by have e1 : ρ (.tmp 1) = _ := hf 1 (by decide); (conv => lhs; simp [execOp, go_sem, hc, e1])) ?_
  refine w_is (fun w => Below.refl _ w) _ (.inr ⟨19, 22, false, rfl, rfl, known_is rfl⟩) (fun ρ w hC hc hfn hf => by have e23 : ρ (.tmp 23) = _ := hf 23 (by decide); (conv => lhs; simp [execOp, go_sem, hc, e23, kc w hC])) ?_
  refine w_call (Is _) (fun _ _ _ h _ => h) 182 (.inr ⟨19, 22, false, rfl, rfl, known_is rfl⟩) (fun ρ w hC hc hfn hf => by have e24 : ρ (.tmp 24) = _ := hf 24 (by decide); exact ⟨_, by (conv => lhs; simp [execOp, resolve, invoke, go_sem, hc, hfn, e24]), tc_below hC (cZ w hC)⟩) ?_
  refine w_is (fun w => Below.refl _ w) _ (.inr ⟨19, 22, false, rfl, rfl, known_is rfl⟩) (fun ρ w hC hc hfn hf => by have e25 : ρ (.tmp 25) = _ := hf 25 (by decide); (conv => lhs; simp [execOp, go_sem, hc, e25, hZ])) ?_
  refine w_is (fun w => Below.refl _ w) _ (.inl rfl) (fun ρ w hC hc hfn hf => by have e22 : ρ (.tmp 22) = _ := hf 22 (by decide); have e26 : ρ (.tmp 26) = _ := hf 26 (by decide); (conv => lhs; simp [execOp, go_sem, hc, e22, e26])) ?_
  intro A V5 hC hn hd hf
  have y0 : A.eval (.tmp 0) = _ := Eq.trans (hf 0) (by conv => lhs; simp [go_sem])
  have y1 : A.eval (.tmp 1) = _ := Eq.trans (hf 1) (by conv => lhs; simp [go_sem])
  have y2 : A.eval (.tmp 2) = _ := Eq.trans (hf 2) (by conv => lhs; simp [go_sem])
  have y3 : A.eval (.tmp 3) = _ := hf 3
  have y4 : A.eval (.tmp 4) = _ := hf 4
  have y5 : A.eval (.tmp 5) = _ := hf 5
  have y6 : A.eval (.tmp 6) = _ := hf 6
  have y7 : A.eval (.tmp 7) = _ := hf 7
  have y8 : A.eval (.tmp 8) = _ := hf 8
  have y9 : A.eval (.tmp 9) = _ := hf 9
  have y10 : A.eval (.tmp 10) = _ := hf 10
  have y11 : A.eval (.tmp 11) = _ := hf 11
  have y12 : A.eval (.tmp 12) = _ := hf 12
  have y13 : A.eval (.tmp 13) = _ := hf 13
  have y14 : A.eval (.tmp 14) = _ := hf 14
  have y15 : A.eval (.tmp 15) = _ := hf 15
  have y16 : A.eval (.tmp 16) = _ := hf 16
  have y17 : A.eval (.tmp 17) = _ := hf 17
  have y18 : A.eval (.tmp 18) = _ := hf 18
  have y19 : A.eval (.tmp 19) = _ := hf 19
  have y20 : A.eval (.tmp 20) = _ := hf 20
  have y21 : A.eval (.tmp 21) = _ := hf 21
  have y22 : A.eval (.tmp 22) = _ := hf 22
  have y23 : A.eval (.tmp 23) = _ := hf 23
  have y24 : A.eval (.tmp 24) = _ := hf 24
  have y25 : A.eval (.tmp 25) = _ := hf 25
  have y26 : A.eval (.tmp 26) = _ := hf 26
  have y27 : A.eval (.tmp 27) = _ := hf 27
  clear hf
  have hA := frame_eq hn
  rw [show List.range 28 = [0, 1, 2, 3, 4, 5, 6, 7, 8, 9, 10, 11, 12, 13, 14, 15, 16, 17, 18, 19, 20, 21, 22, 23, 24, 25, 26, 27] from rfl, hd] at hA
  simp only [List.map_cons, List.map_nil, y0, y1, y2, y3, y4, y5, y6, y7, y8, y9, y10, y11, y12, y13, y14, y15, y16, y17, y18, y19, y20, y21, y22, y23, y24, y25, y26, y27] at hA
  clear y0 y1 y2 y3 y4 y5 y6 y7 y8 y9 y10 y11 y12 y13 y14 y15 y16 y17 y18 y19 y20 y21 y22 y23 y24 y25 y26 y27
  clear hn hd
  subst hA
  go_wp2_with fail
  go_ret
  exact ⟨rfl, HB.out.trans (hC.mono HB.out.size)⟩
theorem pcheck_any (M : Int) (v : Value) (ys : List Ob) (w : World) (hy : Os w v ys) (hl : ys.length ≤ 3000) :
    Calls Tryz.prog 152 #[.agg #[.int .i64 M, v]] w fun e w' => e = .returned (.int .i64 (btc M ys)) ∧ Below w.heap.size w w' := by
  obtain ⟨a, c, rfl⟩ := hy.form
  unfold btc
  by_cases hN : M = lft M
  · have hN' : (M != lft M) = false := by simpa using hN
    have hr := lft_rng M
    by_cases hL : 1 ≤ (ys.length : Int) ∧ (ys.length : Int) ≤ 32
    · by_cases hR : AllOk ys
      · by_cases hZ : (512 : Int) < 3 + (osz ys : Int)
        · rw [if_neg (fun h => by have := h.2.2.2; omega)]
          exact pcheck_d M a c ys w hy hl hN' hL hR hZ
        · rw [if_pos ⟨by omega, by omega, hR, by omega⟩]
          exact pcheck_e M a c ys w hy hl hN' hL hR hZ
      · rw [if_neg (fun h => hR h.2.2.1)]
        exact pcheck_c M a c ys w hy hl hN' hL hR
    · rw [if_neg (fun h => by have := h.2.1; omega)]
      exact pcheck_b M a c ys w hy hl hN' hL
  · have hN' : (M != lft M) = true := by simpa using hN
    rw [if_neg (fun h => hN (by have := h.1; unfold lft; omega))]
    exact pcheck_a M a c ys w hy hl hN'
end Go.Proofs.YthnajpckhoomgaaGreat
