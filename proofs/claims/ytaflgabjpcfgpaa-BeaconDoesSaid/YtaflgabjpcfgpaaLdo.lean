/- thalweglaw06.BeaconDoes: for any beacon, node, epoch the law answers true; no condition. -/
import Derived.Test.YtaflgabjpcfgpaaLfx
import Derived.WalkLawsBesides
import Derived.WalkKit
import Derived.ProofKit
import Derived.OpenShut
import Derived.ShutString
import Derived.ChangeOld
import Derived.Below
namespace Go.Proofs.Ytaflgabjpcfgpaa.beaconDoes
open Go.ChangeShapes Go.WideShapes Go.ChangeAt Go.RowKit
open Go.ChangeMaps (open_string shut_string)
set_option linter.unusedVariables false
set_option maxRecDepth 100000

theorem own : ownKnob Try.prog.godebug = none := by kernel_rfl
theorem laidOut : laidOutB Try.prog = true := by kernel_rfl

theorem early (b0 : Int) (a0 : Option Addr) (cap0 : Nat) (z0 : List (Int × Int)) (a1 a2 : Int) (w : World) (h : (100 : Int) < (z0.length : Int)) :
    Calls Try.prog 3 #[.agg #[.int .i64 b0, .slice a0 z0.length cap0], .int .i64 a1, .int .i64 a2] w fun e w' => e = .returned (.bool true) ∧ Below w.heap.size w w' := by
  go_enter Try.func3, Try.ntmps3
  go_wp2_with fail
  go_ret
  exact ⟨rfl, (Below.refl _ _).alloc (Nat.le_refl _) _⟩
/-- A beacon of the call's own. -/
def RetO (w : World) (M : Int) (Y : List (Int × Int)) (e : Ending) (w' : World) : Prop := ∃ a c, e = .returned (.agg #[.int .i64 M, .slice a Y.length c]) ∧ OwE w' w.heap.size (.slice a Y.length c) Y ∧ Below w.heap.size w w'
theorem own_fix (M : Int) (v : Value) (ys : List (Int × Int)) (w : World) (hy : Es w v ys) (hl : ys.length ≤ 3000) : Calls Try.prog 8 #[.agg #[.int .i64 M, v]] w (RetO w M ys) :=
  (rown_any M v ys w hy hl).mono fun e w' ⟨⟨u, h1, h2⟩, h3⟩ => by
    obtain ⟨a, c, rfl⟩ := h2.form
    exact ⟨a, c, h1, h2, h3⟩

set_option maxHeartbeats 32000000 in
theorem case_ok (b0 : Int) (a0 : Option Addr) (cap0 : Nat) (z0 : List (Int × Int)) (a1 a2 : Int) (w : World) (w0 : El w (.slice a0 z0.length cap0) z0) (h : ¬ (100 : Int) < (z0.length : Int)) (bs : List Int) (kb nh m1 k1 m2 k2 : Int) (ih : Bool) (l1 l2 : List (Int × Int)) (hl1 : l1.length ≤ 3000) (hl2 : l2.length ≤ 3000) (cO : ∀ W v, Es W v z0 → Calls Try.prog 8 #[.agg #[.int .i64 b0, v]] W (RetO W b0 z0)) (cB : ∀ W v, El W v z0 → Calls Try.prog 9 #[.agg #[.int .i64 b0, v]] W (RetY W bs kb)) (cR : ∀ W v, Es W v z0 → Calls Try.prog 10 #[.agg #[.int .i64 b0, v]] W (RetY W bs kb)) (cH : ∀ W v, El W v z0 → Calls Try.prog 11 #[.agg #[.int .i64 b0, v], .int .i64 a1] W fun e w' => e = .returned (.tuple #[.int .i64 nh, .bool ih]) ∧ Below W.heap.size W w') (cI : ∀ W v, Es W v z0 → Calls Try.prog 12 #[.agg #[.int .i64 b0, v], .int .i64 a1] W fun e w' => e = .returned (.tuple #[.int .i64 nh, .bool ih]) ∧ Below W.heap.size W w') (cW : ∀ W v, El W v z0 → Calls Try.prog 13 #[.agg #[.int .i64 b0, v], .int .i64 a1, .int .i64 a2] W (RetE W m1 l1 k1)) (cV : ∀ W v, Es W v z0 → Calls Try.prog 14 #[.agg #[.int .i64 b0, v], .int .i64 a1, .int .i64 a2] W (RetE W m1 l1 k1)) (cT : ∀ W v, El W v z0 → Calls Try.prog 15 #[.agg #[.int .i64 b0, v], .int .i64 a1] W (RetE W m2 l2 k2)) (cU : ∀ W v, Es W v z0 → Calls Try.prog 16 #[.agg #[.int .i64 b0, v], .int .i64 a1] W (RetE W m2 l2 k2)) (cC0 : ∀ W v, El W v z0 → Calls Try.prog 17 #[.agg #[.int .i64 b0, v]] W fun e w' => e = .returned (.int .i64 0) ∧ Below W.heap.size W w') (cD0 : ∀ W v, Es W v z0 → Calls Try.prog 18 #[.agg #[.int .i64 b0, v]] W fun e w' => e = .returned (.bool true) ∧ Below W.heap.size W w') :
    Calls Try.prog 3 #[.agg #[.int .i64 b0, .slice a0 z0.length cap0], .int .i64 a1, .int .i64 a2] w fun e w' => e = .returned (.bool true) ∧ Below w.heap.size w w' := by
  have EX := Lib.hid (w0.alloc (.cells #[.int .i64 b0, .slice a0 z0.length cap0] 24))
  have OX := Lib.hid (ownb2_alloc w b0 (.slice a0 z0.length cap0) 24 w.heap.size rfl)
  have HB : Hid (Below w.heap.size w (w.alloc (.cells #[.int .i64 b0, .slice a0 z0.length cap0] 24))) := (Below.refl _ w).alloc (Nat.le_refl _) _
  clear w0
  go_enter Try.func3, Try.ntmps3
  go_wp2_with fail
  generalize w.alloc (.cells #[.int .i64 b0, .slice a0 z0.length cap0] 24) = U0 at *
  refine (cO _ _ EX.out.1).mono ?_
  rintro e V1 ⟨y1, t1, rfl, ho, hb⟩
  replace EX := Lib.hid (EX.out.below hb)
  replace OX := Lib.hid (OX.out.below hb)
  replace HB := Lib.hid (HB.out.trans (hb.mono HB.out.size))
  have E1 := Lib.hid ho.el
  clear ho hb
  have hal : Below V1.heap.size V1 (V1.alloc (.cells #[.int .i64 b0, .slice y1 z0.length t1] 24)) := (Below.refl _ V1).alloc (Nat.le_refl _) _
  have O1 := Lib.hid (ownb2_alloc V1 b0 (.slice y1 z0.length t1) 24 V1.heap.size rfl)
  replace EX := Lib.hid (EX.out.below hal)
  replace OX := Lib.hid (OX.out.below hal)
  replace E1 := Lib.hid (E1.out.below hal)
  replace HB := Lib.hid (HB.out.trans (hal.mono HB.out.size))
  clear hal
  obtain ⟨X1, hX⟩ : ∃ X1, V1.heap.size = X1 := ⟨_, rfl⟩
  rw [hX] at O1
  obtain ⟨q00, q01⟩ := OX.out.1
  obtain ⟨q10, q11⟩ := O1.out.1
  go_wp2_with fail
  clear hX
  generalize V1.alloc (.cells #[.int .i64 b0, .slice y1 z0.length t1] 24) = U1 at *
  refine (cB _ _ E1.out).mono ?_
  rintro e V2 ⟨y2, t2, rfl, hr, hb⟩
  clear q00 q01 q10 q11
  replace EX := Lib.hid (EX.out.below hb)
  replace OX := Lib.hid (OX.out.below hb)
  replace E1 := Lib.hid (E1.out.below hb)
  replace O1 := Lib.hid (O1.out.below hb)
  replace HB := Lib.hid (HB.out.trans (hb.mono HB.out.size))
  have R2 := Lib.hid hr
  clear hr hb
  obtain ⟨q00, q01⟩ := OX.out.1
  obtain ⟨q10, q11⟩ := O1.out.1
  go_wp2_with fail
  refine (cR _ _ EX.out.1).mono ?_
  rintro e V3 ⟨y3, t3, rfl, hr, hb⟩
  clear q00 q01 q10 q11
  replace EX := Lib.hid (EX.out.below hb)
  replace OX := Lib.hid (OX.out.below hb)
  replace E1 := Lib.hid (E1.out.below hb)
  replace O1 := Lib.hid (O1.out.below hb)
  replace R2 := Lib.hid (Bs_below R2.out hb)
  replace HB := Lib.hid (HB.out.trans (hb.mono HB.out.size))
  have R3 := Lib.hid hr
  clear hr hb
  obtain ⟨q00, q01⟩ := OX.out.1
  obtain ⟨q10, q11⟩ := O1.out.1
  go_wp2_with fail
  refine (cH _ _ E1.out).mono ?_
  rintro e V4 ⟨rfl, hb⟩
  clear q00 q01 q10 q11
  replace EX := Lib.hid (EX.out.below hb)
  replace OX := Lib.hid (OX.out.below hb)
  replace E1 := Lib.hid (E1.out.below hb)
  replace O1 := Lib.hid (O1.out.below hb)
  replace R2 := Lib.hid (Bs_below R2.out hb)
  replace R3 := Lib.hid (Bs_below R3.out hb)
  replace HB := Lib.hid (HB.out.trans (hb.mono HB.out.size))
  clear hb
  obtain ⟨q00, q01⟩ := OX.out.1
  obtain ⟨q10, q11⟩ := O1.out.1
  go_wp2_with fail
  refine (cI _ _ EX.out.1).mono ?_
  rintro e V5 ⟨rfl, hb⟩
  clear q00 q01 q10 q11
  replace EX := Lib.hid (EX.out.below hb)
  replace OX := Lib.hid (OX.out.below hb)
  replace E1 := Lib.hid (E1.out.below hb)
  replace O1 := Lib.hid (O1.out.below hb)
  replace R2 := Lib.hid (Bs_below R2.out hb)
  replace R3 := Lib.hid (Bs_below R3.out hb)
  replace HB := Lib.hid (HB.out.trans (hb.mono HB.out.size))
  clear hb
  obtain ⟨q00, q01⟩ := OX.out.1
  obtain ⟨q10, q11⟩ := O1.out.1
  go_wp2_with fail
  refine (cW _ _ E1.out).mono ?_
  rintro e V6 ⟨y6, t6, rfl, ho, hb⟩
  clear q00 q01 q10 q11
  replace EX := Lib.hid (EX.out.below hb)
  replace OX := Lib.hid (OX.out.below hb)
  replace E1 := Lib.hid (E1.out.below hb)
  replace O1 := Lib.hid (O1.out.below hb)
  replace R2 := Lib.hid (Bs_below R2.out hb)
  replace R3 := Lib.hid (Bs_below R3.out hb)
  replace HB := Lib.hid (HB.out.trans (hb.mono HB.out.size))
  have E6 := Lib.hid ho.el
  clear ho hb
  have hal : Below V6.heap.size V6 (V6.alloc (.cells #[.int .i64 m1, .slice y6 l1.length t6] 24)) := (Below.refl _ V6).alloc (Nat.le_refl _) _
  have O6 := Lib.hid (ownb2_alloc V6 m1 (.slice y6 l1.length t6) 24 V6.heap.size rfl)
  replace EX := Lib.hid (EX.out.below hal)
  replace OX := Lib.hid (OX.out.below hal)
  replace E1 := Lib.hid (E1.out.below hal)
  replace O1 := Lib.hid (O1.out.below hal)
  replace E6 := Lib.hid (E6.out.below hal)
  replace R2 := Lib.hid (Bs_below R2.out hal)
  replace R3 := Lib.hid (Bs_below R3.out hal)
  replace HB := Lib.hid (HB.out.trans (hal.mono HB.out.size))
  clear hal
  obtain ⟨X6, hX⟩ : ∃ X6, V6.heap.size = X6 := ⟨_, rfl⟩
  rw [hX] at O6
  obtain ⟨q00, q01⟩ := OX.out.1
  obtain ⟨q10, q11⟩ := O1.out.1
  obtain ⟨q20, q21⟩ := O6.out.1
  go_wp2_with fail
  clear hX
  generalize V6.alloc (.cells #[.int .i64 m1, .slice y6 l1.length t6] 24) = U6 at *
  refine (cV _ _ EX.out.1).mono ?_
  rintro e V7 ⟨y7, t7, rfl, ho, hb⟩
  clear q00 q01 q10 q11 q20 q21
  replace EX := Lib.hid (EX.out.below hb)
  replace OX := Lib.hid (OX.out.below hb)
  replace E1 := Lib.hid (E1.out.below hb)
  replace O1 := Lib.hid (O1.out.below hb)
  replace E6 := Lib.hid (E6.out.below hb)
  replace O6 := Lib.hid (O6.out.below hb)
  replace R2 := Lib.hid (Bs_below R2.out hb)
  replace R3 := Lib.hid (Bs_below R3.out hb)
  replace HB := Lib.hid (HB.out.trans (hb.mono HB.out.size))
  have E7 := Lib.hid ho.el
  clear ho hb
  have hal : Below V7.heap.size V7 (V7.alloc (.cells #[.int .i64 m1, .slice y7 l1.length t7] 24)) := (Below.refl _ V7).alloc (Nat.le_refl _) _
  have O7 := Lib.hid (ownb2_alloc V7 m1 (.slice y7 l1.length t7) 24 V7.heap.size rfl)
  replace EX := Lib.hid (EX.out.below hal)
  replace OX := Lib.hid (OX.out.below hal)
  replace E1 := Lib.hid (E1.out.below hal)
  replace O1 := Lib.hid (O1.out.below hal)
  replace E6 := Lib.hid (E6.out.below hal)
  replace O6 := Lib.hid (O6.out.below hal)
  replace E7 := Lib.hid (E7.out.below hal)
  replace R2 := Lib.hid (Bs_below R2.out hal)
  replace R3 := Lib.hid (Bs_below R3.out hal)
  replace HB := Lib.hid (HB.out.trans (hal.mono HB.out.size))
  clear hal
  obtain ⟨X7, hX⟩ : ∃ X7, V7.heap.size = X7 := ⟨_, rfl⟩
  rw [hX] at O7
  obtain ⟨q00, q01⟩ := OX.out.1
  obtain ⟨q10, q11⟩ := O1.out.1
  obtain ⟨q20, q21⟩ := O6.out.1
  obtain ⟨q30, q31⟩ := O7.out.1
  go_wp2_with fail
  clear hX
  generalize V7.alloc (.cells #[.int .i64 m1, .slice y7 l1.length t7] 24) = U7 at *
  refine (cT _ _ E1.out).mono ?_
  rintro e V8 ⟨y8, t8, rfl, ho, hb⟩
  clear q00 q01 q10 q11 q20 q21 q30 q31
  replace EX := Lib.hid (EX.out.below hb)
  replace OX := Lib.hid (OX.out.below hb)
  replace E1 := Lib.hid (E1.out.below hb)
  replace O1 := Lib.hid (O1.out.below hb)
  replace E6 := Lib.hid (E6.out.below hb)
  replace O6 := Lib.hid (O6.out.below hb)
  replace E7 := Lib.hid (E7.out.below hb)
  replace O7 := Lib.hid (O7.out.below hb)
  replace R2 := Lib.hid (Bs_below R2.out hb)
  replace R3 := Lib.hid (Bs_below R3.out hb)
  replace HB := Lib.hid (HB.out.trans (hb.mono HB.out.size))
  have E8 := Lib.hid ho.el
  clear ho hb
  have hal : Below V8.heap.size V8 (V8.alloc (.cells #[.int .i64 m2, .slice y8 l2.length t8] 24)) := (Below.refl _ V8).alloc (Nat.le_refl _) _
  have O8 := Lib.hid (ownb2_alloc V8 m2 (.slice y8 l2.length t8) 24 V8.heap.size rfl)
  replace EX := Lib.hid (EX.out.below hal)
  replace OX := Lib.hid (OX.out.below hal)
  replace E1 := Lib.hid (E1.out.below hal)
  replace O1 := Lib.hid (O1.out.below hal)
  replace E6 := Lib.hid (E6.out.below hal)
  replace O6 := Lib.hid (O6.out.below hal)
  replace E7 := Lib.hid (E7.out.below hal)
  replace O7 := Lib.hid (O7.out.below hal)
  replace E8 := Lib.hid (E8.out.below hal)
  replace R2 := Lib.hid (Bs_below R2.out hal)
  replace R3 := Lib.hid (Bs_below R3.out hal)
  replace HB := Lib.hid (HB.out.trans (hal.mono HB.out.size))
  clear hal
  obtain ⟨X8, hX⟩ : ∃ X8, V8.heap.size = X8 := ⟨_, rfl⟩
  rw [hX] at O8
  obtain ⟨q00, q01⟩ := OX.out.1
  obtain ⟨q10, q11⟩ := O1.out.1
  obtain ⟨q20, q21⟩ := O6.out.1
  obtain ⟨q30, q31⟩ := O7.out.1
  obtain ⟨q40, q41⟩ := O8.out.1
  go_wp2_with fail
  clear hX
  generalize V8.alloc (.cells #[.int .i64 m2, .slice y8 l2.length t8] 24) = U8 at *
  refine (cU _ _ EX.out.1).mono ?_
  rintro e V9 ⟨y9, t9, rfl, ho, hb⟩
  clear q00 q01 q10 q11 q20 q21 q30 q31 q40 q41
  replace EX := Lib.hid (EX.out.below hb)
  replace OX := Lib.hid (OX.out.below hb)
  replace E1 := Lib.hid (E1.out.below hb)
  replace O1 := Lib.hid (O1.out.below hb)
  replace E6 := Lib.hid (E6.out.below hb)
  replace O6 := Lib.hid (O6.out.below hb)
  replace E7 := Lib.hid (E7.out.below hb)
  replace O7 := Lib.hid (O7.out.below hb)
  replace E8 := Lib.hid (E8.out.below hb)
  replace O8 := Lib.hid (O8.out.below hb)
  replace R2 := Lib.hid (Bs_below R2.out hb)
  replace R3 := Lib.hid (Bs_below R3.out hb)
  replace HB := Lib.hid (HB.out.trans (hb.mono HB.out.size))
  have E9 := Lib.hid ho.el
  clear ho hb
  have hal : Below V9.heap.size V9 (V9.alloc (.cells #[.int .i64 m2, .slice y9 l2.length t9] 24)) := (Below.refl _ V9).alloc (Nat.le_refl _) _
  have O9 := Lib.hid (ownb2_alloc V9 m2 (.slice y9 l2.length t9) 24 V9.heap.size rfl)
  replace EX := Lib.hid (EX.out.below hal)
  replace OX := Lib.hid (OX.out.below hal)
  replace E1 := Lib.hid (E1.out.below hal)
  replace O1 := Lib.hid (O1.out.below hal)
  replace E6 := Lib.hid (E6.out.below hal)
  replace O6 := Lib.hid (O6.out.below hal)
  replace E7 := Lib.hid (E7.out.below hal)
  replace O7 := Lib.hid (O7.out.below hal)
  replace E8 := Lib.hid (E8.out.below hal)
  replace O8 := Lib.hid (O8.out.below hal)
  replace E9 := Lib.hid (E9.out.below hal)
  replace R2 := Lib.hid (Bs_below R2.out hal)
  replace R3 := Lib.hid (Bs_below R3.out hal)
  replace HB := Lib.hid (HB.out.trans (hal.mono HB.out.size))
  clear hal
  obtain ⟨X9, hX⟩ : ∃ X9, V9.heap.size = X9 := ⟨_, rfl⟩
  rw [hX] at O9
  obtain ⟨q00, q01⟩ := OX.out.1
  obtain ⟨q10, q11⟩ := O1.out.1
  obtain ⟨q20, q21⟩ := O6.out.1
  obtain ⟨q30, q31⟩ := O7.out.1
  obtain ⟨q40, q41⟩ := O8.out.1
  obtain ⟨q50, q51⟩ := O9.out.1
  go_wp2_with fail
  clear hX
  generalize V9.alloc (.cells #[.int .i64 m2, .slice y9 l2.length t9] 24) = U9 at *
  have kc : ∀ w', Below U9.heap.size U9 w' → (w'.cell? ⟨w.heap.size, 0, none⟩ = some (.int .i64 b0) ∧ w'.cell? ⟨w.heap.size, 1, none⟩ = some (.slice a0 z0.length cap0)) ∧ w'.cell? ⟨X1, 0, none⟩ = some (.int .i64 b0) ∧ w'.cell? ⟨X1, 1, none⟩ = some (.slice y1 z0.length t1) := fun w' h => ⟨(OX.out.below h).1, (O1.out.below h).1⟩
  have hcv1 : ∀ w', Below U9.heap.size U9 w' → (convert 26 9 (.slice y2 bs.length t2)).run Try.prog w' = .ok (.string (strOfNums bs)) w' := fun w' h => Bs_conv (Bs_below R2.out h)
  have hcv2 : ∀ w', Below U9.heap.size U9 w' → (convert 26 9 (.slice y3 bs.length t3)).run Try.prog w' = .ok (.string (strOfNums bs)) w' := fun w' h => Bs_conv (Bs_below R3.out h)
  have cC : ∀ w', Below U9.heap.size U9 w' → Calls Try.prog 17 #[.agg #[.int .i64 b0, .slice y1 z0.length t1]] w' fun e w'' => e = .returned (.int .i64 0) ∧ Below w'.heap.size w' w'' := fun w' h => cC0 w' _ (E1.out.below h)
  have cD : ∀ w', Below U9.heap.size U9 w' → Calls Try.prog 18 #[.agg #[.int .i64 b0, .slice a0 z0.length cap0]] w' fun e w'' => e = .returned (.bool true) ∧ Below w'.heap.size w' w'' := fun w' h => cD0 w' _ (EX.out.1.below h)
  clear q00 q01 q10 q11 q20 q21 q30 q31 q40 q41 q50 q51
  refine wp_region_typed (C := fun w' => Below U9.heap.size U9 w') (X := fun w w' => Below w.heap.size w w') (n := 136) (by kernel_rfl) (by kernel_rfl) rfl (fun w => Below.refl _ w) (Below.refl _ _).drew ?_
  refine w_is (fun w => Below.refl _ w) _ (.inl rfl) (fun ρ w hC hc hfn hf => by have e7 : ρ (.tmp 7) = _ := hf 7 (by decide); (conv => lhs; simp [execOp, go_sem, hc, e7, kc w hC])) ?_
  refine w_call (Is _) (fun _ _ _ h _ => h) 17 (.inl rfl) (fun ρ w hC hc hfn hf => by have e79 : ρ (.tmp 79) = _ := hf 79 (by decide); exact ⟨_, by (conv => lhs; simp [execOp, resolve, invoke, go_sem, hc, hfn, e79]), tc_below hC (cC w hC)⟩) ?_
  refine w_is (fun w => Below.refl _ w) _ (.inl rfl) (fun ρ w hC hc hfn hf => by have e80 : ρ (.tmp 80) = _ := hf 80 (by decide); (conv => lhs; simp [execOp, go_sem, hc, e80])) ?_
  refine w_is (fun w => Below.refl _ w) _ (.inl rfl) (fun ρ w hC hc hfn hf => by have e3 : ρ (.tmp 3) = _ := hf 3 (by decide); (conv => lhs; simp [execOp, go_sem, hc, e3, kc w hC])) ?_
  refine w_call (Is _) (fun _ _ _ h _ => h) 18 (.inl rfl) (fun ρ w hC hc hfn hf => by have e82 : ρ (.tmp 82) = _ := hf 82 (by decide); exact ⟨_, by (conv => lhs; simp [execOp, resolve, invoke, go_sem, hc, hfn, e82]), tc_below hC (cD w hC)⟩) ?_
  refine w_is (fun w => Below.refl _ w) _ (.inl rfl) (fun ρ w hC hc hfn hf => by have e81 : ρ (.tmp 81) = _ := hf 81 (by decide); have e83 : ρ (.tmp 83) = _ := hf 83 (by decide); (conv => lhs; simp [execOp, go_sem, hc, e81, e83])) ?_
  refine w_is (fun w => Below.refl _ w) _ (.inl rfl) (fun ρ w hC hc hfn hf => by have e84 : ρ (.tmp 84) = _ := hf 84 (by decide); (conv => lhs; simp [execOp, go_sem, hc, e84])) ?_
  refine w_is (fun w => Below.refl _ w) _ (.inr ⟨6, 85, true, rfl, rfl, known_is rfl⟩) (fun ρ w hC hc hfn hf => by have e8 : ρ (.tmp 8) = _ := hf 8 (by decide); (conv => lhs; simp [execOp, go_sem, hc, e8])) ?_
  refine w_is (fun w => Below.refl _ w) _ (.inr ⟨6, 85, true, rfl, rfl, known_is rfl⟩) (fun ρ w hC hc hfn hf => by have e86 : ρ (.tmp 86) = _ := hf 86 (by decide); (conv => lhs; simp [execOp, go_sem, hc, e86, hcv1 w hC])) ?_
  refine w_is (fun w => Below.refl _ w) _ (.inr ⟨6, 85, true, rfl, rfl, known_is rfl⟩) (fun ρ w hC hc hfn hf => by have e10 : ρ (.tmp 10) = _ := hf 10 (by decide); (conv => lhs; simp [execOp, go_sem, hc, e10])) ?_
  refine w_is (fun w => Below.refl _ w) _ (.inr ⟨6, 85, true, rfl, rfl, known_is rfl⟩) (fun ρ w hC hc hfn hf => by have e88 : ρ (.tmp 88) = _ := hf 88 (by decide); (conv => lhs; simp [execOp, go_sem, hc, e88, hcv2 w hC])) ?_
  refine w_is (fun w => Below.refl _ w) _ (.inr ⟨6, 85, true, rfl, rfl, known_is rfl⟩) (fun ρ w hC hc hfn hf => by have e87 : ρ (.tmp 87) = _ := hf 87 (by decide); have e89 : ρ (.tmp 89) = _ := hf 89 (by decide); (conv => lhs; simp [execOp, go_sem, hc, e87, e89])) ?_
  refine w_is (fun w => Below.refl _ w) _ (.inl rfl) (fun ρ w hC hc hfn hf => by have e85 : ρ (.tmp 85) = _ := hf 85 (by decide); have e90 : ρ (.tmp 90) = _ := hf 90 (by decide); (conv => lhs; simp [execOp, go_sem, hc, e85, e90])) ?_
  refine w_is (fun w => Below.refl _ w) _ (.inl rfl) (fun ρ w hC hc hfn hf => by have e91 : ρ (.tmp 91) = _ := hf 91 (by decide); (conv => lhs; simp [execOp, go_sem, hc, e91])) ?_
  refine w_is (fun w => Below.refl _ w) _ (.inr ⟨13, 92, true, rfl, rfl, known_is rfl⟩) (fun ρ w hC hc hfn hf => by have e9 : ρ (.tmp 9) = _ := hf 9 (by decide); (conv => lhs; simp [execOp, go_sem, hc, e9])) ?_
  refine w_is (fun w => Below.refl _ w) _ (.inr ⟨13, 92, true, rfl, rfl, known_is rfl⟩) (fun ρ w hC hc hfn hf => by have e11 : ρ (.tmp 11) = _ := hf 11 (by decide); (conv => lhs; simp [execOp, go_sem, hc, e11])) ?_
  refine w_is (fun w => Below.refl _ w) _ (.inr ⟨13, 92, true, rfl, rfl, known_is rfl⟩) (fun ρ w hC hc hfn hf => by have e93 : ρ (.tmp 93) = _ := hf 93 (by decide); have e94 : ρ (.tmp 94) = _ := hf 94 (by decide); (conv => lhs; simp [execOp, go_sem, hc, e93, e94])) ?_
  refine w_is (fun w => Below.refl _ w) _ (.inl rfl) (fun ρ w hC hc hfn hf => by have e92 : ρ (.tmp 92) = _ := hf 92 (by decide); have e95 : ρ (.tmp 95) = _ := hf 95 (by decide); (conv => lhs; simp [execOp, go_sem, hc, e92, e95])) ?_
  refine w_is (fun w => Below.refl _ w) _ (.inl rfl) (fun ρ w hC hc hfn hf => by have e96 : ρ (.tmp 96) = _ := hf 96 (by decide); (conv => lhs; simp [execOp, go_sem, hc, e96])) ?_
  refine w_is (fun w => Below.refl _ w) _ (.inr ⟨18, 97, true, rfl, rfl, known_is rfl⟩) (fun ρ w hC hc hfn hf => by have e12 : ρ (.tmp 12) = _ := hf 12 (by decide); (conv => lhs; simp [execOp, go_sem, hc, e12])) ?_
  refine w_is (fun w => Below.refl _ w) _ (.inr ⟨18, 97, true, rfl, rfl, known_is rfl⟩) (fun ρ w hC hc hfn hf => by have e14 : ρ (.tmp 14) = _ := hf 14 (by decide); (conv => lhs; simp [execOp, go_sem, hc, e14])) ?_
  refine w_is (fun w => Below.refl _ w) _ (.inr ⟨18, 97, true, rfl, rfl, known_is rfl⟩) (fun ρ w hC hc hfn hf => by have e98 : ρ (.tmp 98) = _ := hf 98 (by decide); have e99 : ρ (.tmp 99) = _ := hf 99 (by decide); (conv => lhs; simp [execOp, go_sem, hc, e98, e99])) ?_
  refine w_is (fun w => Below.refl _ w) _ (.inl rfl) (fun ρ w hC hc hfn hf => by have e97 : ρ (.tmp 97) = _ := hf 97 (by decide); have e100 : ρ (.tmp 100) = _ := hf 100 (by decide); (conv => lhs; simp [execOp, go_sem, hc, e97, e100])) ?_
  refine w_is (fun w => Below.refl _ w) _ (.inl rfl) (fun ρ w hC hc hfn hf => by have e101 : ρ (.tmp 101) = _ := hf 101 (by decide); (conv => lhs; simp [execOp, go_sem, hc, e101])) ?_
  refine w_is (fun w => Below.refl _ w) _ (.inr ⟨23, 102, true, rfl, rfl, known_is rfl⟩) (fun ρ w hC hc hfn hf => by have e13 : ρ (.tmp 13) = _ := hf 13 (by decide); (conv => lhs; simp [execOp, go_sem, hc, e13])) ?_
  refine w_is (fun w => Below.refl _ w) _ (.inr ⟨23, 102, true, rfl, rfl, known_is rfl⟩) (fun ρ w hC hc hfn hf => by have e15 : ρ (.tmp 15) = _ := hf 15 (by decide); (conv => lhs; simp [execOp, go_sem, hc, e15])) ?_
  refine w_is (fun w => Below.refl _ w) _ (.inr ⟨23, 102, true, rfl, rfl, known_is rfl⟩) (fun ρ w hC hc hfn hf => by have e103 : ρ (.tmp 103) = _ := hf 103 (by decide); have e104 : ρ (.tmp 104) = _ := hf 104 (by decide); (conv => lhs; simp [execOp, go_sem, hc, e103, e104])) ?_
  refine w_is (fun w => Below.refl _ w) _ (.inl rfl) (fun ρ w hC hc hfn hf => by have e102 : ρ (.tmp 102) = _ := hf 102 (by decide); have e105 : ρ (.tmp 105) = _ := hf 105 (by decide); (conv => lhs; simp [execOp, go_sem, hc, e102, e105])) ?_
  refine w_is (fun w => Below.refl _ w) _ (.inl rfl) (fun ρ w hC hc hfn hf => by have e106 : ρ (.tmp 106) = _ := hf 106 (by decide); (conv => lhs; simp [execOp, go_sem, hc, e106])) ?_
  intro A U10 hC hn hd hf
  have y0 : A.eval (.tmp 0) = _ := Eq.trans (hf 0) (by conv => lhs; simp [go_sem])
  have y1 : A.eval (.tmp 1) = _ := Eq.trans (hf 1) (by conv => lhs; simp [go_sem])
  have y2 : A.eval (.tmp 2) = _ := Eq.trans (hf 2) (by conv => lhs; simp [go_sem])
  have y3 : A.eval (.tmp 3) = _ := Eq.trans (hf 3) (by conv => lhs; simp [go_sem])
  have y4 : A.eval (.tmp 4) = _ := Eq.trans (hf 4) (by conv => lhs; simp [go_sem])
  have y5 : A.eval (.tmp 5) = _ := Eq.trans (hf 5) (by conv => lhs; simp [go_sem])
  have y6 : A.eval (.tmp 6) = _ := Eq.trans (hf 6) (by conv => lhs; simp [go_sem])
  have y7 : A.eval (.tmp 7) = _ := Eq.trans (hf 7) (by conv => lhs; simp [go_sem])
  have y8 : A.eval (.tmp 8) = _ := Eq.trans (hf 8) (by conv => lhs; simp [go_sem])
  have y9 : A.eval (.tmp 9) = _ := Eq.trans (hf 9) (by conv => lhs; simp [go_sem])
  have y10 : A.eval (.tmp 10) = _ := Eq.trans (hf 10) (by conv => lhs; simp [go_sem])
  have y11 : A.eval (.tmp 11) = _ := Eq.trans (hf 11) (by conv => lhs; simp [go_sem])
  have y12 : A.eval (.tmp 12) = _ := Eq.trans (hf 12) (by conv => lhs; simp [go_sem])
  have y13 : A.eval (.tmp 13) = _ := Eq.trans (hf 13) (by conv => lhs; simp [go_sem])
  have y14 : A.eval (.tmp 14) = _ := Eq.trans (hf 14) (by conv => lhs; simp [go_sem])
  have y15 : A.eval (.tmp 15) = _ := Eq.trans (hf 15) (by conv => lhs; simp [go_sem])
  have y16 : A.eval (.tmp 16) = _ := Eq.trans (hf 16) (by conv => lhs; simp [go_sem])
  have y17 : A.eval (.tmp 17) = _ := Eq.trans (hf 17) (by conv => lhs; simp [go_sem])
  have y18 : A.eval (.tmp 18) = _ := Eq.trans (hf 18) (by conv => lhs; simp [go_sem])
  have y19 : A.eval (.tmp 19) = _ := Eq.trans (hf 19) (by conv => lhs; simp [go_sem])
  have y20 : A.eval (.tmp 20) = _ := Eq.trans (hf 20) (by conv => lhs; simp [go_sem])
  have y21 : A.eval (.tmp 21) = _ := Eq.trans (hf 21) (by conv => lhs; simp [go_sem])
  have y22 : A.eval (.tmp 22) = _ := Eq.trans (hf 22) (by conv => lhs; simp [go_sem])
  have y23 : A.eval (.tmp 23) = _ := Eq.trans (hf 23) (by conv => lhs; simp [go_sem])
  have y24 : A.eval (.tmp 24) = _ := hf 24
  have y25 : A.eval (.tmp 25) = _ := Eq.trans (hf 25) (by conv => lhs; simp [go_sem])
  have y26 : A.eval (.tmp 26) = _ := Eq.trans (hf 26) (by conv => lhs; simp [go_sem])
  have y27 : A.eval (.tmp 27) = _ := Eq.trans (hf 27) (by conv => lhs; simp [go_sem])
  have y28 : A.eval (.tmp 28) = _ := Eq.trans (hf 28) (by conv => lhs; simp [go_sem])
  have y29 : A.eval (.tmp 29) = _ := Eq.trans (hf 29) (by conv => lhs; simp [go_sem])
  have y30 : A.eval (.tmp 30) = _ := Eq.trans (hf 30) (by conv => lhs; simp [go_sem])
  have y31 : A.eval (.tmp 31) = _ := Eq.trans (hf 31) (by conv => lhs; simp [go_sem])
  have y32 : A.eval (.tmp 32) = _ := Eq.trans (hf 32) (by conv => lhs; simp [go_sem])
  have y33 : A.eval (.tmp 33) = _ := Eq.trans (hf 33) (by conv => lhs; simp [go_sem])
  have y34 : A.eval (.tmp 34) = _ := Eq.trans (hf 34) (by conv => lhs; simp [go_sem])
  have y35 : A.eval (.tmp 35) = _ := Eq.trans (hf 35) (by conv => lhs; simp [go_sem])
  have y36 : A.eval (.tmp 36) = _ := Eq.trans (hf 36) (by conv => lhs; simp [go_sem])
  have y37 : A.eval (.tmp 37) = _ := Eq.trans (hf 37) (by conv => lhs; simp [go_sem])
  have y38 : A.eval (.tmp 38) = _ := Eq.trans (hf 38) (by conv => lhs; simp [go_sem])
  have y39 : A.eval (.tmp 39) = _ := Eq.trans (hf 39) (by conv => lhs; simp [go_sem])
  have y40 : A.eval (.tmp 40) = _ := Eq.trans (hf 40) (by conv => lhs; simp [go_sem])
  have y41 : A.eval (.tmp 41) = _ := Eq.trans (hf 41) (by conv => lhs; simp [go_sem])
  have y42 : A.eval (.tmp 42) = _ := Eq.trans (hf 42) (by conv => lhs; simp [go_sem])
  have y43 : A.eval (.tmp 43) = _ := Eq.trans (hf 43) (by conv => lhs; simp [go_sem])
  have y44 : A.eval (.tmp 44) = _ := Eq.trans (hf 44) (by conv => lhs; simp [go_sem])
  have y45 : A.eval (.tmp 45) = _ := Eq.trans (hf 45) (by conv => lhs; simp [go_sem])
  have y46 : A.eval (.tmp 46) = _ := Eq.trans (hf 46) (by conv => lhs; simp [go_sem])
  have y47 : A.eval (.tmp 47) = _ := Eq.trans (hf 47) (by conv => lhs; simp [go_sem])
  have y48 : A.eval (.tmp 48) = _ := Eq.trans (hf 48) (by conv => lhs; simp [go_sem])
  have y49 : A.eval (.tmp 49) = _ := Eq.trans (hf 49) (by conv => lhs; simp [go_sem])
  have y50 : A.eval (.tmp 50) = _ := Eq.trans (hf 50) (by conv => lhs; simp [go_sem])
  have y51 : A.eval (.tmp 51) = _ := Eq.trans (hf 51) (by conv => lhs; simp [go_sem])
  have y52 : A.eval (.tmp 52) = _ := Eq.trans (hf 52) (by conv => lhs; simp [go_sem])
  have y53 : A.eval (.tmp 53) = _ := Eq.trans (hf 53) (by conv => lhs; simp [go_sem])
  have y54 : A.eval (.tmp 54) = _ := Eq.trans (hf 54) (by conv => lhs; simp [go_sem])
  have y55 : A.eval (.tmp 55) = _ := Eq.trans (hf 55) (by conv => lhs; simp [go_sem])
  have y56 : A.eval (.tmp 56) = _ := Eq.trans (hf 56) (by conv => lhs; simp [go_sem])
  have y57 : A.eval (.tmp 57) = _ := Eq.trans (hf 57) (by conv => lhs; simp [go_sem])
  have y58 : A.eval (.tmp 58) = _ := Eq.trans (hf 58) (by conv => lhs; simp [go_sem])
  have y59 : A.eval (.tmp 59) = _ := Eq.trans (hf 59) (by conv => lhs; simp [go_sem])
  have y60 : A.eval (.tmp 60) = _ := Eq.trans (hf 60) (by conv => lhs; simp [go_sem])
  have y61 : A.eval (.tmp 61) = _ := Eq.trans (hf 61) (by conv => lhs; simp [go_sem])
  have y62 : A.eval (.tmp 62) = _ := Eq.trans (hf 62) (by conv => lhs; simp [go_sem])
  have y63 : A.eval (.tmp 63) = _ := Eq.trans (hf 63) (by conv => lhs; simp [go_sem])
  have y64 : A.eval (.tmp 64) = _ := Eq.trans (hf 64) (by conv => lhs; simp [go_sem])
  have y65 : A.eval (.tmp 65) = _ := Eq.trans (hf 65) (by conv => lhs; simp [go_sem])
  have y66 : A.eval (.tmp 66) = _ := Eq.trans (hf 66) (by conv => lhs; simp [go_sem])
  have y67 : A.eval (.tmp 67) = _ := Eq.trans (hf 67) (by conv => lhs; simp [go_sem])
  have y68 : A.eval (.tmp 68) = _ := Eq.trans (hf 68) (by conv => lhs; simp [go_sem])
  have y69 : A.eval (.tmp 69) = _ := Eq.trans (hf 69) (by conv => lhs; simp [go_sem])
  have y70 : A.eval (.tmp 70) = _ := Eq.trans (hf 70) (by conv => lhs; simp [go_sem])
  have y71 : A.eval (.tmp 71) = _ := Eq.trans (hf 71) (by conv => lhs; simp [go_sem])
  have y72 : A.eval (.tmp 72) = _ := Eq.trans (hf 72) (by conv => lhs; simp [go_sem])
  have y73 : A.eval (.tmp 73) = _ := Eq.trans (hf 73) (by conv => lhs; simp [go_sem])
  have y74 : A.eval (.tmp 74) = _ := Eq.trans (hf 74) (by conv => lhs; simp [go_sem])
  have y75 : A.eval (.tmp 75) = _ := Eq.trans (hf 75) (by conv => lhs; simp [go_sem])
  have y76 : A.eval (.tmp 76) = _ := Eq.trans (hf 76) (by conv => lhs; simp [go_sem])
  have y77 : A.eval (.tmp 77) = _ := Eq.trans (hf 77) (by conv => lhs; simp [go_sem])
  have y78 : A.eval (.tmp 78) = _ := Eq.trans (hf 78) (by conv => lhs; simp [go_sem])
  have y79 : A.eval (.tmp 79) = _ := hf 79
  have y80 : A.eval (.tmp 80) = _ := hf 80
  have y81 : A.eval (.tmp 81) = _ := hf 81
  have y82 : A.eval (.tmp 82) = _ := hf 82
  have y83 : A.eval (.tmp 83) = _ := hf 83
  have y84 : A.eval (.tmp 84) = _ := hf 84
  have y85 : A.eval (.tmp 85) = _ := hf 85
  have y86 : A.eval (.tmp 86) = _ := hf 86
  have y87 : A.eval (.tmp 87) = _ := hf 87
  have y88 : A.eval (.tmp 88) = _ := hf 88
  have y89 : A.eval (.tmp 89) = _ := hf 89
  have y90 : A.eval (.tmp 90) = _ := hf 90
  have y91 : A.eval (.tmp 91) = _ := hf 91
  have y92 : A.eval (.tmp 92) = _ := hf 92
  have y93 : A.eval (.tmp 93) = _ := hf 93
  have y94 : A.eval (.tmp 94) = _ := hf 94
  have y95 : A.eval (.tmp 95) = _ := hf 95
  have y96 : A.eval (.tmp 96) = _ := hf 96
  have y97 : A.eval (.tmp 97) = _ := hf 97
  have y98 : A.eval (.tmp 98) = _ := hf 98
  have y99 : A.eval (.tmp 99) = _ := hf 99
  have y100 : A.eval (.tmp 100) = _ := hf 100
  have y101 : A.eval (.tmp 101) = _ := hf 101
  have y102 : A.eval (.tmp 102) = _ := hf 102
  have y103 : A.eval (.tmp 103) = _ := hf 103
  have y104 : A.eval (.tmp 104) = _ := hf 104
  have y105 : A.eval (.tmp 105) = _ := hf 105
  have y106 : A.eval (.tmp 106) = _ := hf 106
  have y107 : A.eval (.tmp 107) = _ := Eq.trans (hf 107) (by conv => lhs; simp [go_sem])
  have y108 : A.eval (.tmp 108) = _ := Eq.trans (hf 108) (by conv => lhs; simp [go_sem])
  have y109 : A.eval (.tmp 109) = _ := Eq.trans (hf 109) (by conv => lhs; simp [go_sem])
  have y110 : A.eval (.tmp 110) = _ := Eq.trans (hf 110) (by conv => lhs; simp [go_sem])
  have y111 : A.eval (.tmp 111) = _ := Eq.trans (hf 111) (by conv => lhs; simp [go_sem])
  have y112 : A.eval (.tmp 112) = _ := Eq.trans (hf 112) (by conv => lhs; simp [go_sem])
  have y113 : A.eval (.tmp 113) = _ := Eq.trans (hf 113) (by conv => lhs; simp [go_sem])
  have y114 : A.eval (.tmp 114) = _ := Eq.trans (hf 114) (by conv => lhs; simp [go_sem])
  have y115 : A.eval (.tmp 115) = _ := Eq.trans (hf 115) (by conv => lhs; simp [go_sem])
  have y116 : A.eval (.tmp 116) = _ := Eq.trans (hf 116) (by conv => lhs; simp [go_sem])
  have y117 : A.eval (.tmp 117) = _ := Eq.trans (hf 117) (by conv => lhs; simp [go_sem])
  have y118 : A.eval (.tmp 118) = _ := Eq.trans (hf 118) (by conv => lhs; simp [go_sem])
  have y119 : A.eval (.tmp 119) = _ := Eq.trans (hf 119) (by conv => lhs; simp [go_sem])
  have y120 : A.eval (.tmp 120) = _ := Eq.trans (hf 120) (by conv => lhs; simp [go_sem])
  have y121 : A.eval (.tmp 121) = _ := Eq.trans (hf 121) (by conv => lhs; simp [go_sem])
  have y122 : A.eval (.tmp 122) = _ := Eq.trans (hf 122) (by conv => lhs; simp [go_sem])
  have y123 : A.eval (.tmp 123) = _ := Eq.trans (hf 123) (by conv => lhs; simp [go_sem])
  have y124 : A.eval (.tmp 124) = _ := Eq.trans (hf 124) (by conv => lhs; simp [go_sem])
  have y125 : A.eval (.tmp 125) = _ := Eq.trans (hf 125) (by conv => lhs; simp [go_sem])
  have y126 : A.eval (.tmp 126) = _ := Eq.trans (hf 126) (by conv => lhs; simp [go_sem])
  have y127 : A.eval (.tmp 127) = _ := Eq.trans (hf 127) (by conv => lhs; simp [go_sem])
  have y128 : A.eval (.tmp 128) = _ := Eq.trans (hf 128) (by conv => lhs; simp [go_sem])
  have y129 : A.eval (.tmp 129) = _ := Eq.trans (hf 129) (by conv => lhs; simp [go_sem])
  have y130 : A.eval (.tmp 130) = _ := Eq.trans (hf 130) (by conv => lhs; simp [go_sem])
  have y131 : A.eval (.tmp 131) = _ := Eq.trans (hf 131) (by conv => lhs; simp [go_sem])
  have y132 : A.eval (.tmp 132) = _ := Eq.trans (hf 132) (by conv => lhs; simp [go_sem])
  have y133 : A.eval (.tmp 133) = _ := Eq.trans (hf 133) (by conv => lhs; simp [go_sem])
  have y134 : A.eval (.tmp 134) = _ := Eq.trans (hf 134) (by conv => lhs; simp [go_sem])
  have y135 : A.eval (.tmp 135) = _ := Eq.trans (hf 135) (by conv => lhs; simp [go_sem])
  clear hf
  have hA := frame_eq hn
  rw [show List.range 136 = [0, 1, 2, 3, 4, 5, 6, 7, 8, 9, 10, 11, 12, 13, 14, 15, 16, 17, 18, 19, 20, 21, 22, 23, 24, 25, 26, 27, 28, 29, 30, 31, 32, 33, 34, 35, 36, 37, 38, 39, 40, 41, 42, 43, 44, 45, 46, 47, 48, 49, 50, 51, 52, 53, 54, 55, 56, 57, 58, 59, 60, 61, 62, 63, 64, 65, 66, 67, 68, 69, 70, 71, 72, 73, 74, 75, 76, 77, 78, 79, 80, 81, 82, 83, 84, 85, 86, 87, 88, 89, 90, 91, 92, 93, 94, 95, 96, 97, 98, 99, 100, 101, 102, 103, 104, 105, 106, 107, 108, 109, 110, 111, 112, 113, 114, 115, 116, 117, 118, 119, 120, 121, 122, 123, 124, 125, 126, 127, 128, 129, 130, 131, 132, 133, 134, 135] from rfl, hd] at hA
  simp only [List.map_cons, List.map_nil, y0, y1, y2, y3, y4, y5, y6, y7, y8, y9, y10, y11, y12, y13, y14, y15, y16, y17, y18, y19, y20, y21, y22, y23, y24, y25, y26, y27, y28, y29, y30, y31, y32, y33, y34, y35, y36, y37, y38, y39, y40, y41, y42, y43, y44, y45, y46, y47, y48, y49, y50, y51, y52, y53, y54, y55, y56, y57, y58, y59, y60, y61, y62, y63, y64, y65, y66, y67, y68, y69, y70, y71, y72, y73, y74, y75, y76, y77, y78, y79, y80, y81, y82, y83, y84, y85, y86, y87, y88, y89, y90, y91, y92, y93, y94, y95, y96, y97, y98, y99, y100, y101, y102, y103, y104, y105, y106, y107, y108, y109, y110, y111, y112, y113, y114, y115, y116, y117, y118, y119, y120, y121, y122, y123, y124, y125, y126, y127, y128, y129, y130, y131, y132, y133, y134, y135] at hA
  clear y0 y1 y2 y3 y4 y5 y6 y7 y8 y9 y10 y11 y12 y13 y14 y15 y16 y17 y18 y19 y20 y21 y22 y23 y24 y25 y26 y27 y28 y29 y30 y31 y32 y33 y34 y35 y36 y37 y38 y39 y40 y41 y42 y43 y44 y45 y46 y47 y48 y49 y50 y51 y52 y53 y54 y55 y56 y57 y58 y59 y60 y61 y62 y63 y64 y65 y66 y67 y68 y69 y70 y71 y72 y73 y74 y75 y76 y77 y78 y79 y80 y81 y82 y83 y84 y85 y86 y87 y88 y89 y90 y91 y92 y93 y94 y95 y96 y97 y98 y99 y100 y101 y102 y103 y104 y105 y106 y107 y108 y109 y110 y111 y112 y113 y114 y115 y116 y117 y118 y119 y120 y121 y122 y123 y124 y125 y126 y127 y128 y129 y130 y131 y132 y133 y134 y135
  clear hn hd
  subst hA
  clear kc hcv1 hcv2 cC cD
  replace EX := Lib.hid (EX.out.below hC)
  replace OX := Lib.hid (OX.out.below hC)
  replace E1 := Lib.hid (E1.out.below hC)
  replace O1 := Lib.hid (O1.out.below hC)
  replace E6 := Lib.hid (E6.out.below hC)
  replace O6 := Lib.hid (O6.out.below hC)
  replace E7 := Lib.hid (E7.out.below hC)
  replace O7 := Lib.hid (O7.out.below hC)
  replace E8 := Lib.hid (E8.out.below hC)
  replace O8 := Lib.hid (O8.out.below hC)
  replace E9 := Lib.hid (E9.out.below hC)
  replace O9 := Lib.hid (O9.out.below hC)
  replace R2 := Lib.hid (Bs_below R2.out hC)
  replace R3 := Lib.hid (Bs_below R3.out hC)
  replace HB := Lib.hid (HB.out.trans (hC.mono HB.out.size))
  clear hC
  obtain ⟨q00, q01⟩ := OX.out.1
  obtain ⟨q10, q11⟩ := O1.out.1
  obtain ⟨q20, q21⟩ := O6.out.1
  obtain ⟨q30, q31⟩ := O7.out.1
  obtain ⟨q40, q41⟩ := O8.out.1
  obtain ⟨q50, q51⟩ := O9.out.1
  go_wp2_with fail
  refine (awake6 _).mono ?_
  rintro e V11 ⟨rfl, hb⟩
  clear q00 q01 q10 q11 q20 q21 q30 q31 q40 q41 q50 q51
  replace EX := Lib.hid (EX.out.below hb)
  replace OX := Lib.hid (OX.out.below hb)
  replace E1 := Lib.hid (E1.out.below hb)
  replace O1 := Lib.hid (O1.out.below hb)
  replace E6 := Lib.hid (E6.out.below hb)
  replace O6 := Lib.hid (O6.out.below hb)
  replace E7 := Lib.hid (E7.out.below hb)
  replace O7 := Lib.hid (O7.out.below hb)
  replace E8 := Lib.hid (E8.out.below hb)
  replace O8 := Lib.hid (O8.out.below hb)
  replace E9 := Lib.hid (E9.out.below hb)
  replace O9 := Lib.hid (O9.out.below hb)
  replace R2 := Lib.hid (Bs_below R2.out hb)
  replace R3 := Lib.hid (Bs_below R3.out hb)
  replace HB := Lib.hid (HB.out.trans (hb.mono HB.out.size))
  clear hb
  obtain ⟨q00, q01⟩ := OX.out.1
  obtain ⟨q10, q11⟩ := O1.out.1
  obtain ⟨q20, q21⟩ := O6.out.1
  obtain ⟨q30, q31⟩ := O7.out.1
  obtain ⟨q40, q41⟩ := O8.out.1
  obtain ⟨q50, q51⟩ := O9.out.1
  go_wp2_with fail
  refine (rsame_true m1 _ _ l1 _ E6.out.1 E7.out.1 hl1).mono ?_
  rintro e V12 ⟨rfl, hb⟩
  clear q00 q01 q10 q11 q20 q21 q30 q31 q40 q41 q50 q51
  replace EX := Lib.hid (EX.out.below hb)
  replace OX := Lib.hid (OX.out.below hb)
  replace E1 := Lib.hid (E1.out.below hb)
  replace O1 := Lib.hid (O1.out.below hb)
  replace E6 := Lib.hid (E6.out.below hb)
  replace O6 := Lib.hid (O6.out.below hb)
  replace E7 := Lib.hid (E7.out.below hb)
  replace O7 := Lib.hid (O7.out.below hb)
  replace E8 := Lib.hid (E8.out.below hb)
  replace O8 := Lib.hid (O8.out.below hb)
  replace E9 := Lib.hid (E9.out.below hb)
  replace O9 := Lib.hid (O9.out.below hb)
  replace R2 := Lib.hid (Bs_below R2.out hb)
  replace R3 := Lib.hid (Bs_below R3.out hb)
  replace HB := Lib.hid (HB.out.trans (hb.mono HB.out.size))
  clear hb
  obtain ⟨q00, q01⟩ := OX.out.1
  obtain ⟨q10, q11⟩ := O1.out.1
  obtain ⟨q20, q21⟩ := O6.out.1
  obtain ⟨q30, q31⟩ := O7.out.1
  obtain ⟨q40, q41⟩ := O8.out.1
  obtain ⟨q50, q51⟩ := O9.out.1
  go_wp2_with fail
  refine (rsame_true m2 _ _ l2 _ E8.out.1 E9.out.1 hl2).mono ?_
  rintro e V13 ⟨rfl, hb⟩
  clear q00 q01 q10 q11 q20 q21 q30 q31 q40 q41 q50 q51
  replace EX := Lib.hid (EX.out.below hb)
  replace OX := Lib.hid (OX.out.below hb)
  replace E1 := Lib.hid (E1.out.below hb)
  replace O1 := Lib.hid (O1.out.below hb)
  replace E6 := Lib.hid (E6.out.below hb)
  replace O6 := Lib.hid (O6.out.below hb)
  replace E7 := Lib.hid (E7.out.below hb)
  replace O7 := Lib.hid (O7.out.below hb)
  replace E8 := Lib.hid (E8.out.below hb)
  replace O8 := Lib.hid (O8.out.below hb)
  replace E9 := Lib.hid (E9.out.below hb)
  replace O9 := Lib.hid (O9.out.below hb)
  replace R2 := Lib.hid (Bs_below R2.out hb)
  replace R3 := Lib.hid (Bs_below R3.out hb)
  replace HB := Lib.hid (HB.out.trans (hb.mono HB.out.size))
  clear hb
  obtain ⟨q00, q01⟩ := OX.out.1
  obtain ⟨q10, q11⟩ := O1.out.1
  obtain ⟨q20, q21⟩ := O6.out.1
  obtain ⟨q30, q31⟩ := O7.out.1
  obtain ⟨q40, q41⟩ := O8.out.1
  obtain ⟨q50, q51⟩ := O9.out.1
  go_wp2_with fail
  refine (rsame_true b0 _ _ z0 _ E1.out.1 EX.out.1 (by omega)).mono ?_
  rintro e V14 ⟨rfl, hb⟩
  clear q00 q01 q10 q11 q20 q21 q30 q31 q40 q41 q50 q51
  replace EX := Lib.hid (EX.out.below hb)
  replace OX := Lib.hid (OX.out.below hb)
  replace E1 := Lib.hid (E1.out.below hb)
  replace O1 := Lib.hid (O1.out.below hb)
  replace E6 := Lib.hid (E6.out.below hb)
  replace O6 := Lib.hid (O6.out.below hb)
  replace E7 := Lib.hid (E7.out.below hb)
  replace O7 := Lib.hid (O7.out.below hb)
  replace E8 := Lib.hid (E8.out.below hb)
  replace O8 := Lib.hid (O8.out.below hb)
  replace E9 := Lib.hid (E9.out.below hb)
  replace O9 := Lib.hid (O9.out.below hb)
  replace R2 := Lib.hid (Bs_below R2.out hb)
  replace R3 := Lib.hid (Bs_below R3.out hb)
  replace HB := Lib.hid (HB.out.trans (hb.mono HB.out.size))
  clear hb
  go_wp2_with fail
  go_ret
  exact ⟨rfl, HB.out⟩

set_option maxHeartbeats 32000000 in
theorem case_no (b0 : Int) (a0 : Option Addr) (cap0 : Nat) (z0 : List (Int × Int)) (a1 a2 : Int) (w : World) (w0 : El w (.slice a0 z0.length cap0) z0) (h : ¬ (100 : Int) < (z0.length : Int)) (bs : List Int) (kb nh m1 k1 m2 k2 : Int) (ih : Bool) (l1 l2 : List (Int × Int)) (hl1 : l1.length ≤ 3000) (hl2 : l2.length ≤ 3000) (cO : ∀ W v, Es W v z0 → Calls Try.prog 8 #[.agg #[.int .i64 b0, v]] W (RetO W b0 z0)) (cB : ∀ W v, El W v z0 → Calls Try.prog 9 #[.agg #[.int .i64 b0, v]] W (RetY W bs kb)) (cR : ∀ W v, Es W v z0 → Calls Try.prog 10 #[.agg #[.int .i64 b0, v]] W (RetY W bs kb)) (cH : ∀ W v, El W v z0 → Calls Try.prog 11 #[.agg #[.int .i64 b0, v], .int .i64 a1] W fun e w' => e = .returned (.tuple #[.int .i64 nh, .bool ih]) ∧ Below W.heap.size W w') (cI : ∀ W v, Es W v z0 → Calls Try.prog 12 #[.agg #[.int .i64 b0, v], .int .i64 a1] W fun e w' => e = .returned (.tuple #[.int .i64 nh, .bool ih]) ∧ Below W.heap.size W w') (cW : ∀ W v, El W v z0 → Calls Try.prog 13 #[.agg #[.int .i64 b0, v], .int .i64 a1, .int .i64 a2] W (RetE W m1 l1 k1)) (cV : ∀ W v, Es W v z0 → Calls Try.prog 14 #[.agg #[.int .i64 b0, v], .int .i64 a1, .int .i64 a2] W (RetE W m1 l1 k1)) (cT : ∀ W v, El W v z0 → Calls Try.prog 15 #[.agg #[.int .i64 b0, v], .int .i64 a1] W (RetE W m2 l2 k2)) (cU : ∀ W v, Es W v z0 → Calls Try.prog 16 #[.agg #[.int .i64 b0, v], .int .i64 a1] W (RetE W m2 l2 k2)) (cC0 : ∀ W v, El W v z0 → Calls Try.prog 17 #[.agg #[.int .i64 b0, v]] W fun e w' => e = .returned (.int .i64 1) ∧ Below W.heap.size W w') (cD0 : ∀ W v, Es W v z0 → Calls Try.prog 18 #[.agg #[.int .i64 b0, v]] W fun e w' => e = .returned (.bool false) ∧ Below W.heap.size W w') :
    Calls Try.prog 3 #[.agg #[.int .i64 b0, .slice a0 z0.length cap0], .int .i64 a1, .int .i64 a2] w fun e w' => e = .returned (.bool true) ∧ Below w.heap.size w w' := by
  have EX := Lib.hid (w0.alloc (.cells #[.int .i64 b0, .slice a0 z0.length cap0] 24))
  have OX := Lib.hid (ownb2_alloc w b0 (.slice a0 z0.length cap0) 24 w.heap.size rfl)
  have HB : Hid (Below w.heap.size w (w.alloc (.cells #[.int .i64 b0, .slice a0 z0.length cap0] 24))) := (Below.refl _ w).alloc (Nat.le_refl _) _
  clear w0
  go_enter Try.func3, Try.ntmps3
  go_wp2_with fail
  generalize w.alloc (.cells #[.int .i64 b0, .slice a0 z0.length cap0] 24) = U0 at *
  refine (cO _ _ EX.out.1).mono ?_
  rintro e V1 ⟨y1, t1, rfl, ho, hb⟩
  replace EX := Lib.hid (EX.out.below hb)
  replace OX := Lib.hid (OX.out.below hb)
  replace HB := Lib.hid (HB.out.trans (hb.mono HB.out.size))
  have E1 := Lib.hid ho.el
  clear ho hb
  have hal : Below V1.heap.size V1 (V1.alloc (.cells #[.int .i64 b0, .slice y1 z0.length t1] 24)) := (Below.refl _ V1).alloc (Nat.le_refl _) _
  have O1 := Lib.hid (ownb2_alloc V1 b0 (.slice y1 z0.length t1) 24 V1.heap.size rfl)
  replace EX := Lib.hid (EX.out.below hal)
  replace OX := Lib.hid (OX.out.below hal)
  replace E1 := Lib.hid (E1.out.below hal)
  replace HB := Lib.hid (HB.out.trans (hal.mono HB.out.size))
  clear hal
  obtain ⟨X1, hX⟩ : ∃ X1, V1.heap.size = X1 := ⟨_, rfl⟩
  rw [hX] at O1
  obtain ⟨q00, q01⟩ := OX.out.1
  obtain ⟨q10, q11⟩ := O1.out.1
  go_wp2_with fail
  clear hX
  generalize V1.alloc (.cells #[.int .i64 b0, .slice y1 z0.length t1] 24) = U1 at *
  refine (cB _ _ E1.out).mono ?_
  rintro e V2 ⟨y2, t2, rfl, hr, hb⟩
  clear q00 q01 q10 q11
  replace EX := Lib.hid (EX.out.below hb)
  replace OX := Lib.hid (OX.out.below hb)
  replace E1 := Lib.hid (E1.out.below hb)
  replace O1 := Lib.hid (O1.out.below hb)
  replace HB := Lib.hid (HB.out.trans (hb.mono HB.out.size))
  have R2 := Lib.hid hr
  clear hr hb
  obtain ⟨q00, q01⟩ := OX.out.1
  obtain ⟨q10, q11⟩ := O1.out.1
  go_wp2_with fail
  refine (cR _ _ EX.out.1).mono ?_
  rintro e V3 ⟨y3, t3, rfl, hr, hb⟩
  clear q00 q01 q10 q11
  replace EX := Lib.hid (EX.out.below hb)
  replace OX := Lib.hid (OX.out.below hb)
  replace E1 := Lib.hid (E1.out.below hb)
  replace O1 := Lib.hid (O1.out.below hb)
  replace R2 := Lib.hid (Bs_below R2.out hb)
  replace HB := Lib.hid (HB.out.trans (hb.mono HB.out.size))
  have R3 := Lib.hid hr
  clear hr hb
  obtain ⟨q00, q01⟩ := OX.out.1
  obtain ⟨q10, q11⟩ := O1.out.1
  go_wp2_with fail
  refine (cH _ _ E1.out).mono ?_
  rintro e V4 ⟨rfl, hb⟩
  clear q00 q01 q10 q11
  replace EX := Lib.hid (EX.out.below hb)
  replace OX := Lib.hid (OX.out.below hb)
  replace E1 := Lib.hid (E1.out.below hb)
  replace O1 := Lib.hid (O1.out.below hb)
  replace R2 := Lib.hid (Bs_below R2.out hb)
  replace R3 := Lib.hid (Bs_below R3.out hb)
  replace HB := Lib.hid (HB.out.trans (hb.mono HB.out.size))
  clear hb
  obtain ⟨q00, q01⟩ := OX.out.1
  obtain ⟨q10, q11⟩ := O1.out.1
  go_wp2_with fail
  refine (cI _ _ EX.out.1).mono ?_
  rintro e V5 ⟨rfl, hb⟩
  clear q00 q01 q10 q11
  replace EX := Lib.hid (EX.out.below hb)
  replace OX := Lib.hid (OX.out.below hb)
  replace E1 := Lib.hid (E1.out.below hb)
  replace O1 := Lib.hid (O1.out.below hb)
  replace R2 := Lib.hid (Bs_below R2.out hb)
  replace R3 := Lib.hid (Bs_below R3.out hb)
  replace HB := Lib.hid (HB.out.trans (hb.mono HB.out.size))
  clear hb
  obtain ⟨q00, q01⟩ := OX.out.1
  obtain ⟨q10, q11⟩ := O1.out.1
  go_wp2_with fail
  refine (cW _ _ E1.out).mono ?_
  rintro e V6 ⟨y6, t6, rfl, ho, hb⟩
  clear q00 q01 q10 q11
  replace EX := Lib.hid (EX.out.below hb)
  replace OX := Lib.hid (OX.out.below hb)
  replace E1 := Lib.hid (E1.out.below hb)
  replace O1 := Lib.hid (O1.out.below hb)
  replace R2 := Lib.hid (Bs_below R2.out hb)
  replace R3 := Lib.hid (Bs_below R3.out hb)
  replace HB := Lib.hid (HB.out.trans (hb.mono HB.out.size))
  have E6 := Lib.hid ho.el
  clear ho hb
  have hal : Below V6.heap.size V6 (V6.alloc (.cells #[.int .i64 m1, .slice y6 l1.length t6] 24)) := (Below.refl _ V6).alloc (Nat.le_refl _) _
  have O6 := Lib.hid (ownb2_alloc V6 m1 (.slice y6 l1.length t6) 24 V6.heap.size rfl)
  replace EX := Lib.hid (EX.out.below hal)
  replace OX := Lib.hid (OX.out.below hal)
  replace E1 := Lib.hid (E1.out.below hal)
  replace O1 := Lib.hid (O1.out.below hal)
  replace E6 := Lib.hid (E6.out.below hal)
  replace R2 := Lib.hid (Bs_below R2.out hal)
  replace R3 := Lib.hid (Bs_below R3.out hal)
  replace HB := Lib.hid (HB.out.trans (hal.mono HB.out.size))
  clear hal
  obtain ⟨X6, hX⟩ : ∃ X6, V6.heap.size = X6 := ⟨_, rfl⟩
  rw [hX] at O6
  obtain ⟨q00, q01⟩ := OX.out.1
  obtain ⟨q10, q11⟩ := O1.out.1
  obtain ⟨q20, q21⟩ := O6.out.1
  go_wp2_with fail
  clear hX
  generalize V6.alloc (.cells #[.int .i64 m1, .slice y6 l1.length t6] 24) = U6 at *
  refine (cV _ _ EX.out.1).mono ?_
  rintro e V7 ⟨y7, t7, rfl, ho, hb⟩
  clear q00 q01 q10 q11 q20 q21
  replace EX := Lib.hid (EX.out.below hb)
  replace OX := Lib.hid (OX.out.below hb)
  replace E1 := Lib.hid (E1.out.below hb)
  replace O1 := Lib.hid (O1.out.below hb)
  replace E6 := Lib.hid (E6.out.below hb)
  replace O6 := Lib.hid (O6.out.below hb)
  replace R2 := Lib.hid (Bs_below R2.out hb)
  replace R3 := Lib.hid (Bs_below R3.out hb)
  replace HB := Lib.hid (HB.out.trans (hb.mono HB.out.size))
  have E7 := Lib.hid ho.el
  clear ho hb
  have hal : Below V7.heap.size V7 (V7.alloc (.cells #[.int .i64 m1, .slice y7 l1.length t7] 24)) := (Below.refl _ V7).alloc (Nat.le_refl _) _
  have O7 := Lib.hid (ownb2_alloc V7 m1 (.slice y7 l1.length t7) 24 V7.heap.size rfl)
  replace EX := Lib.hid (EX.out.below hal)
  replace OX := Lib.hid (OX.out.below hal)
  replace E1 := Lib.hid (E1.out.below hal)
  replace O1 := Lib.hid (O1.out.below hal)
  replace E6 := Lib.hid (E6.out.below hal)
  replace O6 := Lib.hid (O6.out.below hal)
  replace E7 := Lib.hid (E7.out.below hal)
  replace R2 := Lib.hid (Bs_below R2.out hal)
  replace R3 := Lib.hid (Bs_below R3.out hal)
  replace HB := Lib.hid (HB.out.trans (hal.mono HB.out.size))
  clear hal
  obtain ⟨X7, hX⟩ : ∃ X7, V7.heap.size = X7 := ⟨_, rfl⟩
  rw [hX] at O7
  obtain ⟨q00, q01⟩ := OX.out.1
  obtain ⟨q10, q11⟩ := O1.out.1
  obtain ⟨q20, q21⟩ := O6.out.1
  obtain ⟨q30, q31⟩ := O7.out.1
  go_wp2_with fail
  clear hX
  generalize V7.alloc (.cells #[.int .i64 m1, .slice y7 l1.length t7] 24) = U7 at *
  refine (cT _ _ E1.out).mono ?_
  rintro e V8 ⟨y8, t8, rfl, ho, hb⟩
  clear q00 q01 q10 q11 q20 q21 q30 q31
  replace EX := Lib.hid (EX.out.below hb)
  replace OX := Lib.hid (OX.out.below hb)
  replace E1 := Lib.hid (E1.out.below hb)
  replace O1 := Lib.hid (O1.out.below hb)
  replace E6 := Lib.hid (E6.out.below hb)
  replace O6 := Lib.hid (O6.out.below hb)
  replace E7 := Lib.hid (E7.out.below hb)
  replace O7 := Lib.hid (O7.out.below hb)
  replace R2 := Lib.hid (Bs_below R2.out hb)
  replace R3 := Lib.hid (Bs_below R3.out hb)
  replace HB := Lib.hid (HB.out.trans (hb.mono HB.out.size))
  have E8 := Lib.hid ho.el
  clear ho hb
  have hal : Below V8.heap.size V8 (V8.alloc (.cells #[.int .i64 m2, .slice y8 l2.length t8] 24)) := (Below.refl _ V8).alloc (Nat.le_refl _) _
  have O8 := Lib.hid (ownb2_alloc V8 m2 (.slice y8 l2.length t8) 24 V8.heap.size rfl)
  replace EX := Lib.hid (EX.out.below hal)
  replace OX := Lib.hid (OX.out.below hal)
  replace E1 := Lib.hid (E1.out.below hal)
  replace O1 := Lib.hid (O1.out.below hal)
  replace E6 := Lib.hid (E6.out.below hal)
  replace O6 := Lib.hid (O6.out.below hal)
  replace E7 := Lib.hid (E7.out.below hal)
  replace O7 := Lib.hid (O7.out.below hal)
  replace E8 := Lib.hid (E8.out.below hal)
  replace R2 := Lib.hid (Bs_below R2.out hal)
  replace R3 := Lib.hid (Bs_below R3.out hal)
  replace HB := Lib.hid (HB.out.trans (hal.mono HB.out.size))
  clear hal
  obtain ⟨X8, hX⟩ : ∃ X8, V8.heap.size = X8 := ⟨_, rfl⟩
  rw [hX] at O8
  obtain ⟨q00, q01⟩ := OX.out.1
  obtain ⟨q10, q11⟩ := O1.out.1
  obtain ⟨q20, q21⟩ := O6.out.1
  obtain ⟨q30, q31⟩ := O7.out.1
  obtain ⟨q40, q41⟩ := O8.out.1
  go_wp2_with fail
  clear hX
  generalize V8.alloc (.cells #[.int .i64 m2, .slice y8 l2.length t8] 24) = U8 at *
  refine (cU _ _ EX.out.1).mono ?_
  rintro e V9 ⟨y9, t9, rfl, ho, hb⟩
  clear q00 q01 q10 q11 q20 q21 q30 q31 q40 q41
  replace EX := Lib.hid (EX.out.below hb)
  replace OX := Lib.hid (OX.out.below hb)
  replace E1 := Lib.hid (E1.out.below hb)
  replace O1 := Lib.hid (O1.out.below hb)
  replace E6 := Lib.hid (E6.out.below hb)
  replace O6 := Lib.hid (O6.out.below hb)
  replace E7 := Lib.hid (E7.out.below hb)
  replace O7 := Lib.hid (O7.out.below hb)
  replace E8 := Lib.hid (E8.out.below hb)
  replace O8 := Lib.hid (O8.out.below hb)
  replace R2 := Lib.hid (Bs_below R2.out hb)
  replace R3 := Lib.hid (Bs_below R3.out hb)
  replace HB := Lib.hid (HB.out.trans (hb.mono HB.out.size))
  have E9 := Lib.hid ho.el
  clear ho hb
  have hal : Below V9.heap.size V9 (V9.alloc (.cells #[.int .i64 m2, .slice y9 l2.length t9] 24)) := (Below.refl _ V9).alloc (Nat.le_refl _) _
  have O9 := Lib.hid (ownb2_alloc V9 m2 (.slice y9 l2.length t9) 24 V9.heap.size rfl)
  replace EX := Lib.hid (EX.out.below hal)
  replace OX := Lib.hid (OX.out.below hal)
  replace E1 := Lib.hid (E1.out.below hal)
  replace O1 := Lib.hid (O1.out.below hal)
  replace E6 := Lib.hid (E6.out.below hal)
  replace O6 := Lib.hid (O6.out.below hal)
  replace E7 := Lib.hid (E7.out.below hal)
  replace O7 := Lib.hid (O7.out.below hal)
  replace E8 := Lib.hid (E8.out.below hal)
  replace O8 := Lib.hid (O8.out.below hal)
  replace E9 := Lib.hid (E9.out.below hal)
  replace R2 := Lib.hid (Bs_below R2.out hal)
  replace R3 := Lib.hid (Bs_below R3.out hal)
  replace HB := Lib.hid (HB.out.trans (hal.mono HB.out.size))
  clear hal
  obtain ⟨X9, hX⟩ : ∃ X9, V9.heap.size = X9 := ⟨_, rfl⟩
  rw [hX] at O9
  obtain ⟨q00, q01⟩ := OX.out.1
  obtain ⟨q10, q11⟩ := O1.out.1
  obtain ⟨q20, q21⟩ := O6.out.1
  obtain ⟨q30, q31⟩ := O7.out.1
  obtain ⟨q40, q41⟩ := O8.out.1
  obtain ⟨q50, q51⟩ := O9.out.1
  go_wp2_with fail
  clear hX
  generalize V9.alloc (.cells #[.int .i64 m2, .slice y9 l2.length t9] 24) = U9 at *
  have kc : ∀ w', Below U9.heap.size U9 w' → (w'.cell? ⟨w.heap.size, 0, none⟩ = some (.int .i64 b0) ∧ w'.cell? ⟨w.heap.size, 1, none⟩ = some (.slice a0 z0.length cap0)) ∧ w'.cell? ⟨X1, 0, none⟩ = some (.int .i64 b0) ∧ w'.cell? ⟨X1, 1, none⟩ = some (.slice y1 z0.length t1) := fun w' h => ⟨(OX.out.below h).1, (O1.out.below h).1⟩
  have hcv1 : ∀ w', Below U9.heap.size U9 w' → (convert 26 9 (.slice y2 bs.length t2)).run Try.prog w' = .ok (.string (strOfNums bs)) w' := fun w' h => Bs_conv (Bs_below R2.out h)
  have hcv2 : ∀ w', Below U9.heap.size U9 w' → (convert 26 9 (.slice y3 bs.length t3)).run Try.prog w' = .ok (.string (strOfNums bs)) w' := fun w' h => Bs_conv (Bs_below R3.out h)
  have cC : ∀ w', Below U9.heap.size U9 w' → Calls Try.prog 17 #[.agg #[.int .i64 b0, .slice y1 z0.length t1]] w' fun e w'' => e = .returned (.int .i64 1) ∧ Below w'.heap.size w' w'' := fun w' h => cC0 w' _ (E1.out.below h)
  have cD : ∀ w', Below U9.heap.size U9 w' → Calls Try.prog 18 #[.agg #[.int .i64 b0, .slice a0 z0.length cap0]] w' fun e w'' => e = .returned (.bool false) ∧ Below w'.heap.size w' w'' := fun w' h => cD0 w' _ (EX.out.1.below h)
  clear q00 q01 q10 q11 q20 q21 q30 q31 q40 q41 q50 q51
  refine wp_region_typed (C := fun w' => Below U9.heap.size U9 w') (X := fun w w' => Below w.heap.size w w') (n := 136) (by kernel_rfl) (by kernel_rfl) rfl (fun w => Below.refl _ w) (Below.refl _ _).drew ?_
  refine w_is (fun w => Below.refl _ w) _ (.inl rfl) (fun ρ w hC hc hfn hf => by have e7 : ρ (.tmp 7) = _ := hf 7 (by decide); (conv => lhs; simp [execOp, go_sem, hc, e7, kc w hC])) ?_
  refine w_call (Is _) (fun _ _ _ h _ => h) 17 (.inl rfl) (fun ρ w hC hc hfn hf => by have e79 : ρ (.tmp 79) = _ := hf 79 (by decide); exact ⟨_, by (conv => lhs; simp [execOp, resolve, invoke, go_sem, hc, hfn, e79]), tc_below hC (cC w hC)⟩) ?_
  refine w_is (fun w => Below.refl _ w) _ (.inl rfl) (fun ρ w hC hc hfn hf => by have e80 : ρ (.tmp 80) = _ := hf 80 (by decide); (conv => lhs; simp [execOp, go_sem, hc, e80])) ?_
  refine w_is (fun w => Below.refl _ w) _ (.inl rfl) (fun ρ w hC hc hfn hf => by have e3 : ρ (.tmp 3) = _ := hf 3 (by decide); (conv => lhs; simp [execOp, go_sem, hc, e3, kc w hC])) ?_
  refine w_call (Is _) (fun _ _ _ h _ => h) 18 (.inl rfl) (fun ρ w hC hc hfn hf => by have e82 : ρ (.tmp 82) = _ := hf 82 (by decide); exact ⟨_, by (conv => lhs; simp [execOp, resolve, invoke, go_sem, hc, hfn, e82]), tc_below hC (cD w hC)⟩) ?_
  refine w_is (fun w => Below.refl _ w) _ (.inl rfl) (fun ρ w hC hc hfn hf => by have e81 : ρ (.tmp 81) = _ := hf 81 (by decide); have e83 : ρ (.tmp 83) = _ := hf 83 (by decide); (conv => lhs; simp [execOp, go_sem, hc, e81, e83])) ?_
  refine w_is (fun w => Below.refl _ w) _ (.inl rfl) (fun ρ w hC hc hfn hf => by have e84 : ρ (.tmp 84) = _ := hf 84 (by decide); (conv => lhs; simp [execOp, go_sem, hc, e84])) ?_
  refine w_is (fun w => Below.refl _ w) _ (.inr ⟨6, 85, true, rfl, rfl, known_is rfl⟩) (fun ρ w hC hc hfn hf => by have e8 : ρ (.tmp 8) = _ := hf 8 (by decide); (conv => lhs; simp [execOp, go_sem, hc, e8])) ?_
  refine w_is (fun w => Below.refl _ w) _ (.inr ⟨6, 85, true, rfl, rfl, known_is rfl⟩) (fun ρ w hC hc hfn hf => by have e86 : ρ (.tmp 86) = _ := hf 86 (by decide); (conv => lhs; simp [execOp, go_sem, hc, e86, hcv1 w hC])) ?_
  refine w_is (fun w => Below.refl _ w) _ (.inr ⟨6, 85, true, rfl, rfl, known_is rfl⟩) (fun ρ w hC hc hfn hf => by have e10 : ρ (.tmp 10) = _ := hf 10 (by decide); (conv => lhs; simp [execOp, go_sem, hc, e10])) ?_
  refine w_is (fun w => Below.refl _ w) _ (.inr ⟨6, 85, true, rfl, rfl, known_is rfl⟩) (fun ρ w hC hc hfn hf => by have e88 : ρ (.tmp 88) = _ := hf 88 (by decide); (conv => lhs; simp [execOp, go_sem, hc, e88, hcv2 w hC])) ?_
  refine w_is (fun w => Below.refl _ w) _ (.inr ⟨6, 85, true, rfl, rfl, known_is rfl⟩) (fun ρ w hC hc hfn hf => by have e87 : ρ (.tmp 87) = _ := hf 87 (by decide); have e89 : ρ (.tmp 89) = _ := hf 89 (by decide); (conv => lhs; simp [execOp, go_sem, hc, e87, e89])) ?_
  refine w_is (fun w => Below.refl _ w) _ (.inl rfl) (fun ρ w hC hc hfn hf => by have e85 : ρ (.tmp 85) = _ := hf 85 (by decide); have e90 : ρ (.tmp 90) = _ := hf 90 (by decide); (conv => lhs; simp [execOp, go_sem, hc, e85, e90])) ?_
  refine w_is (fun w => Below.refl _ w) _ (.inl rfl) (fun ρ w hC hc hfn hf => by have e91 : ρ (.tmp 91) = _ := hf 91 (by decide); (conv => lhs; simp [execOp, go_sem, hc, e91])) ?_
  refine w_is (fun w => Below.refl _ w) _ (.inr ⟨13, 92, true, rfl, rfl, known_is rfl⟩) (fun ρ w hC hc hfn hf => by have e9 : ρ (.tmp 9) = _ := hf 9 (by decide); (conv => lhs; simp [execOp, go_sem, hc, e9])) ?_
  refine w_is (fun w => Below.refl _ w) _ (.inr ⟨13, 92, true, rfl, rfl, known_is rfl⟩) (fun ρ w hC hc hfn hf => by have e11 : ρ (.tmp 11) = _ := hf 11 (by decide); (conv => lhs; simp [execOp, go_sem, hc, e11])) ?_
  refine w_is (fun w => Below.refl _ w) _ (.inr ⟨13, 92, true, rfl, rfl, known_is rfl⟩) (fun ρ w hC hc hfn hf => by have e93 : ρ (.tmp 93) = _ := hf 93 (by decide); have e94 : ρ (.tmp 94) = _ := hf 94 (by decide); (conv => lhs; simp [execOp, go_sem, hc, e93, e94])) ?_
  refine w_is (fun w => Below.refl _ w) _ (.inl rfl) (fun ρ w hC hc hfn hf => by have e92 : ρ (.tmp 92) = _ := hf 92 (by decide); have e95 : ρ (.tmp 95) = _ := hf 95 (by decide); (conv => lhs; simp [execOp, go_sem, hc, e92, e95])) ?_
  refine w_is (fun w => Below.refl _ w) _ (.inl rfl) (fun ρ w hC hc hfn hf => by have e96 : ρ (.tmp 96) = _ := hf 96 (by decide); (conv => lhs; simp [execOp, go_sem, hc, e96])) ?_
  refine w_is (fun w => Below.refl _ w) _ (.inr ⟨18, 97, true, rfl, rfl, known_is rfl⟩) (fun ρ w hC hc hfn hf => by have e12 : ρ (.tmp 12) = _ := hf 12 (by decide); (conv => lhs; simp [execOp, go_sem, hc, e12])) ?_
  refine w_is (fun w => Below.refl _ w) _ (.inr ⟨18, 97, true, rfl, rfl, known_is rfl⟩) (fun ρ w hC hc hfn hf => by have e14 : ρ (.tmp 14) = _ := hf 14 (by decide); (conv => lhs; simp [execOp, go_sem, hc, e14])) ?_
  refine w_is (fun w => Below.refl _ w) _ (.inr ⟨18, 97, true, rfl, rfl, known_is rfl⟩) (fun ρ w hC hc hfn hf => by have e98 : ρ (.tmp 98) = _ := hf 98 (by decide); have e99 : ρ (.tmp 99) = _ := hf 99 (by decide); (conv => lhs; simp [execOp, go_sem, hc, e98, e99])) ?_
  refine w_is (fun w => Below.refl _ w) _ (.inl rfl) (fun ρ w hC hc hfn hf => by have e97 : ρ (.tmp 97) = _ := hf 97 (by decide); have e100 : ρ (.tmp 100) = _ := hf 100 (by decide); (conv => lhs; simp [execOp, go_sem, hc, e97, e100])) ?_
  refine w_is (fun w => Below.refl _ w) _ (.inl rfl) (fun ρ w hC hc hfn hf => by have e101 : ρ (.tmp 101) = _ := hf 101 (by decide); (conv => lhs; simp [execOp, go_sem, hc, e101])) ?_
  refine w_is (fun w => Below.refl _ w) _ (.inr ⟨23, 102, true, rfl, rfl, known_is rfl⟩) (fun ρ w hC hc hfn hf => by have e13 : ρ (.tmp 13) = _ := hf 13 (by decide); (conv => lhs; simp [execOp, go_sem, hc, e13])) ?_
  refine w_is (fun w => Below.refl _ w) _ (.inr ⟨23, 102, true, rfl, rfl, known_is rfl⟩) (fun ρ w hC hc hfn hf => by have e15 : ρ (.tmp 15) = _ := hf 15 (by decide); (conv => lhs; simp [execOp, go_sem, hc, e15])) ?_
  refine w_is (fun w => Below.refl _ w) _ (.inr ⟨23, 102, true, rfl, rfl, known_is rfl⟩) (fun ρ w hC hc hfn hf => by have e103 : ρ (.tmp 103) = _ := hf 103 (by decide); have e104 : ρ (.tmp 104) = _ := hf 104 (by decide); (conv => lhs; simp [execOp, go_sem, hc, e103, e104])) ?_
  refine w_is (fun w => Below.refl _ w) _ (.inl rfl) (fun ρ w hC hc hfn hf => by have e102 : ρ (.tmp 102) = _ := hf 102 (by decide); have e105 : ρ (.tmp 105) = _ := hf 105 (by decide); (conv => lhs; simp [execOp, go_sem, hc, e102, e105])) ?_
  refine w_is (fun w => Below.refl _ w) _ (.inl rfl) (fun ρ w hC hc hfn hf => by have e106 : ρ (.tmp 106) = _ := hf 106 (by decide); (conv => lhs; simp [execOp, go_sem, hc, e106])) ?_
  intro A U10 hC hn hd hf
  have y0 : A.eval (.tmp 0) = _ := Eq.trans (hf 0) (by conv => lhs; simp [go_sem])
  have y1 : A.eval (.tmp 1) = _ := Eq.trans (hf 1) (by conv => lhs; simp [go_sem])
  have y2 : A.eval (.tmp 2) = _ := Eq.trans (hf 2) (by conv => lhs; simp [go_sem])
  have y3 : A.eval (.tmp 3) = _ := Eq.trans (hf 3) (by conv => lhs; simp [go_sem])
  have y4 : A.eval (.tmp 4) = _ := Eq.trans (hf 4) (by conv => lhs; simp [go_sem])
  have y5 : A.eval (.tmp 5) = _ := Eq.trans (hf 5) (by conv => lhs; simp [go_sem])
  have y6 : A.eval (.tmp 6) = _ := Eq.trans (hf 6) (by conv => lhs; simp [go_sem])
  have y7 : A.eval (.tmp 7) = _ := Eq.trans (hf 7) (by conv => lhs; simp [go_sem])
  have y8 : A.eval (.tmp 8) = _ := Eq.trans (hf 8) (by conv => lhs; simp [go_sem])
  have y9 : A.eval (.tmp 9) = _ := Eq.trans (hf 9) (by conv => lhs; simp [go_sem])
  have y10 : A.eval (.tmp 10) = _ := Eq.trans (hf 10) (by conv => lhs; simp [go_sem])
  have y11 : A.eval (.tmp 11) = _ := Eq.trans (hf 11) (by conv => lhs; simp [go_sem])
  have y12 : A.eval (.tmp 12) = _ := Eq.trans (hf 12) (by conv => lhs; simp [go_sem])
  have y13 : A.eval (.tmp 13) = _ := Eq.trans (hf 13) (by conv => lhs; simp [go_sem])
  have y14 : A.eval (.tmp 14) = _ := Eq.trans (hf 14) (by conv => lhs; simp [go_sem])
  have y15 : A.eval (.tmp 15) = _ := Eq.trans (hf 15) (by conv => lhs; simp [go_sem])
  have y16 : A.eval (.tmp 16) = _ := Eq.trans (hf 16) (by conv => lhs; simp [go_sem])
  have y17 : A.eval (.tmp 17) = _ := Eq.trans (hf 17) (by conv => lhs; simp [go_sem])
  have y18 : A.eval (.tmp 18) = _ := Eq.trans (hf 18) (by conv => lhs; simp [go_sem])
  have y19 : A.eval (.tmp 19) = _ := Eq.trans (hf 19) (by conv => lhs; simp [go_sem])
  have y20 : A.eval (.tmp 20) = _ := Eq.trans (hf 20) (by conv => lhs; simp [go_sem])
  have y21 : A.eval (.tmp 21) = _ := Eq.trans (hf 21) (by conv => lhs; simp [go_sem])
  have y22 : A.eval (.tmp 22) = _ := Eq.trans (hf 22) (by conv => lhs; simp [go_sem])
  have y23 : A.eval (.tmp 23) = _ := Eq.trans (hf 23) (by conv => lhs; simp [go_sem])
  have y24 : A.eval (.tmp 24) = _ := hf 24
  have y25 : A.eval (.tmp 25) = _ := Eq.trans (hf 25) (by conv => lhs; simp [go_sem])
  have y26 : A.eval (.tmp 26) = _ := Eq.trans (hf 26) (by conv => lhs; simp [go_sem])
  have y27 : A.eval (.tmp 27) = _ := Eq.trans (hf 27) (by conv => lhs; simp [go_sem])
  have y28 : A.eval (.tmp 28) = _ := Eq.trans (hf 28) (by conv => lhs; simp [go_sem])
  have y29 : A.eval (.tmp 29) = _ := Eq.trans (hf 29) (by conv => lhs; simp [go_sem])
  have y30 : A.eval (.tmp 30) = _ := Eq.trans (hf 30) (by conv => lhs; simp [go_sem])
  have y31 : A.eval (.tmp 31) = _ := Eq.trans (hf 31) (by conv => lhs; simp [go_sem])
  have y32 : A.eval (.tmp 32) = _ := Eq.trans (hf 32) (by conv => lhs; simp [go_sem])
  have y33 : A.eval (.tmp 33) = _ := Eq.trans (hf 33) (by conv => lhs; simp [go_sem])
  have y34 : A.eval (.tmp 34) = _ := Eq.trans (hf 34) (by conv => lhs; simp [go_sem])
  have y35 : A.eval (.tmp 35) = _ := Eq.trans (hf 35) (by conv => lhs; simp [go_sem])
  have y36 : A.eval (.tmp 36) = _ := Eq.trans (hf 36) (by conv => lhs; simp [go_sem])
  have y37 : A.eval (.tmp 37) = _ := Eq.trans (hf 37) (by conv => lhs; simp [go_sem])
  have y38 : A.eval (.tmp 38) = _ := Eq.trans (hf 38) (by conv => lhs; simp [go_sem])
  have y39 : A.eval (.tmp 39) = _ := Eq.trans (hf 39) (by conv => lhs; simp [go_sem])
  have y40 : A.eval (.tmp 40) = _ := Eq.trans (hf 40) (by conv => lhs; simp [go_sem])
  have y41 : A.eval (.tmp 41) = _ := Eq.trans (hf 41) (by conv => lhs; simp [go_sem])
  have y42 : A.eval (.tmp 42) = _ := Eq.trans (hf 42) (by conv => lhs; simp [go_sem])
  have y43 : A.eval (.tmp 43) = _ := Eq.trans (hf 43) (by conv => lhs; simp [go_sem])
  have y44 : A.eval (.tmp 44) = _ := Eq.trans (hf 44) (by conv => lhs; simp [go_sem])
  have y45 : A.eval (.tmp 45) = _ := Eq.trans (hf 45) (by conv => lhs; simp [go_sem])
  have y46 : A.eval (.tmp 46) = _ := Eq.trans (hf 46) (by conv => lhs; simp [go_sem])
  have y47 : A.eval (.tmp 47) = _ := Eq.trans (hf 47) (by conv => lhs; simp [go_sem])
  have y48 : A.eval (.tmp 48) = _ := Eq.trans (hf 48) (by conv => lhs; simp [go_sem])
  have y49 : A.eval (.tmp 49) = _ := Eq.trans (hf 49) (by conv => lhs; simp [go_sem])
  have y50 : A.eval (.tmp 50) = _ := Eq.trans (hf 50) (by conv => lhs; simp [go_sem])
  have y51 : A.eval (.tmp 51) = _ := Eq.trans (hf 51) (by conv => lhs; simp [go_sem])
  have y52 : A.eval (.tmp 52) = _ := Eq.trans (hf 52) (by conv => lhs; simp [go_sem])
  have y53 : A.eval (.tmp 53) = _ := Eq.trans (hf 53) (by conv => lhs; simp [go_sem])
  have y54 : A.eval (.tmp 54) = _ := Eq.trans (hf 54) (by conv => lhs; simp [go_sem])
  have y55 : A.eval (.tmp 55) = _ := Eq.trans (hf 55) (by conv => lhs; simp [go_sem])
  have y56 : A.eval (.tmp 56) = _ := Eq.trans (hf 56) (by conv => lhs; simp [go_sem])
  have y57 : A.eval (.tmp 57) = _ := Eq.trans (hf 57) (by conv => lhs; simp [go_sem])
  have y58 : A.eval (.tmp 58) = _ := Eq.trans (hf 58) (by conv => lhs; simp [go_sem])
  have y59 : A.eval (.tmp 59) = _ := Eq.trans (hf 59) (by conv => lhs; simp [go_sem])
  have y60 : A.eval (.tmp 60) = _ := Eq.trans (hf 60) (by conv => lhs; simp [go_sem])
  have y61 : A.eval (.tmp 61) = _ := Eq.trans (hf 61) (by conv => lhs; simp [go_sem])
  have y62 : A.eval (.tmp 62) = _ := Eq.trans (hf 62) (by conv => lhs; simp [go_sem])
  have y63 : A.eval (.tmp 63) = _ := Eq.trans (hf 63) (by conv => lhs; simp [go_sem])
  have y64 : A.eval (.tmp 64) = _ := Eq.trans (hf 64) (by conv => lhs; simp [go_sem])
  have y65 : A.eval (.tmp 65) = _ := Eq.trans (hf 65) (by conv => lhs; simp [go_sem])
  have y66 : A.eval (.tmp 66) = _ := Eq.trans (hf 66) (by conv => lhs; simp [go_sem])
  have y67 : A.eval (.tmp 67) = _ := Eq.trans (hf 67) (by conv => lhs; simp [go_sem])
  have y68 : A.eval (.tmp 68) = _ := Eq.trans (hf 68) (by conv => lhs; simp [go_sem])
  have y69 : A.eval (.tmp 69) = _ := Eq.trans (hf 69) (by conv => lhs; simp [go_sem])
  have y70 : A.eval (.tmp 70) = _ := Eq.trans (hf 70) (by conv => lhs; simp [go_sem])
  have y71 : A.eval (.tmp 71) = _ := Eq.trans (hf 71) (by conv => lhs; simp [go_sem])
  have y72 : A.eval (.tmp 72) = _ := Eq.trans (hf 72) (by conv => lhs; simp [go_sem])
  have y73 : A.eval (.tmp 73) = _ := Eq.trans (hf 73) (by conv => lhs; simp [go_sem])
  have y74 : A.eval (.tmp 74) = _ := Eq.trans (hf 74) (by conv => lhs; simp [go_sem])
  have y75 : A.eval (.tmp 75) = _ := Eq.trans (hf 75) (by conv => lhs; simp [go_sem])
  have y76 : A.eval (.tmp 76) = _ := Eq.trans (hf 76) (by conv => lhs; simp [go_sem])
  have y77 : A.eval (.tmp 77) = _ := Eq.trans (hf 77) (by conv => lhs; simp [go_sem])
  have y78 : A.eval (.tmp 78) = _ := Eq.trans (hf 78) (by conv => lhs; simp [go_sem])
  have y79 : A.eval (.tmp 79) = _ := hf 79
  have y80 : A.eval (.tmp 80) = _ := hf 80
  have y81 : A.eval (.tmp 81) = _ := hf 81
  have y82 : A.eval (.tmp 82) = _ := hf 82
  have y83 : A.eval (.tmp 83) = _ := hf 83
  have y84 : A.eval (.tmp 84) = _ := hf 84
  have y85 : A.eval (.tmp 85) = _ := hf 85
  have y86 : A.eval (.tmp 86) = _ := hf 86
  have y87 : A.eval (.tmp 87) = _ := hf 87
  have y88 : A.eval (.tmp 88) = _ := hf 88
  have y89 : A.eval (.tmp 89) = _ := hf 89
  have y90 : A.eval (.tmp 90) = _ := hf 90
  have y91 : A.eval (.tmp 91) = _ := hf 91
  have y92 : A.eval (.tmp 92) = _ := hf 92
  have y93 : A.eval (.tmp 93) = _ := hf 93
  have y94 : A.eval (.tmp 94) = _ := hf 94
  have y95 : A.eval (.tmp 95) = _ := hf 95
  have y96 : A.eval (.tmp 96) = _ := hf 96
  have y97 : A.eval (.tmp 97) = _ := hf 97
  have y98 : A.eval (.tmp 98) = _ := hf 98
  have y99 : A.eval (.tmp 99) = _ := hf 99
  have y100 : A.eval (.tmp 100) = _ := hf 100
  have y101 : A.eval (.tmp 101) = _ := hf 101
  have y102 : A.eval (.tmp 102) = _ := hf 102
  have y103 : A.eval (.tmp 103) = _ := hf 103
  have y104 : A.eval (.tmp 104) = _ := hf 104
  have y105 : A.eval (.tmp 105) = _ := hf 105
  have y106 : A.eval (.tmp 106) = _ := hf 106
  have y107 : A.eval (.tmp 107) = _ := Eq.trans (hf 107) (by conv => lhs; simp [go_sem])
  have y108 : A.eval (.tmp 108) = _ := Eq.trans (hf 108) (by conv => lhs; simp [go_sem])
  have y109 : A.eval (.tmp 109) = _ := Eq.trans (hf 109) (by conv => lhs; simp [go_sem])
  have y110 : A.eval (.tmp 110) = _ := Eq.trans (hf 110) (by conv => lhs; simp [go_sem])
  have y111 : A.eval (.tmp 111) = _ := Eq.trans (hf 111) (by conv => lhs; simp [go_sem])
  have y112 : A.eval (.tmp 112) = _ := Eq.trans (hf 112) (by conv => lhs; simp [go_sem])
  have y113 : A.eval (.tmp 113) = _ := Eq.trans (hf 113) (by conv => lhs; simp [go_sem])
  have y114 : A.eval (.tmp 114) = _ := Eq.trans (hf 114) (by conv => lhs; simp [go_sem])
  have y115 : A.eval (.tmp 115) = _ := Eq.trans (hf 115) (by conv => lhs; simp [go_sem])
  have y116 : A.eval (.tmp 116) = _ := Eq.trans (hf 116) (by conv => lhs; simp [go_sem])
  have y117 : A.eval (.tmp 117) = _ := Eq.trans (hf 117) (by conv => lhs; simp [go_sem])
  have y118 : A.eval (.tmp 118) = _ := Eq.trans (hf 118) (by conv => lhs; simp [go_sem])
  have y119 : A.eval (.tmp 119) = _ := Eq.trans (hf 119) (by conv => lhs; simp [go_sem])
  have y120 : A.eval (.tmp 120) = _ := Eq.trans (hf 120) (by conv => lhs; simp [go_sem])
  have y121 : A.eval (.tmp 121) = _ := Eq.trans (hf 121) (by conv => lhs; simp [go_sem])
  have y122 : A.eval (.tmp 122) = _ := Eq.trans (hf 122) (by conv => lhs; simp [go_sem])
  have y123 : A.eval (.tmp 123) = _ := Eq.trans (hf 123) (by conv => lhs; simp [go_sem])
  have y124 : A.eval (.tmp 124) = _ := Eq.trans (hf 124) (by conv => lhs; simp [go_sem])
  have y125 : A.eval (.tmp 125) = _ := Eq.trans (hf 125) (by conv => lhs; simp [go_sem])
  have y126 : A.eval (.tmp 126) = _ := Eq.trans (hf 126) (by conv => lhs; simp [go_sem])
  have y127 : A.eval (.tmp 127) = _ := Eq.trans (hf 127) (by conv => lhs; simp [go_sem])
  have y128 : A.eval (.tmp 128) = _ := Eq.trans (hf 128) (by conv => lhs; simp [go_sem])
  have y129 : A.eval (.tmp 129) = _ := Eq.trans (hf 129) (by conv => lhs; simp [go_sem])
  have y130 : A.eval (.tmp 130) = _ := Eq.trans (hf 130) (by conv => lhs; simp [go_sem])
  have y131 : A.eval (.tmp 131) = _ := Eq.trans (hf 131) (by conv => lhs; simp [go_sem])
  have y132 : A.eval (.tmp 132) = _ := Eq.trans (hf 132) (by conv => lhs; simp [go_sem])
  have y133 : A.eval (.tmp 133) = _ := Eq.trans (hf 133) (by conv => lhs; simp [go_sem])
  have y134 : A.eval (.tmp 134) = _ := Eq.trans (hf 134) (by conv => lhs; simp [go_sem])
  have y135 : A.eval (.tmp 135) = _ := Eq.trans (hf 135) (by conv => lhs; simp [go_sem])
  clear hf
  have hA := frame_eq hn
  rw [show List.range 136 = [0, 1, 2, 3, 4, 5, 6, 7, 8, 9, 10, 11, 12, 13, 14, 15, 16, 17, 18, 19, 20, 21, 22, 23, 24, 25, 26, 27, 28, 29, 30, 31, 32, 33, 34, 35, 36, 37, 38, 39, 40, 41, 42, 43, 44, 45, 46, 47, 48, 49, 50, 51, 52, 53, 54, 55, 56, 57, 58, 59, 60, 61, 62, 63, 64, 65, 66, 67, 68, 69, 70, 71, 72, 73, 74, 75, 76, 77, 78, 79, 80, 81, 82, 83, 84, 85, 86, 87, 88, 89, 90, 91, 92, 93, 94, 95, 96, 97, 98, 99, 100, 101, 102, 103, 104, 105, 106, 107, 108, 109, 110, 111, 112, 113, 114, 115, 116, 117, 118, 119, 120, 121, 122, 123, 124, 125, 126, 127, 128, 129, 130, 131, 132, 133, 134, 135] from rfl, hd] at hA
  simp only [List.map_cons, List.map_nil, y0, y1, y2, y3, y4, y5, y6, y7, y8, y9, y10, y11, y12, y13, y14, y15, y16, y17, y18, y19, y20, y21, y22, y23, y24, y25, y26, y27, y28, y29, y30, y31, y32, y33, y34, y35, y36, y37, y38, y39, y40, y41, y42, y43, y44, y45, y46, y47, y48, y49, y50, y51, y52, y53, y54, y55, y56, y57, y58, y59, y60, y61, y62, y63, y64, y65, y66, y67, y68, y69, y70, y71, y72, y73, y74, y75, y76, y77, y78, y79, y80, y81, y82, y83, y84, y85, y86, y87, y88, y89, y90, y91, y92, y93, y94, y95, y96, y97, y98, y99, y100, y101, y102, y103, y104, y105, y106, y107, y108, y109, y110, y111, y112, y113, y114, y115, y116, y117, y118, y119, y120, y121, y122, y123, y124, y125, y126, y127, y128, y129, y130, y131, y132, y133, y134, y135] at hA
  clear y0 y1 y2 y3 y4 y5 y6 y7 y8 y9 y10 y11 y12 y13 y14 y15 y16 y17 y18 y19 y20 y21 y22 y23 y24 y25 y26 y27 y28 y29 y30 y31 y32 y33 y34 y35 y36 y37 y38 y39 y40 y41 y42 y43 y44 y45 y46 y47 y48 y49 y50 y51 y52 y53 y54 y55 y56 y57 y58 y59 y60 y61 y62 y63 y64 y65 y66 y67 y68 y69 y70 y71 y72 y73 y74 y75 y76 y77 y78 y79 y80 y81 y82 y83 y84 y85 y86 y87 y88 y89 y90 y91 y92 y93 y94 y95 y96 y97 y98 y99 y100 y101 y102 y103 y104 y105 y106 y107 y108 y109 y110 y111 y112 y113 y114 y115 y116 y117 y118 y119 y120 y121 y122 y123 y124 y125 y126 y127 y128 y129 y130 y131 y132 y133 y134 y135
  clear hn hd
  subst hA
  clear kc hcv1 hcv2 cC cD
  replace EX := Lib.hid (EX.out.below hC)
  replace OX := Lib.hid (OX.out.below hC)
  replace E1 := Lib.hid (E1.out.below hC)
  replace O1 := Lib.hid (O1.out.below hC)
  replace E6 := Lib.hid (E6.out.below hC)
  replace O6 := Lib.hid (O6.out.below hC)
  replace E7 := Lib.hid (E7.out.below hC)
  replace O7 := Lib.hid (O7.out.below hC)
  replace E8 := Lib.hid (E8.out.below hC)
  replace O8 := Lib.hid (O8.out.below hC)
  replace E9 := Lib.hid (E9.out.below hC)
  replace O9 := Lib.hid (O9.out.below hC)
  replace R2 := Lib.hid (Bs_below R2.out hC)
  replace R3 := Lib.hid (Bs_below R3.out hC)
  replace HB := Lib.hid (HB.out.trans (hC.mono HB.out.size))
  clear hC
  obtain ⟨q00, q01⟩ := OX.out.1
  obtain ⟨q10, q11⟩ := O1.out.1
  obtain ⟨q20, q21⟩ := O6.out.1
  obtain ⟨q30, q31⟩ := O7.out.1
  obtain ⟨q40, q41⟩ := O8.out.1
  obtain ⟨q50, q51⟩ := O9.out.1
  go_wp2_with fail
  refine (awake6 _).mono ?_
  rintro e V11 ⟨rfl, hb⟩
  clear q00 q01 q10 q11 q20 q21 q30 q31 q40 q41 q50 q51
  replace EX := Lib.hid (EX.out.below hb)
  replace OX := Lib.hid (OX.out.below hb)
  replace E1 := Lib.hid (E1.out.below hb)
  replace O1 := Lib.hid (O1.out.below hb)
  replace E6 := Lib.hid (E6.out.below hb)
  replace O6 := Lib.hid (O6.out.below hb)
  replace E7 := Lib.hid (E7.out.below hb)
  replace O7 := Lib.hid (O7.out.below hb)
  replace E8 := Lib.hid (E8.out.below hb)
  replace O8 := Lib.hid (O8.out.below hb)
  replace E9 := Lib.hid (E9.out.below hb)
  replace O9 := Lib.hid (O9.out.below hb)
  replace R2 := Lib.hid (Bs_below R2.out hb)
  replace R3 := Lib.hid (Bs_below R3.out hb)
  replace HB := Lib.hid (HB.out.trans (hb.mono HB.out.size))
  clear hb
  obtain ⟨q00, q01⟩ := OX.out.1
  obtain ⟨q10, q11⟩ := O1.out.1
  obtain ⟨q20, q21⟩ := O6.out.1
  obtain ⟨q30, q31⟩ := O7.out.1
  obtain ⟨q40, q41⟩ := O8.out.1
  obtain ⟨q50, q51⟩ := O9.out.1
  go_wp2_with fail
  refine (rsame_true m1 _ _ l1 _ E6.out.1 E7.out.1 hl1).mono ?_
  rintro e V12 ⟨rfl, hb⟩
  clear q00 q01 q10 q11 q20 q21 q30 q31 q40 q41 q50 q51
  replace EX := Lib.hid (EX.out.below hb)
  replace OX := Lib.hid (OX.out.below hb)
  replace E1 := Lib.hid (E1.out.below hb)
  replace O1 := Lib.hid (O1.out.below hb)
  replace E6 := Lib.hid (E6.out.below hb)
  replace O6 := Lib.hid (O6.out.below hb)
  replace E7 := Lib.hid (E7.out.below hb)
  replace O7 := Lib.hid (O7.out.below hb)
  replace E8 := Lib.hid (E8.out.below hb)
  replace O8 := Lib.hid (O8.out.below hb)
  replace E9 := Lib.hid (E9.out.below hb)
  replace O9 := Lib.hid (O9.out.below hb)
  replace R2 := Lib.hid (Bs_below R2.out hb)
  replace R3 := Lib.hid (Bs_below R3.out hb)
  replace HB := Lib.hid (HB.out.trans (hb.mono HB.out.size))
  clear hb
  obtain ⟨q00, q01⟩ := OX.out.1
  obtain ⟨q10, q11⟩ := O1.out.1
  obtain ⟨q20, q21⟩ := O6.out.1
  obtain ⟨q30, q31⟩ := O7.out.1
  obtain ⟨q40, q41⟩ := O8.out.1
  obtain ⟨q50, q51⟩ := O9.out.1
  go_wp2_with fail
  refine (rsame_true m2 _ _ l2 _ E8.out.1 E9.out.1 hl2).mono ?_
  rintro e V13 ⟨rfl, hb⟩
  clear q00 q01 q10 q11 q20 q21 q30 q31 q40 q41 q50 q51
  replace EX := Lib.hid (EX.out.below hb)
  replace OX := Lib.hid (OX.out.below hb)
  replace E1 := Lib.hid (E1.out.below hb)
  replace O1 := Lib.hid (O1.out.below hb)
  replace E6 := Lib.hid (E6.out.below hb)
  replace O6 := Lib.hid (O6.out.below hb)
  replace E7 := Lib.hid (E7.out.below hb)
  replace O7 := Lib.hid (O7.out.below hb)
  replace E8 := Lib.hid (E8.out.below hb)
  replace O8 := Lib.hid (O8.out.below hb)
  replace E9 := Lib.hid (E9.out.below hb)
  replace O9 := Lib.hid (O9.out.below hb)
  replace R2 := Lib.hid (Bs_below R2.out hb)
  replace R3 := Lib.hid (Bs_below R3.out hb)
  replace HB := Lib.hid (HB.out.trans (hb.mono HB.out.size))
  clear hb
  obtain ⟨q00, q01⟩ := OX.out.1
  obtain ⟨q10, q11⟩ := O1.out.1
  obtain ⟨q20, q21⟩ := O6.out.1
  obtain ⟨q30, q31⟩ := O7.out.1
  obtain ⟨q40, q41⟩ := O8.out.1
  obtain ⟨q50, q51⟩ := O9.out.1
  go_wp2_with fail
  refine (rsame_true b0 _ _ z0 _ E1.out.1 EX.out.1 (by omega)).mono ?_
  rintro e V14 ⟨rfl, hb⟩
  clear q00 q01 q10 q11 q20 q21 q30 q31 q40 q41 q50 q51
  replace EX := Lib.hid (EX.out.below hb)
  replace OX := Lib.hid (OX.out.below hb)
  replace E1 := Lib.hid (E1.out.below hb)
  replace O1 := Lib.hid (O1.out.below hb)
  replace E6 := Lib.hid (E6.out.below hb)
  replace O6 := Lib.hid (O6.out.below hb)
  replace E7 := Lib.hid (E7.out.below hb)
  replace O7 := Lib.hid (O7.out.below hb)
  replace E8 := Lib.hid (E8.out.below hb)
  replace O8 := Lib.hid (O8.out.below hb)
  replace E9 := Lib.hid (E9.out.below hb)
  replace O9 := Lib.hid (O9.out.below hb)
  replace R2 := Lib.hid (Bs_below R2.out hb)
  replace R3 := Lib.hid (Bs_below R3.out hb)
  replace HB := Lib.hid (HB.out.trans (hb.mono HB.out.size))
  clear hb
  go_wp2_with fail
  go_ret
  exact ⟨rfl, HB.out⟩

theorem walk (b0 : Int) (a0 : Option Addr) (cap0 : Nat) (z0 : List (Int × Int)) (a1 : Int) (w1 : I64 a1) (a2 : Int) (w2 : I64 a2) (w : World) (w0 : El w (.slice a0 z0.length cap0) z0) :
    Calls Try.prog 3 #[.agg #[.int .i64 b0, .slice a0 z0.length cap0], .int .i64 a1, .int .i64 a2] w fun e w' => e = .returned (.bool true) ∧ Below w.heap.size w w' := by
  by_cases h : (100 : Int) < (z0.length : Int)
  · exact early b0 a0 cap0 z0 a1 a2 w h
  have hl : z0.length ≤ 100 := by omega
  have l1 := wL_len b0 z0 a1 a2
  have l2 := oL_len b0 z0 a1
  by_cases hq : BeOk b0 z0
  · exact case_ok b0 a0 cap0 z0 a1 a2 w w0 h (byL b0 z0) (byK b0 z0) ((hear z0 a1).getD 0) (wM b0 z0 a1 a2) (wK b0 z0 a1 a2) (oM b0 z0 a1) (oK b0 z0 a1) (hear z0 a1).isSome (wL b0 z0 a1 a2) (oL b0 z0 a1) (by omega) (by omega)
      (fun W v h => own_fix b0 v z0 W h (by omega)) (fun W v h => bytes_fix b0 v z0 W h (by omega)) (fun W v h => rbytes_fix b0 v z0 W h (by omega)) (fun W v h => heard_any b0 v z0 a1 W h (by omega)) (fun W v h => rheard_any b0 v z0 a1 W h (by omega))
      (fun W v h => with_fix b0 v z0 a1 a2 W h (by omega)) (fun W v h => rwith_fix b0 v z0 a1 a2 W h (by omega)) (fun W v h => without_fix b0 v z0 a1 W h (by omega)) (fun W v h => rwithout_fix b0 v z0 a1 W h (by omega))
      (fun W v h => by have := check_fix b0 v z0 true ⟨fun _ => hq, fun _ => rfl⟩ W h (by omega); simpa using this) (fun W v h => rbright_fix b0 v z0 true ⟨fun _ => hq, fun _ => rfl⟩ W h (by omega))
  · exact case_no b0 a0 cap0 z0 a1 a2 w w0 h (byL b0 z0) (byK b0 z0) ((hear z0 a1).getD 0) (wM b0 z0 a1 a2) (wK b0 z0 a1 a2) (oM b0 z0 a1) (oK b0 z0 a1) (hear z0 a1).isSome (wL b0 z0 a1 a2) (oL b0 z0 a1) (by omega) (by omega)
      (fun W v h => own_fix b0 v z0 W h (by omega)) (fun W v h => bytes_fix b0 v z0 W h (by omega)) (fun W v h => rbytes_fix b0 v z0 W h (by omega)) (fun W v h => heard_any b0 v z0 a1 W h (by omega)) (fun W v h => rheard_any b0 v z0 a1 W h (by omega))
      (fun W v h => with_fix b0 v z0 a1 a2 W h (by omega)) (fun W v h => rwith_fix b0 v z0 a1 a2 W h (by omega)) (fun W v h => without_fix b0 v z0 a1 W h (by omega)) (fun W v h => rwithout_fix b0 v z0 a1 W h (by omega))
      (fun W v h => by have := check_fix b0 v z0 false ⟨fun h => (by cases h), fun h => absurd h hq⟩ W h (by omega); simpa using this) (fun W v h => rbright_fix b0 v z0 false ⟨fun h => (by cases h), fun h => absurd h hq⟩ W h (by omega))

set_option maxRecDepth 100000 in
theorem lifted (os : _root_.Go.Os) (started : os.Started) (H : Type) (enc : TypeId × Value → H) :
    ReturnsInHanded {} Try.checked os 3 .any (Rows.beaconDoesSpec.pre6 enc Try.prog Try.f3 Rows.beaconDoesRow.domain false) (Rows.beaconDoesSpec.post enc Try.prog Try.f3 false true false false) := by
  refine returnsInHanded_of_change (C := Try.checked) own started (by kernel_rfl) Try.func3
    (ChangeSpec.witness6 (enc := enc) (C := Try.checked) false ⟨#[], #[.agg #[.int .i64 0, .slice none 0 0], .int .i64 0, .int .i64 0], []⟩ 16 (by kernel_rfl) (by kernel_rfl) (by kernel_rfl) (by kernel_rfl)) ?_
  intro W base args ds gs before hval0 hW hcnd _
  have hval : ∀ (j : Nat) t v, Try.f3.params[j]? = some t → args[j]? = some v → Value.okWide Try.prog W .any base t v := hval0
  have hW' := hW
  obtain ⟨p, q, hA0, hV, rfl, hfz, hnd⟩ := hW
  have hA : DataW.TrodAll enc Try.prog W 0 (fun _ => true) true Try.f3.params.toList args.toList ds p := hA0
  rw [Try.params3] at hA hval
  obtain ⟨v0, vs0, e0, ds0, p0, q0, hargs, rfl, rfl, h0, x0⟩ := trodAll_cons hA
  obtain ⟨v1, vs1, e1, ds1, p1, q1, rfl, rfl, rfl, h1, x1⟩ := trodAll_cons x0
  obtain ⟨v2, vs2, e2, ds2, p2, q2, rfl, rfl, rfl, h2, x2⟩ := trodAll_cons x1
  obtain ⟨rfl, rfl, rfl⟩ := trodAll_nil x2
  obtain rfl : args = #[v0, v1, v2] := by cases args; simp_all
  obtain ⟨rfl, rfl⟩ := trodVars_none hV
  have k0 := h0
  have lt0 : ∀ x ∈ p0, x.block < W.heap.size := by obtain ⟨m, hm⟩ := k0; exact DataW.trod_lt m _ _ _ hm
  obtain ⟨b0, a0, cap0, z0, rfl, _, w0⟩ := bel_form (hval 0 24 _ rfl rfl) h0
  have k1 := h1
  have lt1 : ∀ x ∈ p1, x.block < W.heap.size := by obtain ⟨m, hm⟩ := k1; exact DataW.trod_lt m _ _ _ hm
  obtain ⟨a1, rfl, _, _, w1⟩ := open_int Try.underlying3 (hval 1 3 v1 rfl rfl) h1
  have k2 := h2
  have lt2 : ∀ x ∈ p2, x.block < W.heap.size := by obtain ⟨m, hm⟩ := k2; exact DataW.trod_lt m _ _ _ hm
  obtain ⟨a2, rfl, _, _, w2⟩ := open_int Try.underlying3 (hval 2 3 v2 rfl rfl) h2
  clear hA0 hval0
  refine (walk b0 a0 cap0 z0 a1 (i64_wf w1) a2 (i64_wf w2) W w0).mono fun e W' ⟨he, bel⟩ => ?_
  subst he
  exact ⟨_, rfl, _, _, _, [], _, [], hW', trodAll_mk1 (shut_bool Try.underlying4 _), (trodAll_cons_mk (Below.trod laidOut (by kernel_rfl) (of_decide_eq_true (by kernel_rfl)) k0 bel lt0) (trodAll_cons_mk (Below.trod laidOut (by kernel_rfl) (of_decide_eq_true (by kernel_rfl)) k1 bel lt1) (trodAll_cons_mk (Below.trod laidOut (by kernel_rfl) (of_decide_eq_true (by kernel_rfl)) k2 bel lt2) trodAll_mk0))), rfl, bel.frame _, fun h => by cases h⟩

theorem over : Rows.beaconDoesRow.holds Try.pinned (OpenSpec.ofChange Rows.beaconDoesSpec) :=
  OpenClaim.holds_of_wide 3 Try.f3 rfl rfl rfl rfl rfl rfl rfl ⟨rfl, rfl, rfl, rfl, rfl⟩ rfl rfl rfl rfl rfl (by kernel_rfl) Try.func3 (by kernel_rfl)
    (of_decide_eq_true (by kernel_rfl)) (by unfold Func.isWrapper; first | (rw [if_pos (by decide +kernel)]; kernel_rfl) | (rw [if_neg (by decide +kernel)]; exact ⟨rfl, rfl⟩))
    (fun os started H enc _ => lifted os started H enc)

theorem proved : Rows.BeaconDoesSaid := over
#print axioms proved
end Go.Proofs.Ytaflgabjpcfgpaa.beaconDoes
