/- thalweglaw06.BeaconOrder: for any beacon, two nodes, two epochs the law answers true; no condition. -/
import Derived.Test.YtaflgabjpcfgpaaLfx
import Derived.WalkLawsBesides
import Derived.WalkKit
import Derived.ProofKit
import Derived.OpenShut
import Derived.ShutString
import Derived.ChangeOld
import Derived.Below
namespace Go.Proofs.Ytaflgabjpcfgpaa.beaconOrder
open Go.ChangeShapes Go.WideShapes Go.ChangeAt Go.RowKit
open Go.ChangeMaps (open_string shut_string)
set_option linter.unusedVariables false
set_option maxRecDepth 100000

theorem own : ownKnob Try.prog.godebug = none := by kernel_rfl
theorem laidOut : laidOutB Try.prog = true := by kernel_rfl

theorem early1 (b0 : Int) (a0 : Option Addr) (cap0 : Nat) (z0 : List (Int × Int)) (a1 a2 a3 a4 : Int) (w : World) (h : (80 : Int) < (z0.length : Int)) :
    Calls Try.prog 7 #[.agg #[.int .i64 b0, .slice a0 z0.length cap0], .int .i64 a1, .int .i64 a2, .int .i64 a3, .int .i64 a4] w fun e w' => e = .returned (.bool true) ∧ Below w.heap.size w w' := by
  have HB : Hid (Below w.heap.size w (w.alloc (.cells #[.int .i64 b0, .slice a0 z0.length cap0] 24))) := (Below.refl _ w).alloc (Nat.le_refl _) _
  go_enter Try.func7, Try.ntmps7
  go_wp2_with fail
  refine (awake6 _).mono ?_
  rintro e w1 ⟨rfl, hb⟩
  have HB2 := Lib.hid (HB.out.trans (hb.mono HB.out.size))
  clear hb
  go_wp2_with fail
  go_ret
  exact ⟨rfl, HB2.out⟩
theorem early2 (b0 : Int) (a0 : Option Addr) (cap0 : Nat) (z0 : List (Int × Int)) (a1 a3 a4 : Int) (w : World) (h : ¬ (80 : Int) < (z0.length : Int)) :
    Calls Try.prog 7 #[.agg #[.int .i64 b0, .slice a0 z0.length cap0], .int .i64 a1, .int .i64 a1, .int .i64 a3, .int .i64 a4] w fun e w' => e = .returned (.bool true) ∧ Below w.heap.size w w' := by
  have HB : Hid (Below w.heap.size w (w.alloc (.cells #[.int .i64 b0, .slice a0 z0.length cap0] 24))) := (Below.refl _ w).alloc (Nat.le_refl _) _
  have hq : (a1 == a1) = true := by simp
  go_enter Try.func7, Try.ntmps7
  go_wp2_with fail
  refine (awake6 _).mono ?_
  rintro e w1 ⟨rfl, hb⟩
  have HB2 := Lib.hid (HB.out.trans (hb.mono HB.out.size))
  clear hb
  go_wp2_with fail
  go_ret
  exact ⟨rfl, HB2.out⟩

set_option maxHeartbeats 16000000 in
theorem case_ok (b0 : Int) (a0 : Option Addr) (cap0 : Nat) (z0 : List (Int × Int)) (a1 a2 a3 a4 : Int) (w : World) (w0 : El w (.slice a0 z0.length cap0) z0) (h : ¬ (80 : Int) < (z0.length : Int)) (hab : a1 ≠ a2) (Y Z V : List (Int × Int)) (hZ : Z.length ≤ 3000) (c1 : ∀ W v, El W v z0 → Calls Try.prog 13 #[.agg #[.int .i64 b0, v], .int .i64 a1, .int .i64 a3] W (RetE W b0 Y 0)) (c2 : ∀ W v, El W v Y → Calls Try.prog 13 #[.agg #[.int .i64 b0, v], .int .i64 a2, .int .i64 a4] W (RetE W b0 Z 0)) (c3 : ∀ W v, El W v z0 → Calls Try.prog 13 #[.agg #[.int .i64 b0, v], .int .i64 a2, .int .i64 a4] W (RetE W b0 V 0)) (c4 : ∀ W v, El W v V → Calls Try.prog 13 #[.agg #[.int .i64 b0, v], .int .i64 a1, .int .i64 a3] W (RetE W b0 Z 0)) (c5 : ∀ W v, El W v Z → Calls Try.prog 13 #[.agg #[.int .i64 b0, v], .int .i64 a1, .int .i64 a3] W (RetE W b0 Z 0)) :
    Calls Try.prog 7 #[.agg #[.int .i64 b0, .slice a0 z0.length cap0], .int .i64 a1, .int .i64 a2, .int .i64 a3, .int .i64 a4] w fun e w' => e = .returned (.bool true) ∧ Below w.heap.size w w' := by
  have hq : (a1 == a2) = false := by simpa using hab
  have EX := Lib.hid (w0.alloc (.cells #[.int .i64 b0, .slice a0 z0.length cap0] 24))
  have OX := Lib.hid (ownb2_alloc w b0 (.slice a0 z0.length cap0) 24 w.heap.size rfl)
  have HB : Hid (Below w.heap.size w (w.alloc (.cells #[.int .i64 b0, .slice a0 z0.length cap0] 24))) := (Below.refl _ w).alloc (Nat.le_refl _) _
  clear hab w0
  go_enter Try.func7, Try.ntmps7
  go_wp2_with fail
  generalize w.alloc (.cells #[.int .i64 b0, .slice a0 z0.length cap0] 24) = U0 at *
  refine (c1 _ _ EX.out).mono ?_
  rintro e V1 ⟨y1, t1, rfl, ho, hb⟩
  replace EX := Lib.hid (EX.out.below hb)
  replace OX := Lib.hid (OX.out.below hb)
  replace HB := Lib.hid (HB.out.trans (hb.mono HB.out.size))
  have E1 := Lib.hid ho.el
  clear ho hb
  have hal : Below V1.heap.size V1 (V1.alloc (.cells #[.int .i64 b0, .slice y1 Y.length t1] 24)) := (Below.refl _ V1).alloc (Nat.le_refl _) _
  have O1 := Lib.hid (ownb2_alloc V1 b0 (.slice y1 Y.length t1) 24 V1.heap.size rfl)
  replace EX := Lib.hid (EX.out.below hal)
  replace OX := Lib.hid (OX.out.below hal)
  replace E1 := Lib.hid (E1.out.below hal)
  replace HB := Lib.hid (HB.out.trans (hal.mono HB.out.size))
  clear hal
  obtain ⟨X1, hX⟩ : ∃ X1, V1.heap.size = X1 := ⟨_, rfl⟩
  rw [hX] at O1
  obtain ⟨q00, q01⟩ := OX.out.1
  obtain ⟨q10, q11⟩ := O1.out.1
  go_wp2_with fail
  clear hX
  generalize V1.alloc (.cells #[.int .i64 b0, .slice y1 Y.length t1] 24) = U1 at *
  refine (c2 _ _ E1.out).mono ?_
  rintro e V2 ⟨y2, t2, rfl, ho, hb⟩
  clear q00 q01 q10 q11
  replace EX := Lib.hid (EX.out.below hb)
  replace OX := Lib.hid (OX.out.below hb)
  replace E1 := Lib.hid (E1.out.below hb)
  replace O1 := Lib.hid (O1.out.below hb)
  replace HB := Lib.hid (HB.out.trans (hb.mono HB.out.size))
  have E2 := Lib.hid ho.el
  clear ho hb
  have hal : Below V2.heap.size V2 (V2.alloc (.cells #[.int .i64 b0, .slice y2 Z.length t2] 24)) := (Below.refl _ V2).alloc (Nat.le_refl _) _
  have O2 := Lib.hid (ownb2_alloc V2 b0 (.slice y2 Z.length t2) 24 V2.heap.size rfl)
  replace EX := Lib.hid (EX.out.below hal)
  replace OX := Lib.hid (OX.out.below hal)
  replace E1 := Lib.hid (E1.out.below hal)
  replace O1 := Lib.hid (O1.out.below hal)
  replace E2 := Lib.hid (E2.out.below hal)
  replace HB := Lib.hid (HB.out.trans (hal.mono HB.out.size))
  clear hal
  obtain ⟨X2, hX⟩ : ∃ X2, V2.heap.size = X2 := ⟨_, rfl⟩
  rw [hX] at O2
  obtain ⟨q00, q01⟩ := OX.out.1
  obtain ⟨q10, q11⟩ := O1.out.1
  obtain ⟨q20, q21⟩ := O2.out.1
  go_wp2_with fail
  clear hX
  generalize V2.alloc (.cells #[.int .i64 b0, .slice y2 Z.length t2] 24) = U2 at *
  refine (c3 _ _ EX.out).mono ?_
  rintro e V3 ⟨y3, t3, rfl, ho, hb⟩
  clear q00 q01 q10 q11 q20 q21
  replace EX := Lib.hid (EX.out.below hb)
  replace OX := Lib.hid (OX.out.below hb)
  replace E1 := Lib.hid (E1.out.below hb)
  replace O1 := Lib.hid (O1.out.below hb)
  replace E2 := Lib.hid (E2.out.below hb)
  replace O2 := Lib.hid (O2.out.below hb)
  replace HB := Lib.hid (HB.out.trans (hb.mono HB.out.size))
  have E3 := Lib.hid ho.el
  clear ho hb
  have hal : Below V3.heap.size V3 (V3.alloc (.cells #[.int .i64 b0, .slice y3 V.length t3] 24)) := (Below.refl _ V3).alloc (Nat.le_refl _) _
  have O3 := Lib.hid (ownb2_alloc V3 b0 (.slice y3 V.length t3) 24 V3.heap.size rfl)
  replace EX := Lib.hid (EX.out.below hal)
  replace OX := Lib.hid (OX.out.below hal)
  replace E1 := Lib.hid (E1.out.below hal)
  replace O1 := Lib.hid (O1.out.below hal)
  replace E2 := Lib.hid (E2.out.below hal)
  replace O2 := Lib.hid (O2.out.below hal)
  replace E3 := Lib.hid (E3.out.below hal)
  replace HB := Lib.hid (HB.out.trans (hal.mono HB.out.size))
  clear hal
  obtain ⟨X3, hX⟩ : ∃ X3, V3.heap.size = X3 := ⟨_, rfl⟩
  rw [hX] at O3
  obtain ⟨q00, q01⟩ := OX.out.1
  obtain ⟨q10, q11⟩ := O1.out.1
  obtain ⟨q20, q21⟩ := O2.out.1
  obtain ⟨q30, q31⟩ := O3.out.1
  go_wp2_with fail
  clear hX
  generalize V3.alloc (.cells #[.int .i64 b0, .slice y3 V.length t3] 24) = U3 at *
  refine (c4 _ _ E3.out).mono ?_
  rintro e V4 ⟨y4, t4, rfl, ho, hb⟩
  clear q00 q01 q10 q11 q20 q21 q30 q31
  replace EX := Lib.hid (EX.out.below hb)
  replace OX := Lib.hid (OX.out.below hb)
  replace E1 := Lib.hid (E1.out.below hb)
  replace O1 := Lib.hid (O1.out.below hb)
  replace E2 := Lib.hid (E2.out.below hb)
  replace O2 := Lib.hid (O2.out.below hb)
  replace E3 := Lib.hid (E3.out.below hb)
  replace O3 := Lib.hid (O3.out.below hb)
  replace HB := Lib.hid (HB.out.trans (hb.mono HB.out.size))
  have E4 := Lib.hid ho.el
  clear ho hb
  have hal : Below V4.heap.size V4 (V4.alloc (.cells #[.int .i64 b0, .slice y4 Z.length t4] 24)) := (Below.refl _ V4).alloc (Nat.le_refl _) _
  have O4 := Lib.hid (ownb2_alloc V4 b0 (.slice y4 Z.length t4) 24 V4.heap.size rfl)
  replace EX := Lib.hid (EX.out.below hal)
  replace OX := Lib.hid (OX.out.below hal)
  replace E1 := Lib.hid (E1.out.below hal)
  replace O1 := Lib.hid (O1.out.below hal)
  replace E2 := Lib.hid (E2.out.below hal)
  replace O2 := Lib.hid (O2.out.below hal)
  replace E3 := Lib.hid (E3.out.below hal)
  replace O3 := Lib.hid (O3.out.below hal)
  replace E4 := Lib.hid (E4.out.below hal)
  replace HB := Lib.hid (HB.out.trans (hal.mono HB.out.size))
  clear hal
  obtain ⟨X4, hX⟩ : ∃ X4, V4.heap.size = X4 := ⟨_, rfl⟩
  rw [hX] at O4
  obtain ⟨q00, q01⟩ := OX.out.1
  obtain ⟨q10, q11⟩ := O1.out.1
  obtain ⟨q20, q21⟩ := O2.out.1
  obtain ⟨q30, q31⟩ := O3.out.1
  obtain ⟨q40, q41⟩ := O4.out.1
  go_wp2_with fail
  clear hX
  generalize V4.alloc (.cells #[.int .i64 b0, .slice y4 Z.length t4] 24) = U4 at *
  refine (c5 _ _ E2.out).mono ?_
  rintro e V5 ⟨y5, t5, rfl, ho, hb⟩
  clear q00 q01 q10 q11 q20 q21 q30 q31 q40 q41
  replace EX := Lib.hid (EX.out.below hb)
  replace OX := Lib.hid (OX.out.below hb)
  replace E1 := Lib.hid (E1.out.below hb)
  replace O1 := Lib.hid (O1.out.below hb)
  replace E2 := Lib.hid (E2.out.below hb)
  replace O2 := Lib.hid (O2.out.below hb)
  replace E3 := Lib.hid (E3.out.below hb)
  replace O3 := Lib.hid (O3.out.below hb)
  replace E4 := Lib.hid (E4.out.below hb)
  replace O4 := Lib.hid (O4.out.below hb)
  replace HB := Lib.hid (HB.out.trans (hb.mono HB.out.size))
  have E5 := Lib.hid ho.el
  clear ho hb
  have hal : Below V5.heap.size V5 (V5.alloc (.cells #[.int .i64 b0, .slice y5 Z.length t5] 24)) := (Below.refl _ V5).alloc (Nat.le_refl _) _
  have O5 := Lib.hid (ownb2_alloc V5 b0 (.slice y5 Z.length t5) 24 V5.heap.size rfl)
  replace EX := Lib.hid (EX.out.below hal)
  replace OX := Lib.hid (OX.out.below hal)
  replace E1 := Lib.hid (E1.out.below hal)
  replace O1 := Lib.hid (O1.out.below hal)
  replace E2 := Lib.hid (E2.out.below hal)
  replace O2 := Lib.hid (O2.out.below hal)
  replace E3 := Lib.hid (E3.out.below hal)
  replace O3 := Lib.hid (O3.out.below hal)
  replace E4 := Lib.hid (E4.out.below hal)
  replace O4 := Lib.hid (O4.out.below hal)
  replace E5 := Lib.hid (E5.out.below hal)
  replace HB := Lib.hid (HB.out.trans (hal.mono HB.out.size))
  clear hal
  obtain ⟨X5, hX⟩ : ∃ X5, V5.heap.size = X5 := ⟨_, rfl⟩
  rw [hX] at O5
  obtain ⟨q00, q01⟩ := OX.out.1
  obtain ⟨q10, q11⟩ := O1.out.1
  obtain ⟨q20, q21⟩ := O2.out.1
  obtain ⟨q30, q31⟩ := O3.out.1
  obtain ⟨q40, q41⟩ := O4.out.1
  obtain ⟨q50, q51⟩ := O5.out.1
  go_wp2_with fail
  clear hX
  generalize V5.alloc (.cells #[.int .i64 b0, .slice y5 Z.length t5] 24) = U5 at *
  refine (awake6 _).mono ?_
  rintro e V6 ⟨rfl, hb⟩
  clear q00 q01 q10 q11 q20 q21 q30 q31 q40 q41 q50 q51
  replace EX := Lib.hid (EX.out.below hb)
  replace OX := Lib.hid (OX.out.below hb)
  replace E1 := Lib.hid (E1.out.below hb)
  replace O1 := Lib.hid (O1.out.below hb)
  replace E2 := Lib.hid (E2.out.below hb)
  replace O2 := Lib.hid (O2.out.below hb)
  replace E3 := Lib.hid (E3.out.below hb)
  replace O3 := Lib.hid (O3.out.below hb)
  replace E4 := Lib.hid (E4.out.below hb)
  replace O4 := Lib.hid (O4.out.below hb)
  replace E5 := Lib.hid (E5.out.below hb)
  replace O5 := Lib.hid (O5.out.below hb)
  replace HB := Lib.hid (HB.out.trans (hb.mono HB.out.size))
  clear hb
  obtain ⟨q00, q01⟩ := OX.out.1
  obtain ⟨q10, q11⟩ := O1.out.1
  obtain ⟨q20, q21⟩ := O2.out.1
  obtain ⟨q30, q31⟩ := O3.out.1
  obtain ⟨q40, q41⟩ := O4.out.1
  obtain ⟨q50, q51⟩ := O5.out.1
  go_wp2_with fail
  refine (rsame_true b0 _ _ Z _ E2.out.1 E4.out.1 hZ).mono ?_
  rintro e V7 ⟨rfl, hb⟩
  clear q00 q01 q10 q11 q20 q21 q30 q31 q40 q41 q50 q51
  replace EX := Lib.hid (EX.out.below hb)
  replace OX := Lib.hid (OX.out.below hb)
  replace E1 := Lib.hid (E1.out.below hb)
  replace O1 := Lib.hid (O1.out.below hb)
  replace E2 := Lib.hid (E2.out.below hb)
  replace O2 := Lib.hid (O2.out.below hb)
  replace E3 := Lib.hid (E3.out.below hb)
  replace O3 := Lib.hid (O3.out.below hb)
  replace E4 := Lib.hid (E4.out.below hb)
  replace O4 := Lib.hid (O4.out.below hb)
  replace E5 := Lib.hid (E5.out.below hb)
  replace O5 := Lib.hid (O5.out.below hb)
  replace HB := Lib.hid (HB.out.trans (hb.mono HB.out.size))
  clear hb
  obtain ⟨q00, q01⟩ := OX.out.1
  obtain ⟨q10, q11⟩ := O1.out.1
  obtain ⟨q20, q21⟩ := O2.out.1
  obtain ⟨q30, q31⟩ := O3.out.1
  obtain ⟨q40, q41⟩ := O4.out.1
  obtain ⟨q50, q51⟩ := O5.out.1
  go_wp2_with fail
  refine (rsame_true b0 _ _ Z _ E5.out.1 E2.out.1 hZ).mono ?_
  rintro e V8 ⟨rfl, hb⟩
  clear q00 q01 q10 q11 q20 q21 q30 q31 q40 q41 q50 q51
  replace EX := Lib.hid (EX.out.below hb)
  replace OX := Lib.hid (OX.out.below hb)
  replace E1 := Lib.hid (E1.out.below hb)
  replace O1 := Lib.hid (O1.out.below hb)
  replace E2 := Lib.hid (E2.out.below hb)
  replace O2 := Lib.hid (O2.out.below hb)
  replace E3 := Lib.hid (E3.out.below hb)
  replace O3 := Lib.hid (O3.out.below hb)
  replace E4 := Lib.hid (E4.out.below hb)
  replace O4 := Lib.hid (O4.out.below hb)
  replace E5 := Lib.hid (E5.out.below hb)
  replace O5 := Lib.hid (O5.out.below hb)
  replace HB := Lib.hid (HB.out.trans (hb.mono HB.out.size))
  clear hb
  go_wp2_with fail
  go_ret
  exact ⟨rfl, HB.out⟩

set_option maxHeartbeats 16000000 in
theorem case_no (b0 : Int) (a0 : Option Addr) (cap0 : Nat) (z0 : List (Int × Int)) (a1 a2 a3 a4 : Int) (w : World) (w0 : El w (.slice a0 z0.length cap0) z0) (h : ¬ (80 : Int) < (z0.length : Int)) (hab : a1 ≠ a2) (m1 m2 m3 m4 k1 k2 k3 k4 : Int) (l1 l2 l3 l4 : List (Int × Int)) (hk : k1 ≠ 0 ∨ k3 ≠ 0) (c1 : ∀ W v, El W v z0 → Calls Try.prog 13 #[.agg #[.int .i64 b0, v], .int .i64 a1, .int .i64 a3] W (RetE W m1 l1 k1)) (c2 : ∀ W v, El W v l1 → Calls Try.prog 13 #[.agg #[.int .i64 m1, v], .int .i64 a2, .int .i64 a4] W (RetE W m2 l2 k2)) (c3 : ∀ W v, El W v z0 → Calls Try.prog 13 #[.agg #[.int .i64 b0, v], .int .i64 a2, .int .i64 a4] W (RetE W m3 l3 k3)) (c4 : ∀ W v, El W v l3 → Calls Try.prog 13 #[.agg #[.int .i64 m3, v], .int .i64 a1, .int .i64 a3] W (RetE W m4 l4 k4)) :
    Calls Try.prog 7 #[.agg #[.int .i64 b0, .slice a0 z0.length cap0], .int .i64 a1, .int .i64 a2, .int .i64 a3, .int .i64 a4] w fun e w' => e = .returned (.bool true) ∧ Below w.heap.size w w' := by
  have hq : (a1 == a2) = false := by simpa using hab
  have EX := Lib.hid (w0.alloc (.cells #[.int .i64 b0, .slice a0 z0.length cap0] 24))
  have OX := Lib.hid (ownb2_alloc w b0 (.slice a0 z0.length cap0) 24 w.heap.size rfl)
  have HB : Hid (Below w.heap.size w (w.alloc (.cells #[.int .i64 b0, .slice a0 z0.length cap0] 24))) := (Below.refl _ w).alloc (Nat.le_refl _) _
  have hk2 : (k1 != 0) = true ∨ ((k1 != 0) = false ∧ (k3 != 0) = true) := by
    by_cases h1 : k1 = 0
    · rcases hk with h | h
      · exact absurd h1 h
      · exact .inr ⟨by simpa using h1, by simpa using h⟩
    · exact .inl (by simpa using h1)
  clear hk
  clear hab w0
  go_enter Try.func7, Try.ntmps7
  go_wp2_with fail
  generalize w.alloc (.cells #[.int .i64 b0, .slice a0 z0.length cap0] 24) = U0 at *
  refine (c1 _ _ EX.out).mono ?_
  rintro e V1 ⟨y1, t1, rfl, ho, hb⟩
  replace EX := Lib.hid (EX.out.below hb)
  replace OX := Lib.hid (OX.out.below hb)
  replace HB := Lib.hid (HB.out.trans (hb.mono HB.out.size))
  have E1 := Lib.hid ho.el
  clear ho hb
  have hal : Below V1.heap.size V1 (V1.alloc (.cells #[.int .i64 m1, .slice y1 l1.length t1] 24)) := (Below.refl _ V1).alloc (Nat.le_refl _) _
  have O1 := Lib.hid (ownb2_alloc V1 m1 (.slice y1 l1.length t1) 24 V1.heap.size rfl)
  replace EX := Lib.hid (EX.out.below hal)
  replace OX := Lib.hid (OX.out.below hal)
  replace E1 := Lib.hid (E1.out.below hal)
  replace HB := Lib.hid (HB.out.trans (hal.mono HB.out.size))
  clear hal
  obtain ⟨X1, hX⟩ : ∃ X1, V1.heap.size = X1 := ⟨_, rfl⟩
  rw [hX] at O1
  obtain ⟨q00, q01⟩ := OX.out.1
  obtain ⟨q10, q11⟩ := O1.out.1
  go_wp2_with fail
  clear hX
  generalize V1.alloc (.cells #[.int .i64 m1, .slice y1 l1.length t1] 24) = U1 at *
  refine (c2 _ _ E1.out).mono ?_
  rintro e V2 ⟨y2, t2, rfl, ho, hb⟩
  clear q00 q01 q10 q11
  replace EX := Lib.hid (EX.out.below hb)
  replace OX := Lib.hid (OX.out.below hb)
  replace E1 := Lib.hid (E1.out.below hb)
  replace O1 := Lib.hid (O1.out.below hb)
  replace HB := Lib.hid (HB.out.trans (hb.mono HB.out.size))
  have E2 := Lib.hid ho.el
  clear ho hb
  have hal : Below V2.heap.size V2 (V2.alloc (.cells #[.int .i64 m2, .slice y2 l2.length t2] 24)) := (Below.refl _ V2).alloc (Nat.le_refl _) _
  have O2 := Lib.hid (ownb2_alloc V2 m2 (.slice y2 l2.length t2) 24 V2.heap.size rfl)
  replace EX := Lib.hid (EX.out.below hal)
  replace OX := Lib.hid (OX.out.below hal)
  replace E1 := Lib.hid (E1.out.below hal)
  replace O1 := Lib.hid (O1.out.below hal)
  replace E2 := Lib.hid (E2.out.below hal)
  replace HB := Lib.hid (HB.out.trans (hal.mono HB.out.size))
  clear hal
  obtain ⟨X2, hX⟩ : ∃ X2, V2.heap.size = X2 := ⟨_, rfl⟩
  rw [hX] at O2
  obtain ⟨q00, q01⟩ := OX.out.1
  obtain ⟨q10, q11⟩ := O1.out.1
  obtain ⟨q20, q21⟩ := O2.out.1
  go_wp2_with fail
  clear hX
  generalize V2.alloc (.cells #[.int .i64 m2, .slice y2 l2.length t2] 24) = U2 at *
  refine (c3 _ _ EX.out).mono ?_
  rintro e V3 ⟨y3, t3, rfl, ho, hb⟩
  clear q00 q01 q10 q11 q20 q21
  replace EX := Lib.hid (EX.out.below hb)
  replace OX := Lib.hid (OX.out.below hb)
  replace E1 := Lib.hid (E1.out.below hb)
  replace O1 := Lib.hid (O1.out.below hb)
  replace E2 := Lib.hid (E2.out.below hb)
  replace O2 := Lib.hid (O2.out.below hb)
  replace HB := Lib.hid (HB.out.trans (hb.mono HB.out.size))
  have E3 := Lib.hid ho.el
  clear ho hb
  have hal : Below V3.heap.size V3 (V3.alloc (.cells #[.int .i64 m3, .slice y3 l3.length t3] 24)) := (Below.refl _ V3).alloc (Nat.le_refl _) _
  have O3 := Lib.hid (ownb2_alloc V3 m3 (.slice y3 l3.length t3) 24 V3.heap.size rfl)
  replace EX := Lib.hid (EX.out.below hal)
  replace OX := Lib.hid (OX.out.below hal)
  replace E1 := Lib.hid (E1.out.below hal)
  replace O1 := Lib.hid (O1.out.below hal)
  replace E2 := Lib.hid (E2.out.below hal)
  replace O2 := Lib.hid (O2.out.below hal)
  replace E3 := Lib.hid (E3.out.below hal)
  replace HB := Lib.hid (HB.out.trans (hal.mono HB.out.size))
  clear hal
  obtain ⟨X3, hX⟩ : ∃ X3, V3.heap.size = X3 := ⟨_, rfl⟩
  rw [hX] at O3
  obtain ⟨q00, q01⟩ := OX.out.1
  obtain ⟨q10, q11⟩ := O1.out.1
  obtain ⟨q20, q21⟩ := O2.out.1
  obtain ⟨q30, q31⟩ := O3.out.1
  go_wp2_with fail
  clear hX
  generalize V3.alloc (.cells #[.int .i64 m3, .slice y3 l3.length t3] 24) = U3 at *
  refine (c4 _ _ E3.out).mono ?_
  rintro e V4 ⟨y4, t4, rfl, ho, hb⟩
  clear q00 q01 q10 q11 q20 q21 q30 q31
  replace EX := Lib.hid (EX.out.below hb)
  replace OX := Lib.hid (OX.out.below hb)
  replace E1 := Lib.hid (E1.out.below hb)
  replace O1 := Lib.hid (O1.out.below hb)
  replace E2 := Lib.hid (E2.out.below hb)
  replace O2 := Lib.hid (O2.out.below hb)
  replace E3 := Lib.hid (E3.out.below hb)
  replace O3 := Lib.hid (O3.out.below hb)
  replace HB := Lib.hid (HB.out.trans (hb.mono HB.out.size))
  have HB4 : Hid (Below w.heap.size w (V4.alloc (.cells #[.int .i64 m4, .slice y4 l4.length t4] 24))) := HB.out.alloc HB.out.size _
  clear ho hb
  rcases hk2 with hk2 | ⟨hk2, hk3⟩
  · go_wp2_with fail
    refine (awake6 _).mono ?_
    rintro e V5 ⟨rfl, hb⟩
    have HB5 := Lib.hid (HB4.out.trans (hb.mono HB4.out.size))
    clear hb
    go_wp2_with fail
    go_ret
    exact ⟨rfl, HB5.out⟩
  · go_wp2_with fail
    refine (awake6 _).mono ?_
    rintro e V5 ⟨rfl, hb⟩
    have HB5 := Lib.hid (HB4.out.trans (hb.mono HB4.out.size))
    clear hb
    go_wp2_with fail
    go_ret
    exact ⟨rfl, HB5.out⟩

theorem walk (b0 : Int) (a0 : Option Addr) (cap0 : Nat) (z0 : List (Int × Int)) (a1 : Int) (w1 : I64 a1) (a2 : Int) (w2 : I64 a2) (a3 : Int) (w3 : I64 a3) (a4 : Int) (w4 : I64 a4) (w : World) (w0 : El w (.slice a0 z0.length cap0) z0) :
    Calls Try.prog 7 #[.agg #[.int .i64 b0, .slice a0 z0.length cap0], .int .i64 a1, .int .i64 a2, .int .i64 a3, .int .i64 a4] w fun e w' => e = .returned (.bool true) ∧ Below w.heap.size w w' := by
  by_cases h : (80 : Int) < (z0.length : Int)
  · exact early1 b0 a0 cap0 z0 a1 a2 a3 a4 w h
  by_cases hab : a1 = a2
  · subst hab
    exact early2 b0 a0 cap0 z0 a1 a3 a4 w h
  have hl : z0.length ≤ 80 := by omega
  have l1 := wL_len b0 z0 a1 a3
  have l3 := wL_len b0 z0 a2 a4
  have l2 := wL_len (wM b0 z0 a1 a3) (wL b0 z0 a1 a3) a2 a4
  by_cases hA : WiOk b0 z0 a1 a3
  · by_cases hB : WiOk b0 z0 a2 a4
    · have eA : wM b0 z0 a1 a3 = b0 ∧ wL b0 z0 a1 a3 = winF z0 a1 a3 ∧ wK b0 z0 a1 a3 = 0 := ⟨if_pos hA, if_pos hA, if_pos hA⟩
      have eB : wM b0 z0 a2 a4 = b0 ∧ wL b0 z0 a2 a4 = winF z0 a2 a4 ∧ wK b0 z0 a2 a4 = 0 := ⟨if_pos hB, if_pos hB, if_pos hB⟩
      have iA := (winF_ok hA.1 a1 a3).1 hA.2
      have iB := (winF_ok hB.1 a2 a4).1 hB.2
      have hAB : WiOk b0 (winF z0 a1 a3) a2 a4 := ⟨hA.2, (winF_ok hA.2 a2 a4).2 iB⟩
      have hBA : WiOk b0 (winF z0 a2 a4) a1 a3 := ⟨hB.2, (winF_ok hB.2 a1 a3).2 iA⟩
      have hc := win_comm hA.1 hab iA iB
      have hm : (a1, a3) ∈ winF (winF z0 a1 a3) a2 a4 := (mem_winF hA.2).2 (.inr ⟨(mem_winF hA.1).2 (.inl rfl), hab⟩)
      have hs := win_same hAB.2 hm
      have hU : WiOk b0 (winF (winF z0 a1 a3) a2 a4) a1 a3 := ⟨hAB.2, by rw [hs]; exact hAB.2⟩
      rw [eA.2.1] at l1 l2
      rw [eA.1] at l2
      rw [eB.2.1] at l3
      have hZl : (winF (winF z0 a1 a3) a2 a4).length ≤ 82 := by
        have h5 : wL b0 (winF z0 a1 a3) a2 a4 = winF (winF z0 a1 a3) a2 a4 := if_pos hAB
        rw [h5] at l2
        omega
      refine case_ok b0 a0 cap0 z0 a1 a2 a3 a4 w w0 h hab (winF z0 a1 a3) (winF (winF z0 a1 a3) a2 a4) (winF z0 a2 a4) (by omega) ?_ ?_ ?_ ?_ ?_
      · intro W v hv
        have := with_fix b0 v z0 a1 a3 W hv (by omega)
        rwa [eA.1, eA.2.1, eA.2.2] at this
      · intro W v hv
        have := with_fix b0 v _ a2 a4 W hv (by omega)
        rwa [show wM b0 (winF z0 a1 a3) a2 a4 = b0 from if_pos hAB, show wL b0 (winF z0 a1 a3) a2 a4 = winF (winF z0 a1 a3) a2 a4 from if_pos hAB, show wK b0 (winF z0 a1 a3) a2 a4 = 0 from if_pos hAB] at this
      · intro W v hv
        have := with_fix b0 v z0 a2 a4 W hv (by omega)
        rwa [eB.1, eB.2.1, eB.2.2] at this
      · intro W v hv
        have := with_fix b0 v _ a1 a3 W hv (by omega)
        rwa [show wM b0 (winF z0 a2 a4) a1 a3 = b0 from if_pos hBA, show wL b0 (winF z0 a2 a4) a1 a3 = winF (winF z0 a2 a4) a1 a3 from if_pos hBA, show wK b0 (winF z0 a2 a4) a1 a3 = 0 from if_pos hBA, ← hc] at this
      · intro W v hv
        have := with_fix b0 v _ a1 a3 W hv (by omega)
        rwa [show wM b0 (winF (winF z0 a1 a3) a2 a4) a1 a3 = b0 from if_pos hU, show wL b0 (winF (winF z0 a1 a3) a2 a4) a1 a3 = winF (winF (winF z0 a1 a3) a2 a4) a1 a3 from if_pos hU, show wK b0 (winF (winF z0 a1 a3) a2 a4) a1 a3 = 0 from if_pos hU, hs] at this
    · exact case_no b0 a0 cap0 z0 a1 a2 a3 a4 w w0 h hab _ _ _ _ _ _ _ _ _ _ _ _ (.inr (by rw [show wK b0 z0 a2 a4 = 1 from if_neg hB]; decide)) (fun W v hv => with_fix b0 v z0 a1 a3 W hv (by omega)) (fun W v hv => with_fix _ v _ a2 a4 W hv (by omega)) (fun W v hv => with_fix b0 v z0 a2 a4 W hv (by omega)) (fun W v hv => with_fix _ v _ a1 a3 W hv (by omega))
  · exact case_no b0 a0 cap0 z0 a1 a2 a3 a4 w w0 h hab _ _ _ _ _ _ _ _ _ _ _ _ (.inl (by rw [show wK b0 z0 a1 a3 = 1 from if_neg hA]; decide)) (fun W v hv => with_fix b0 v z0 a1 a3 W hv (by omega)) (fun W v hv => with_fix _ v _ a2 a4 W hv (by omega)) (fun W v hv => with_fix b0 v z0 a2 a4 W hv (by omega)) (fun W v hv => with_fix _ v _ a1 a3 W hv (by omega))

set_option maxRecDepth 100000 in
theorem lifted (os : _root_.Go.Os) (started : os.Started) (H : Type) (enc : TypeId × Value → H) :
    ReturnsInHanded {} Try.checked os 7 .any (Rows.beaconOrderSpec.pre6 enc Try.prog Try.f7 Rows.beaconOrderRow.domain false) (Rows.beaconOrderSpec.post enc Try.prog Try.f7 false true false false) := by
  refine returnsInHanded_of_change (C := Try.checked) own started (by kernel_rfl) Try.func7
    (ChangeSpec.witness6 (enc := enc) (C := Try.checked) false ⟨#[], #[.agg #[.int .i64 0, .slice none 0 0], .int .i64 0, .int .i64 0, .int .i64 0, .int .i64 0], []⟩ 16 (by kernel_rfl) (by kernel_rfl) (by kernel_rfl) (by kernel_rfl)) ?_
  intro W base args ds gs before hval0 hW hcnd _
  have hval : ∀ (j : Nat) t v, Try.f7.params[j]? = some t → args[j]? = some v → Value.okWide Try.prog W .any base t v := hval0
  have hW' := hW
  obtain ⟨p, q, hA0, hV, rfl, hfz, hnd⟩ := hW
  have hA : DataW.TrodAll enc Try.prog W 0 (fun _ => true) true Try.f7.params.toList args.toList ds p := hA0
  rw [Try.params7] at hA hval
  obtain ⟨v0, vs0, e0, ds0, p0, q0, hargs, rfl, rfl, h0, x0⟩ := trodAll_cons hA
  obtain ⟨v1, vs1, e1, ds1, p1, q1, rfl, rfl, rfl, h1, x1⟩ := trodAll_cons x0
  obtain ⟨v2, vs2, e2, ds2, p2, q2, rfl, rfl, rfl, h2, x2⟩ := trodAll_cons x1
  obtain ⟨v3, vs3, e3, ds3, p3, q3, rfl, rfl, rfl, h3, x3⟩ := trodAll_cons x2
  obtain ⟨v4, vs4, e4, ds4, p4, q4, rfl, rfl, rfl, h4, x4⟩ := trodAll_cons x3
  obtain ⟨rfl, rfl, rfl⟩ := trodAll_nil x4
  obtain rfl : args = #[v0, v1, v2, v3, v4] := by cases args; simp_all
  obtain ⟨rfl, rfl⟩ := trodVars_none hV
  have k0 := h0
  have lt0 : ∀ x ∈ p0, x.block < W.heap.size := by obtain ⟨m, hm⟩ := k0; exact DataW.trod_lt m _ _ _ hm
  obtain ⟨b0, a0, cap0, z0, rfl, _, w0⟩ := bel_form (hval 0 24 _ rfl rfl) h0
  have k1 := h1
  have lt1 : ∀ x ∈ p1, x.block < W.heap.size := by obtain ⟨m, hm⟩ := k1; exact DataW.trod_lt m _ _ _ hm
  obtain ⟨a1, rfl, _, _, w1⟩ := open_int Try.underlying3 (hval 1 3 v1 rfl rfl) h1
  have k2 := h2
  have lt2 : ∀ x ∈ p2, x.block < W.heap.size := by obtain ⟨m, hm⟩ := k2; exact DataW.trod_lt m _ _ _ hm
  obtain ⟨a2, rfl, _, _, w2⟩ := open_int Try.underlying3 (hval 2 3 v2 rfl rfl) h2
  have k3 := h3
  have lt3 : ∀ x ∈ p3, x.block < W.heap.size := by obtain ⟨m, hm⟩ := k3; exact DataW.trod_lt m _ _ _ hm
  obtain ⟨a3, rfl, _, _, w3⟩ := open_int Try.underlying3 (hval 3 3 v3 rfl rfl) h3
  have k4 := h4
  have lt4 : ∀ x ∈ p4, x.block < W.heap.size := by obtain ⟨m, hm⟩ := k4; exact DataW.trod_lt m _ _ _ hm
  obtain ⟨a4, rfl, _, _, w4⟩ := open_int Try.underlying3 (hval 4 3 v4 rfl rfl) h4
  clear hA0 hval0
  refine (walk b0 a0 cap0 z0 a1 (i64_wf w1) a2 (i64_wf w2) a3 (i64_wf w3) a4 (i64_wf w4) W w0).mono fun e W' ⟨he, bel⟩ => ?_
  subst he
  exact ⟨_, rfl, _, _, _, [], _, [], hW', trodAll_mk1 (shut_bool Try.underlying4 _), (trodAll_cons_mk (Below.trod laidOut (by kernel_rfl) (of_decide_eq_true (by kernel_rfl)) k0 bel lt0) (trodAll_cons_mk (Below.trod laidOut (by kernel_rfl) (of_decide_eq_true (by kernel_rfl)) k1 bel lt1) (trodAll_cons_mk (Below.trod laidOut (by kernel_rfl) (of_decide_eq_true (by kernel_rfl)) k2 bel lt2) (trodAll_cons_mk (Below.trod laidOut (by kernel_rfl) (of_decide_eq_true (by kernel_rfl)) k3 bel lt3) (trodAll_cons_mk (Below.trod laidOut (by kernel_rfl) (of_decide_eq_true (by kernel_rfl)) k4 bel lt4) trodAll_mk0))))), rfl, bel.frame _, fun h => by cases h⟩

theorem over : Rows.beaconOrderRow.holds Try.pinned (OpenSpec.ofChange Rows.beaconOrderSpec) :=
  OpenClaim.holds_of_wide 7 Try.f7 rfl rfl rfl rfl rfl rfl rfl ⟨rfl, rfl, rfl, rfl, rfl⟩ rfl rfl rfl rfl rfl (by kernel_rfl) Try.func7 (by kernel_rfl)
    (of_decide_eq_true (by kernel_rfl)) (by unfold Func.isWrapper; first | (rw [if_pos (by decide +kernel)]; kernel_rfl) | (rw [if_neg (by decide +kernel)]; exact ⟨rfl, rfl⟩))
    (fun os started H enc _ => lifted os started H enc)

theorem proved : Rows.BeaconOrderSaid := over
#print axioms proved
end Go.Proofs.Ytaflgabjpcfgpaa.beaconOrder
