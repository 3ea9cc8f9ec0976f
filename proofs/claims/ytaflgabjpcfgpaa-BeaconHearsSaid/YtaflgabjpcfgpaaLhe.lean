/- thalweglaw06.BeaconHears: for any beacon, two nodes, an epoch the law answers true; no condition. -/
import Derived.Test.YtaflgabjpcfgpaaLfx
import Derived.WalkLawsBesides
import Derived.WalkKit
import Derived.ProofKit
import Derived.OpenShut
import Derived.ShutString
import Derived.ChangeOld
import Derived.Below
namespace Go.Proofs.Ytaflgabjpcfgpaa.beaconHears
open Go.ChangeShapes Go.WideShapes Go.ChangeAt Go.RowKit
open Go.ChangeMaps (open_string shut_string)
set_option linter.unusedVariables false
set_option maxRecDepth 100000

theorem own : ownKnob Try.prog.godebug = none := by kernel_rfl
theorem laidOut : laidOutB Try.prog = true := by kernel_rfl

theorem early (b0 : Int) (a0 : Option Addr) (cap0 : Nat) (z0 : List (Int × Int)) (a1 a2 a3 : Int) (w : World) (h : (100 : Int) < (z0.length : Int)) :
    Calls Try.prog 6 #[.agg #[.int .i64 b0, .slice a0 z0.length cap0], .int .i64 a1, .int .i64 a2, .int .i64 a3] w fun e w' => e = .returned (.bool true) ∧ Below w.heap.size w w' := by
  go_enter Try.func6, Try.ntmps6
  go_wp2_with fail
  go_ret
  exact ⟨rfl, (Below.refl _ _).alloc (Nat.le_refl _) _⟩

set_option maxHeartbeats 16000000 in
theorem case_no (b0 : Int) (a0 : Option Addr) (cap0 : Nat) (z0 : List (Int × Int)) (a1 a2 a3 : Int) (w : World) (w0 : El w (.slice a0 z0.length cap0) z0) (h : ¬ (100 : Int) < (z0.length : Int)) (c1 : ∀ W v, El W v z0 → Calls Try.prog 13 #[.agg #[.int .i64 b0, v], .int .i64 a1, .int .i64 a3] W (RetE W 0 [] 1)) :
    Calls Try.prog 6 #[.agg #[.int .i64 b0, .slice a0 z0.length cap0], .int .i64 a1, .int .i64 a2, .int .i64 a3] w fun e w' => e = .returned (.bool true) ∧ Below w.heap.size w w' := by
  have EX := Lib.hid (w0.alloc (.cells #[.int .i64 b0, .slice a0 z0.length cap0] 24))
  have OX := Lib.hid (ownb2_alloc w b0 (.slice a0 z0.length cap0) 24 w.heap.size rfl)
  have HB : Hid (Below w.heap.size w (w.alloc (.cells #[.int .i64 b0, .slice a0 z0.length cap0] 24))) := (Below.refl _ w).alloc (Nat.le_refl _) _
  clear w0
  go_enter Try.func6, Try.ntmps6
  go_wp2_with fail
  generalize w.alloc (.cells #[.int .i64 b0, .slice a0 z0.length cap0] 24) = U0 at *
  refine (c1 _ _ EX.out).mono ?_
  rintro e V1 ⟨y1, t1, rfl, ho, hb⟩
  replace EX := Lib.hid (EX.out.below hb)
  replace OX := Lib.hid (OX.out.below hb)
  replace HB := Lib.hid (HB.out.trans (hb.mono HB.out.size))
  have E1 := Lib.hid ho.el
  clear ho hb
  have hal : Below V1.heap.size V1 (V1.alloc (.cells #[.int .i64 0, .slice y1 ([] : List (Int × Int)).length t1] 24)) := (Below.refl _ V1).alloc (Nat.le_refl _) _
  have O1 := Lib.hid (ownb2_alloc V1 0 (.slice y1 ([] : List (Int × Int)).length t1) 24 V1.heap.size rfl)
  replace EX := Lib.hid (EX.out.below hal)
  replace OX := Lib.hid (OX.out.below hal)
  replace E1 := Lib.hid (E1.out.below hal)
  replace HB := Lib.hid (HB.out.trans (hal.mono HB.out.size))
  clear hal
  obtain ⟨X1, hX⟩ : ∃ X1, V1.heap.size = X1 := ⟨_, rfl⟩
  rw [hX] at O1
  obtain ⟨q00, q01⟩ := OX.out.1
  obtain ⟨q10, q11⟩ := O1.out.1
  simp only [List.length_nil] at *
  go_wp2_with fail
  clear hX
  generalize V1.alloc (.cells #[.int .i64 0, .slice y1 0 t1] 24) = U1 at *
  refine (awake6 _).mono ?_
  rintro e V2 ⟨rfl, hb⟩
  clear q00 q01 q10 q11
  replace EX := Lib.hid (EX.out.below hb)
  replace OX := Lib.hid (OX.out.below hb)
  replace E1 := Lib.hid (E1.out.below hb)
  replace O1 := Lib.hid (O1.out.below hb)
  replace HB := Lib.hid (HB.out.trans (hb.mono HB.out.size))
  clear hb
  obtain ⟨q00, q01⟩ := OX.out.1
  obtain ⟨q10, q11⟩ := O1.out.1
  go_wp2_with fail
  go_ret
  exact ⟨rfl, HB.out⟩

set_option maxHeartbeats 16000000 in
theorem case_sh (b0 : Int) (a0 : Option Addr) (cap0 : Nat) (z0 : List (Int × Int)) (a1 a2 a3 : Int) (w : World) (w0 : El w (.slice a0 z0.length cap0) z0) (h : ¬ (100 : Int) < (z0.length : Int)) (Y Zl : List (Int × Int)) (A : Int) (was : Bool) (x7 : Int) (hZ : Zl.length ≤ 3000) (c1 : ∀ W v, El W v z0 → Calls Try.prog 13 #[.agg #[.int .i64 b0, v], .int .i64 a1, .int .i64 a3] W (RetE W b0 Y 0)) (h1 : ∀ W v, El W v Y → Calls Try.prog 11 #[.agg #[.int .i64 b0, v], .int .i64 a1] W fun e w' => e = .returned (.tuple #[.int .i64 a3, .bool true]) ∧ Below W.heap.size W w') (h2 : ∀ W v, El W v z0 → Calls Try.prog 11 #[.agg #[.int .i64 b0, v], .int .i64 a2] W fun e w' => e = .returned (.tuple #[.int .i64 A, .bool was]) ∧ Below W.heap.size W w') (h3 : ∀ W v, El W v Y → Calls Try.prog 11 #[.agg #[.int .i64 b0, v], .int .i64 a2] W fun e w' => e = .returned (.tuple #[.int .i64 A, .bool was]) ∧ Below W.heap.size W w') (c4 : ∀ W v, El W v Y → Calls Try.prog 15 #[.agg #[.int .i64 b0, v], .int .i64 a1] W (RetE W b0 Zl 0)) (c5 : ∀ W v, El W v z0 → Calls Try.prog 15 #[.agg #[.int .i64 b0, v], .int .i64 a1] W (RetE W b0 Zl 0)) (h6 : ∀ W v, El W v Zl → Calls Try.prog 11 #[.agg #[.int .i64 b0, v], .int .i64 a1] W fun e w' => e = .returned (.tuple #[.int .i64 0, .bool false]) ∧ Below W.heap.size W w') (h7 : ∀ W v, El W v z0 → Calls Try.prog 11 #[.agg #[.int .i64 b0, v], .int .i64 a1] W fun e w' => e = .returned (.tuple #[.int .i64 x7, .bool true]) ∧ Below W.heap.size W w') (cK : ∀ W v, El W v Y → Calls Try.prog 17 #[.agg #[.int .i64 b0, v]] W fun e w' => e = .returned (.int .i64 0) ∧ Below W.heap.size W w') :
    Calls Try.prog 6 #[.agg #[.int .i64 b0, .slice a0 z0.length cap0], .int .i64 a1, .int .i64 a2, .int .i64 a3] w fun e w' => e = .returned (.bool true) ∧ Below w.heap.size w w' := by
  have EX := Lib.hid (w0.alloc (.cells #[.int .i64 b0, .slice a0 z0.length cap0] 24))
  have OX := Lib.hid (ownb2_alloc w b0 (.slice a0 z0.length cap0) 24 w.heap.size rfl)
  have HB : Hid (Below w.heap.size w (w.alloc (.cells #[.int .i64 b0, .slice a0 z0.length cap0] 24))) := (Below.refl _ w).alloc (Nat.le_refl _) _
  have e1 : (A != A) = false := by simp
  have e2 : (was != was) = false := by simp
  have e3 : (a3 != a3) = false := by simp
  clear w0
  go_enter Try.func6, Try.ntmps6
  go_wp2_with fail
  generalize w.alloc (.cells #[.int .i64 b0, .slice a0 z0.length cap0] 24) = U0 at *
  refine (c1 _ _ EX.out).mono ?_
  rintro e V1 ⟨y1, t1, rfl, ho, hb⟩
  replace EX := Lib.hid (EX.out.below hb)
  replace OX := Lib.hid (OX.out.below hb)
  replace HB := Lib.hid (HB.out.trans (hb.mono HB.out.size))
  have E1 := Lib.hid ho.el
  clear ho hb
  have hal : Below V1.heap.size V1 (V1.alloc (.cells #[.int .i64 b0, .slice y1 Y.length t1] 24)) := (Below.refl _ V1).alloc (Nat.le_refl _) _
  have O1 := Lib.hid (ownb2_alloc V1 b0 (.slice y1 Y.length t1) 24 V1.heap.size rfl)
  replace EX := Lib.hid (EX.out.below hal)
  replace OX := Lib.hid (OX.out.below hal)
  replace E1 := Lib.hid (E1.out.below hal)
  replace HB := Lib.hid (HB.out.trans (hal.mono HB.out.size))
  clear hal
  obtain ⟨X1, hX⟩ : ∃ X1, V1.heap.size = X1 := ⟨_, rfl⟩
  rw [hX] at O1
  obtain ⟨q00, q01⟩ := OX.out.1
  obtain ⟨q10, q11⟩ := O1.out.1
  go_wp2_with fail
  clear hX
  generalize V1.alloc (.cells #[.int .i64 b0, .slice y1 Y.length t1] 24) = U1 at *
  refine (h1 _ _ E1.out).mono ?_
  rintro e V2 ⟨rfl, hb⟩
  clear q00 q01 q10 q11
  replace EX := Lib.hid (EX.out.below hb)
  replace OX := Lib.hid (OX.out.below hb)
  replace E1 := Lib.hid (E1.out.below hb)
  replace O1 := Lib.hid (O1.out.below hb)
  replace HB := Lib.hid (HB.out.trans (hb.mono HB.out.size))
  clear hb
  obtain ⟨q00, q01⟩ := OX.out.1
  obtain ⟨q10, q11⟩ := O1.out.1
  go_wp2_with fail
  refine (h2 _ _ EX.out).mono ?_
  rintro e V3 ⟨rfl, hb⟩
  clear q00 q01 q10 q11
  replace EX := Lib.hid (EX.out.below hb)
  replace OX := Lib.hid (OX.out.below hb)
  replace E1 := Lib.hid (E1.out.below hb)
  replace O1 := Lib.hid (O1.out.below hb)
  replace HB := Lib.hid (HB.out.trans (hb.mono HB.out.size))
  clear hb
  obtain ⟨q00, q01⟩ := OX.out.1
  obtain ⟨q10, q11⟩ := O1.out.1
  go_wp2_with fail
  refine (h3 _ _ E1.out).mono ?_
  rintro e V4 ⟨rfl, hb⟩
  clear q00 q01 q10 q11
  replace EX := Lib.hid (EX.out.below hb)
  replace OX := Lib.hid (OX.out.below hb)
  replace E1 := Lib.hid (E1.out.below hb)
  replace O1 := Lib.hid (O1.out.below hb)
  replace HB := Lib.hid (HB.out.trans (hb.mono HB.out.size))
  clear hb
  obtain ⟨q00, q01⟩ := OX.out.1
  obtain ⟨q10, q11⟩ := O1.out.1
  go_wp2_with fail
  refine (c4 _ _ E1.out).mono ?_
  rintro e V5 ⟨y5, t5, rfl, ho, hb⟩
  clear q00 q01 q10 q11
  replace EX := Lib.hid (EX.out.below hb)
  replace OX := Lib.hid (OX.out.below hb)
  replace E1 := Lib.hid (E1.out.below hb)
  replace O1 := Lib.hid (O1.out.below hb)
  replace HB := Lib.hid (HB.out.trans (hb.mono HB.out.size))
  have E5 := Lib.hid ho.el
  clear ho hb
  have hal : Below V5.heap.size V5 (V5.alloc (.cells #[.int .i64 b0, .slice y5 Zl.length t5] 24)) := (Below.refl _ V5).alloc (Nat.le_refl _) _
  have O5 := Lib.hid (ownb2_alloc V5 b0 (.slice y5 Zl.length t5) 24 V5.heap.size rfl)
  replace EX := Lib.hid (EX.out.below hal)
  replace OX := Lib.hid (OX.out.below hal)
  replace E1 := Lib.hid (E1.out.below hal)
  replace O1 := Lib.hid (O1.out.below hal)
  replace E5 := Lib.hid (E5.out.below hal)
  replace HB := Lib.hid (HB.out.trans (hal.mono HB.out.size))
  clear hal
  obtain ⟨X5, hX⟩ : ∃ X5, V5.heap.size = X5 := ⟨_, rfl⟩
  rw [hX] at O5
  obtain ⟨q00, q01⟩ := OX.out.1
  obtain ⟨q10, q11⟩ := O1.out.1
  obtain ⟨q20, q21⟩ := O5.out.1
  go_wp2_with fail
  clear hX
  generalize V5.alloc (.cells #[.int .i64 b0, .slice y5 Zl.length t5] 24) = U5 at *
  refine (c5 _ _ EX.out).mono ?_
  rintro e V6 ⟨y6, t6, rfl, ho, hb⟩
  clear q00 q01 q10 q11 q20 q21
  replace EX := Lib.hid (EX.out.below hb)
  replace OX := Lib.hid (OX.out.below hb)
  replace E1 := Lib.hid (E1.out.below hb)
  replace O1 := Lib.hid (O1.out.below hb)
  replace E5 := Lib.hid (E5.out.below hb)
  replace O5 := Lib.hid (O5.out.below hb)
  replace HB := Lib.hid (HB.out.trans (hb.mono HB.out.size))
  have E6 := Lib.hid ho.el
  clear ho hb
  have hal : Below V6.heap.size V6 (V6.alloc (.cells #[.int .i64 b0, .slice y6 Zl.length t6] 24)) := (Below.refl _ V6).alloc (Nat.le_refl _) _
  have O6 := Lib.hid (ownb2_alloc V6 b0 (.slice y6 Zl.length t6) 24 V6.heap.size rfl)
  replace EX := Lib.hid (EX.out.below hal)
  replace OX := Lib.hid (OX.out.below hal)
  replace E1 := Lib.hid (E1.out.below hal)
  replace O1 := Lib.hid (O1.out.below hal)
  replace E5 := Lib.hid (E5.out.below hal)
  replace O5 := Lib.hid (O5.out.below hal)
  replace E6 := Lib.hid (E6.out.below hal)
  replace HB := Lib.hid (HB.out.trans (hal.mono HB.out.size))
  clear hal
  obtain ⟨X6, hX⟩ : ∃ X6, V6.heap.size = X6 := ⟨_, rfl⟩
  rw [hX] at O6
  obtain ⟨q00, q01⟩ := OX.out.1
  obtain ⟨q10, q11⟩ := O1.out.1
  obtain ⟨q20, q21⟩ := O5.out.1
  obtain ⟨q30, q31⟩ := O6.out.1
  go_wp2_with fail
  clear hX
  generalize V6.alloc (.cells #[.int .i64 b0, .slice y6 Zl.length t6] 24) = U6 at *
  refine (h6 _ _ E5.out).mono ?_
  rintro e V7 ⟨rfl, hb⟩
  clear q00 q01 q10 q11 q20 q21 q30 q31
  replace EX := Lib.hid (EX.out.below hb)
  replace OX := Lib.hid (OX.out.below hb)
  replace E1 := Lib.hid (E1.out.below hb)
  replace O1 := Lib.hid (O1.out.below hb)
  replace E5 := Lib.hid (E5.out.below hb)
  replace O5 := Lib.hid (O5.out.below hb)
  replace E6 := Lib.hid (E6.out.below hb)
  replace O6 := Lib.hid (O6.out.below hb)
  replace HB := Lib.hid (HB.out.trans (hb.mono HB.out.size))
  clear hb
  obtain ⟨q00, q01⟩ := OX.out.1
  obtain ⟨q10, q11⟩ := O1.out.1
  obtain ⟨q20, q21⟩ := O5.out.1
  obtain ⟨q30, q31⟩ := O6.out.1
  cases hq : (a2 != a1)
  · skip
    go_wp2_with fail
    refine (h7 _ _ EX.out).mono ?_
    rintro e V8 ⟨rfl, hb⟩
    clear q00 q01 q10 q11 q20 q21 q30 q31
    replace EX := Lib.hid (EX.out.below hb)
    replace OX := Lib.hid (OX.out.below hb)
    replace E1 := Lib.hid (E1.out.below hb)
    replace O1 := Lib.hid (O1.out.below hb)
    replace E5 := Lib.hid (E5.out.below hb)
    replace O5 := Lib.hid (O5.out.below hb)
    replace E6 := Lib.hid (E6.out.below hb)
    replace O6 := Lib.hid (O6.out.below hb)
    replace HB := Lib.hid (HB.out.trans (hb.mono HB.out.size))
    clear hb
    obtain ⟨q00, q01⟩ := OX.out.1
    obtain ⟨q10, q11⟩ := O1.out.1
    obtain ⟨q20, q21⟩ := O5.out.1
    obtain ⟨q30, q31⟩ := O6.out.1
    go_wp2_with fail
    refine (awake6 _).mono ?_
    rintro e V9 ⟨rfl, hb⟩
    clear q00 q01 q10 q11 q20 q21 q30 q31
    replace EX := Lib.hid (EX.out.below hb)
    replace OX := Lib.hid (OX.out.below hb)
    replace E1 := Lib.hid (E1.out.below hb)
    replace O1 := Lib.hid (O1.out.below hb)
    replace E5 := Lib.hid (E5.out.below hb)
    replace O5 := Lib.hid (O5.out.below hb)
    replace E6 := Lib.hid (E6.out.below hb)
    replace O6 := Lib.hid (O6.out.below hb)
    replace HB := Lib.hid (HB.out.trans (hb.mono HB.out.size))
    clear hb
    obtain ⟨q00, q01⟩ := OX.out.1
    obtain ⟨q10, q11⟩ := O1.out.1
    obtain ⟨q20, q21⟩ := O5.out.1
    obtain ⟨q30, q31⟩ := O6.out.1
    go_wp2_with fail
    refine (cK _ _ E1.out).mono ?_
    rintro e V10 ⟨rfl, hb⟩
    clear q00 q01 q10 q11 q20 q21 q30 q31
    replace EX := Lib.hid (EX.out.below hb)
    replace OX := Lib.hid (OX.out.below hb)
    replace E1 := Lib.hid (E1.out.below hb)
    replace O1 := Lib.hid (O1.out.below hb)
    replace E5 := Lib.hid (E5.out.below hb)
    replace O5 := Lib.hid (O5.out.below hb)
    replace E6 := Lib.hid (E6.out.below hb)
    replace O6 := Lib.hid (O6.out.below hb)
    replace HB := Lib.hid (HB.out.trans (hb.mono HB.out.size))
    clear hb
    obtain ⟨q00, q01⟩ := OX.out.1
    obtain ⟨q10, q11⟩ := O1.out.1
    obtain ⟨q20, q21⟩ := O5.out.1
    obtain ⟨q30, q31⟩ := O6.out.1
    go_wp2_with fail
    refine (rsame_true b0 _ _ Zl _ E5.out.1 E6.out.1 hZ).mono ?_
    rintro e V11 ⟨rfl, hb⟩
    clear q00 q01 q10 q11 q20 q21 q30 q31
    replace EX := Lib.hid (EX.out.below hb)
    replace OX := Lib.hid (OX.out.below hb)
    replace E1 := Lib.hid (E1.out.below hb)
    replace O1 := Lib.hid (O1.out.below hb)
    replace E5 := Lib.hid (E5.out.below hb)
    replace O5 := Lib.hid (O5.out.below hb)
    replace E6 := Lib.hid (E6.out.below hb)
    replace O6 := Lib.hid (O6.out.below hb)
    replace HB := Lib.hid (HB.out.trans (hb.mono HB.out.size))
    clear hb
    go_wp2_with fail
    go_ret
    exact ⟨rfl, HB.out⟩
  · skip
    go_wp2_with fail
    refine (h7 _ _ EX.out).mono ?_
    rintro e V8 ⟨rfl, hb⟩
    clear q00 q01 q10 q11 q20 q21 q30 q31
    replace EX := Lib.hid (EX.out.below hb)
    replace OX := Lib.hid (OX.out.below hb)
    replace E1 := Lib.hid (E1.out.below hb)
    replace O1 := Lib.hid (O1.out.below hb)
    replace E5 := Lib.hid (E5.out.below hb)
    replace O5 := Lib.hid (O5.out.below hb)
    replace E6 := Lib.hid (E6.out.below hb)
    replace O6 := Lib.hid (O6.out.below hb)
    replace HB := Lib.hid (HB.out.trans (hb.mono HB.out.size))
    clear hb
    obtain ⟨q00, q01⟩ := OX.out.1
    obtain ⟨q10, q11⟩ := O1.out.1
    obtain ⟨q20, q21⟩ := O5.out.1
    obtain ⟨q30, q31⟩ := O6.out.1
    go_wp2_with fail
    refine (awake6 _).mono ?_
    rintro e V9 ⟨rfl, hb⟩
    clear q00 q01 q10 q11 q20 q21 q30 q31
    replace EX := Lib.hid (EX.out.below hb)
    replace OX := Lib.hid (OX.out.below hb)
    replace E1 := Lib.hid (E1.out.below hb)
    replace O1 := Lib.hid (O1.out.below hb)
    replace E5 := Lib.hid (E5.out.below hb)
    replace O5 := Lib.hid (O5.out.below hb)
    replace E6 := Lib.hid (E6.out.below hb)
    replace O6 := Lib.hid (O6.out.below hb)
    replace HB := Lib.hid (HB.out.trans (hb.mono HB.out.size))
    clear hb
    obtain ⟨q00, q01⟩ := OX.out.1
    obtain ⟨q10, q11⟩ := O1.out.1
    obtain ⟨q20, q21⟩ := O5.out.1
    obtain ⟨q30, q31⟩ := O6.out.1
    go_wp2_with fail
    refine (cK _ _ E1.out).mono ?_
    rintro e V10 ⟨rfl, hb⟩
    clear q00 q01 q10 q11 q20 q21 q30 q31
    replace EX := Lib.hid (EX.out.below hb)
    replace OX := Lib.hid (OX.out.below hb)
    replace E1 := Lib.hid (E1.out.below hb)
    replace O1 := Lib.hid (O1.out.below hb)
    replace E5 := Lib.hid (E5.out.below hb)
    replace O5 := Lib.hid (O5.out.below hb)
    replace E6 := Lib.hid (E6.out.below hb)
    replace O6 := Lib.hid (O6.out.below hb)
    replace HB := Lib.hid (HB.out.trans (hb.mono HB.out.size))
    clear hb
    obtain ⟨q00, q01⟩ := OX.out.1
    obtain ⟨q10, q11⟩ := O1.out.1
    obtain ⟨q20, q21⟩ := O5.out.1
    obtain ⟨q30, q31⟩ := O6.out.1
    go_wp2_with fail
    refine (rsame_true b0 _ _ Zl _ E5.out.1 E6.out.1 hZ).mono ?_
    rintro e V11 ⟨rfl, hb⟩
    clear q00 q01 q10 q11 q20 q21 q30 q31
    replace EX := Lib.hid (EX.out.below hb)
    replace OX := Lib.hid (OX.out.below hb)
    replace E1 := Lib.hid (E1.out.below hb)
    replace O1 := Lib.hid (O1.out.below hb)
    replace E5 := Lib.hid (E5.out.below hb)
    replace O5 := Lib.hid (O5.out.below hb)
    replace E6 := Lib.hid (E6.out.below hb)
    replace O6 := Lib.hid (O6.out.below hb)
    replace HB := Lib.hid (HB.out.trans (hb.mono HB.out.size))
    clear hb
    go_wp2_with fail
    go_ret
    exact ⟨rfl, HB.out⟩

set_option maxHeartbeats 16000000 in
theorem case_sn (b0 : Int) (a0 : Option Addr) (cap0 : Nat) (z0 : List (Int × Int)) (a1 a2 a3 : Int) (w : World) (w0 : El w (.slice a0 z0.length cap0) z0) (h : ¬ (100 : Int) < (z0.length : Int)) (Y Zl : List (Int × Int)) (A : Int) (was : Bool) (x7 : Int) (m5 : Int) (l5 : List (Int × Int)) (hZ : Zl = z0) (c1 : ∀ W v, El W v z0 → Calls Try.prog 13 #[.agg #[.int .i64 b0, v], .int .i64 a1, .int .i64 a3] W (RetE W b0 Y 0)) (h1 : ∀ W v, El W v Y → Calls Try.prog 11 #[.agg #[.int .i64 b0, v], .int .i64 a1] W fun e w' => e = .returned (.tuple #[.int .i64 a3, .bool true]) ∧ Below W.heap.size W w') (h2 : ∀ W v, El W v z0 → Calls Try.prog 11 #[.agg #[.int .i64 b0, v], .int .i64 a2] W fun e w' => e = .returned (.tuple #[.int .i64 A, .bool was]) ∧ Below W.heap.size W w') (h3 : ∀ W v, El W v Y → Calls Try.prog 11 #[.agg #[.int .i64 b0, v], .int .i64 a2] W fun e w' => e = .returned (.tuple #[.int .i64 A, .bool was]) ∧ Below W.heap.size W w') (c4 : ∀ W v, El W v Y → Calls Try.prog 15 #[.agg #[.int .i64 b0, v], .int .i64 a1] W (RetE W b0 Zl 0)) (c5 : ∀ W v, El W v z0 → Calls Try.prog 15 #[.agg #[.int .i64 b0, v], .int .i64 a1] W (RetE W m5 l5 7)) (h6 : ∀ W v, El W v Zl → Calls Try.prog 11 #[.agg #[.int .i64 b0, v], .int .i64 a1] W fun e w' => e = .returned (.tuple #[.int .i64 0, .bool false]) ∧ Below W.heap.size W w') (h7 : ∀ W v, El W v z0 → Calls Try.prog 11 #[.agg #[.int .i64 b0, v], .int .i64 a1] W fun e w' => e = .returned (.tuple #[.int .i64 x7, .bool false]) ∧ Below W.heap.size W w') (cK : ∀ W v, El W v Y → Calls Try.prog 17 #[.agg #[.int .i64 b0, v]] W fun e w' => e = .returned (.int .i64 0) ∧ Below W.heap.size W w') :
    Calls Try.prog 6 #[.agg #[.int .i64 b0, .slice a0 z0.length cap0], .int .i64 a1, .int .i64 a2, .int .i64 a3] w fun e w' => e = .returned (.bool true) ∧ Below w.heap.size w w' := by
  have EX := Lib.hid (w0.alloc (.cells #[.int .i64 b0, .slice a0 z0.length cap0] 24))
  have OX := Lib.hid (ownb2_alloc w b0 (.slice a0 z0.length cap0) 24 w.heap.size rfl)
  have HB : Hid (Below w.heap.size w (w.alloc (.cells #[.int .i64 b0, .slice a0 z0.length cap0] 24))) := (Below.refl _ w).alloc (Nat.le_refl _) _
  have e1 : (A != A) = false := by simp
  have e2 : (was != was) = false := by simp
  have e3 : (a3 != a3) = false := by simp
  have HZ := Lib.hid hZ
  clear hZ
  clear w0
  go_enter Try.func6, Try.ntmps6
  go_wp2_with fail
  generalize w.alloc (.cells #[.int .i64 b0, .slice a0 z0.length cap0] 24) = U0 at *
  refine (c1 _ _ EX.out).mono ?_
  rintro e V1 ⟨y1, t1, rfl, ho, hb⟩
  replace EX := Lib.hid (EX.out.below hb)
  replace OX := Lib.hid (OX.out.below hb)
  replace HB := Lib.hid (HB.out.trans (hb.mono HB.out.size))
  have E1 := Lib.hid ho.el
  clear ho hb
  have hal : Below V1.heap.size V1 (V1.alloc (.cells #[.int .i64 b0, .slice y1 Y.length t1] 24)) := (Below.refl _ V1).alloc (Nat.le_refl _) _
  have O1 := Lib.hid (ownb2_alloc V1 b0 (.slice y1 Y.length t1) 24 V1.heap.size rfl)
  replace EX := Lib.hid (EX.out.below hal)
  replace OX := Lib.hid (OX.out.below hal)
  replace E1 := Lib.hid (E1.out.below hal)
  replace HB := Lib.hid (HB.out.trans (hal.mono HB.out.size))
  clear hal
  obtain ⟨X1, hX⟩ : ∃ X1, V1.heap.size = X1 := ⟨_, rfl⟩
  rw [hX] at O1
  obtain ⟨q00, q01⟩ := OX.out.1
  obtain ⟨q10, q11⟩ := O1.out.1
  go_wp2_with fail
  clear hX
  generalize V1.alloc (.cells #[.int .i64 b0, .slice y1 Y.length t1] 24) = U1 at *
  refine (h1 _ _ E1.out).mono ?_
  rintro e V2 ⟨rfl, hb⟩
  clear q00 q01 q10 q11
  replace EX := Lib.hid (EX.out.below hb)
  replace OX := Lib.hid (OX.out.below hb)
  replace E1 := Lib.hid (E1.out.below hb)
  replace O1 := Lib.hid (O1.out.below hb)
  replace HB := Lib.hid (HB.out.trans (hb.mono HB.out.size))
  clear hb
  obtain ⟨q00, q01⟩ := OX.out.1
  obtain ⟨q10, q11⟩ := O1.out.1
  go_wp2_with fail
  refine (h2 _ _ EX.out).mono ?_
  rintro e V3 ⟨rfl, hb⟩
  clear q00 q01 q10 q11
  replace EX := Lib.hid (EX.out.below hb)
  replace OX := Lib.hid (OX.out.below hb)
  replace E1 := Lib.hid (E1.out.below hb)
  replace O1 := Lib.hid (O1.out.below hb)
  replace HB := Lib.hid (HB.out.trans (hb.mono HB.out.size))
  clear hb
  obtain ⟨q00, q01⟩ := OX.out.1
  obtain ⟨q10, q11⟩ := O1.out.1
  go_wp2_with fail
  refine (h3 _ _ E1.out).mono ?_
  rintro e V4 ⟨rfl, hb⟩
  clear q00 q01 q10 q11
  replace EX := Lib.hid (EX.out.below hb)
  replace OX := Lib.hid (OX.out.below hb)
  replace E1 := Lib.hid (E1.out.below hb)
  replace O1 := Lib.hid (O1.out.below hb)
  replace HB := Lib.hid (HB.out.trans (hb.mono HB.out.size))
  clear hb
  obtain ⟨q00, q01⟩ := OX.out.1
  obtain ⟨q10, q11⟩ := O1.out.1
  go_wp2_with fail
  refine (c4 _ _ E1.out).mono ?_
  rintro e V5 ⟨y5, t5, rfl, ho, hb⟩
  clear q00 q01 q10 q11
  replace EX := Lib.hid (EX.out.below hb)
  replace OX := Lib.hid (OX.out.below hb)
  replace E1 := Lib.hid (E1.out.below hb)
  replace O1 := Lib.hid (O1.out.below hb)
  replace HB := Lib.hid (HB.out.trans (hb.mono HB.out.size))
  have E5 := Lib.hid ho.el
  clear ho hb
  have hal : Below V5.heap.size V5 (V5.alloc (.cells #[.int .i64 b0, .slice y5 Zl.length t5] 24)) := (Below.refl _ V5).alloc (Nat.le_refl _) _
  have O5 := Lib.hid (ownb2_alloc V5 b0 (.slice y5 Zl.length t5) 24 V5.heap.size rfl)
  replace EX := Lib.hid (EX.out.below hal)
  replace OX := Lib.hid (OX.out.below hal)
  replace E1 := Lib.hid (E1.out.below hal)
  replace O1 := Lib.hid (O1.out.below hal)
  replace E5 := Lib.hid (E5.out.below hal)
  replace HB := Lib.hid (HB.out.trans (hal.mono HB.out.size))
  clear hal
  obtain ⟨X5, hX⟩ : ∃ X5, V5.heap.size = X5 := ⟨_, rfl⟩
  rw [hX] at O5
  obtain ⟨q00, q01⟩ := OX.out.1
  obtain ⟨q10, q11⟩ := O1.out.1
  obtain ⟨q20, q21⟩ := O5.out.1
  go_wp2_with fail
  clear hX
  generalize V5.alloc (.cells #[.int .i64 b0, .slice y5 Zl.length t5] 24) = U5 at *
  refine (c5 _ _ EX.out).mono ?_
  rintro e V6 ⟨y6, t6, rfl, ho, hb⟩
  clear q00 q01 q10 q11 q20 q21
  replace EX := Lib.hid (EX.out.below hb)
  replace OX := Lib.hid (OX.out.below hb)
  replace E1 := Lib.hid (E1.out.below hb)
  replace O1 := Lib.hid (O1.out.below hb)
  replace E5 := Lib.hid (E5.out.below hb)
  replace O5 := Lib.hid (O5.out.below hb)
  replace HB := Lib.hid (HB.out.trans (hb.mono HB.out.size))
  have E6 := Lib.hid ho.el
  clear ho hb
  have hal : Below V6.heap.size V6 (V6.alloc (.cells #[.int .i64 m5, .slice y6 l5.length t6] 24)) := (Below.refl _ V6).alloc (Nat.le_refl _) _
  have O6 := Lib.hid (ownb2_alloc V6 m5 (.slice y6 l5.length t6) 24 V6.heap.size rfl)
  replace EX := Lib.hid (EX.out.below hal)
  replace OX := Lib.hid (OX.out.below hal)
  replace E1 := Lib.hid (E1.out.below hal)
  replace O1 := Lib.hid (O1.out.below hal)
  replace E5 := Lib.hid (E5.out.below hal)
  replace O5 := Lib.hid (O5.out.below hal)
  replace E6 := Lib.hid (E6.out.below hal)
  replace HB := Lib.hid (HB.out.trans (hal.mono HB.out.size))
  clear hal
  obtain ⟨X6, hX⟩ : ∃ X6, V6.heap.size = X6 := ⟨_, rfl⟩
  rw [hX] at O6
  obtain ⟨q00, q01⟩ := OX.out.1
  obtain ⟨q10, q11⟩ := O1.out.1
  obtain ⟨q20, q21⟩ := O5.out.1
  obtain ⟨q30, q31⟩ := O6.out.1
  go_wp2_with fail
  clear hX
  generalize V6.alloc (.cells #[.int .i64 m5, .slice y6 l5.length t6] 24) = U6 at *
  refine (h6 _ _ E5.out).mono ?_
  rintro e V7 ⟨rfl, hb⟩
  clear q00 q01 q10 q11 q20 q21 q30 q31
  replace EX := Lib.hid (EX.out.below hb)
  replace OX := Lib.hid (OX.out.below hb)
  replace E1 := Lib.hid (E1.out.below hb)
  replace O1 := Lib.hid (O1.out.below hb)
  replace E5 := Lib.hid (E5.out.below hb)
  replace O5 := Lib.hid (O5.out.below hb)
  replace E6 := Lib.hid (E6.out.below hb)
  replace O6 := Lib.hid (O6.out.below hb)
  replace HB := Lib.hid (HB.out.trans (hb.mono HB.out.size))
  clear hb
  obtain ⟨q00, q01⟩ := OX.out.1
  obtain ⟨q10, q11⟩ := O1.out.1
  obtain ⟨q20, q21⟩ := O5.out.1
  obtain ⟨q30, q31⟩ := O6.out.1
  cases hq : (a2 != a1)
  · skip
    go_wp2_with fail
    refine (h7 _ _ EX.out).mono ?_
    rintro e V8 ⟨rfl, hb⟩
    clear q00 q01 q10 q11 q20 q21 q30 q31
    replace EX := Lib.hid (EX.out.below hb)
    replace OX := Lib.hid (OX.out.below hb)
    replace E1 := Lib.hid (E1.out.below hb)
    replace O1 := Lib.hid (O1.out.below hb)
    replace E5 := Lib.hid (E5.out.below hb)
    replace O5 := Lib.hid (O5.out.below hb)
    replace E6 := Lib.hid (E6.out.below hb)
    replace O6 := Lib.hid (O6.out.below hb)
    replace HB := Lib.hid (HB.out.trans (hb.mono HB.out.size))
    clear hb
    obtain ⟨q00, q01⟩ := OX.out.1
    obtain ⟨q10, q11⟩ := O1.out.1
    obtain ⟨q20, q21⟩ := O5.out.1
    obtain ⟨q30, q31⟩ := O6.out.1
    go_wp2_with fail
    refine (awake6 _).mono ?_
    rintro e V9 ⟨rfl, hb⟩
    clear q00 q01 q10 q11 q20 q21 q30 q31
    replace EX := Lib.hid (EX.out.below hb)
    replace OX := Lib.hid (OX.out.below hb)
    replace E1 := Lib.hid (E1.out.below hb)
    replace O1 := Lib.hid (O1.out.below hb)
    replace E5 := Lib.hid (E5.out.below hb)
    replace O5 := Lib.hid (O5.out.below hb)
    replace E6 := Lib.hid (E6.out.below hb)
    replace O6 := Lib.hid (O6.out.below hb)
    replace HB := Lib.hid (HB.out.trans (hb.mono HB.out.size))
    clear hb
    obtain ⟨q00, q01⟩ := OX.out.1
    obtain ⟨q10, q11⟩ := O1.out.1
    obtain ⟨q20, q21⟩ := O5.out.1
    obtain ⟨q30, q31⟩ := O6.out.1
    go_wp2_with fail
    refine (cK _ _ E1.out).mono ?_
    rintro e V10 ⟨rfl, hb⟩
    clear q00 q01 q10 q11 q20 q21 q30 q31
    replace EX := Lib.hid (EX.out.below hb)
    replace OX := Lib.hid (OX.out.below hb)
    replace E1 := Lib.hid (E1.out.below hb)
    replace O1 := Lib.hid (O1.out.below hb)
    replace E5 := Lib.hid (E5.out.below hb)
    replace O5 := Lib.hid (O5.out.below hb)
    replace E6 := Lib.hid (E6.out.below hb)
    replace O6 := Lib.hid (O6.out.below hb)
    replace HB := Lib.hid (HB.out.trans (hb.mono HB.out.size))
    clear hb
    obtain ⟨q00, q01⟩ := OX.out.1
    obtain ⟨q10, q11⟩ := O1.out.1
    obtain ⟨q20, q21⟩ := O5.out.1
    obtain ⟨q30, q31⟩ := O6.out.1
    go_wp2_with fail
    refine (rsame_true b0 _ _ z0 _ (HZ.out ▸ E5.out.1) EX.out.1 (by omega)).mono ?_
    rintro e V11 ⟨rfl, hb⟩
    clear q00 q01 q10 q11 q20 q21 q30 q31
    replace EX := Lib.hid (EX.out.below hb)
    replace OX := Lib.hid (OX.out.below hb)
    replace E1 := Lib.hid (E1.out.below hb)
    replace O1 := Lib.hid (O1.out.below hb)
    replace E5 := Lib.hid (E5.out.below hb)
    replace O5 := Lib.hid (O5.out.below hb)
    replace E6 := Lib.hid (E6.out.below hb)
    replace O6 := Lib.hid (O6.out.below hb)
    replace HB := Lib.hid (HB.out.trans (hb.mono HB.out.size))
    clear hb
    go_wp2_with fail
    go_ret
    exact ⟨rfl, HB.out⟩
  · skip
    go_wp2_with fail
    refine (h7 _ _ EX.out).mono ?_
    rintro e V8 ⟨rfl, hb⟩
    clear q00 q01 q10 q11 q20 q21 q30 q31
    replace EX := Lib.hid (EX.out.below hb)
    replace OX := Lib.hid (OX.out.below hb)
    replace E1 := Lib.hid (E1.out.below hb)
    replace O1 := Lib.hid (O1.out.below hb)
    replace E5 := Lib.hid (E5.out.below hb)
    replace O5 := Lib.hid (O5.out.below hb)
    replace E6 := Lib.hid (E6.out.below hb)
    replace O6 := Lib.hid (O6.out.below hb)
    replace HB := Lib.hid (HB.out.trans (hb.mono HB.out.size))
    clear hb
    obtain ⟨q00, q01⟩ := OX.out.1
    obtain ⟨q10, q11⟩ := O1.out.1
    obtain ⟨q20, q21⟩ := O5.out.1
    obtain ⟨q30, q31⟩ := O6.out.1
    go_wp2_with fail
    refine (awake6 _).mono ?_
    rintro e V9 ⟨rfl, hb⟩
    clear q00 q01 q10 q11 q20 q21 q30 q31
    replace EX := Lib.hid (EX.out.below hb)
    replace OX := Lib.hid (OX.out.below hb)
    replace E1 := Lib.hid (E1.out.below hb)
    replace O1 := Lib.hid (O1.out.below hb)
    replace E5 := Lib.hid (E5.out.below hb)
    replace O5 := Lib.hid (O5.out.below hb)
    replace E6 := Lib.hid (E6.out.below hb)
    replace O6 := Lib.hid (O6.out.below hb)
    replace HB := Lib.hid (HB.out.trans (hb.mono HB.out.size))
    clear hb
    obtain ⟨q00, q01⟩ := OX.out.1
    obtain ⟨q10, q11⟩ := O1.out.1
    obtain ⟨q20, q21⟩ := O5.out.1
    obtain ⟨q30, q31⟩ := O6.out.1
    go_wp2_with fail
    refine (cK _ _ E1.out).mono ?_
    rintro e V10 ⟨rfl, hb⟩
    clear q00 q01 q10 q11 q20 q21 q30 q31
    replace EX := Lib.hid (EX.out.below hb)
    replace OX := Lib.hid (OX.out.below hb)
    replace E1 := Lib.hid (E1.out.below hb)
    replace O1 := Lib.hid (O1.out.below hb)
    replace E5 := Lib.hid (E5.out.below hb)
    replace O5 := Lib.hid (O5.out.below hb)
    replace E6 := Lib.hid (E6.out.below hb)
    replace O6 := Lib.hid (O6.out.below hb)
    replace HB := Lib.hid (HB.out.trans (hb.mono HB.out.size))
    clear hb
    obtain ⟨q00, q01⟩ := OX.out.1
    obtain ⟨q10, q11⟩ := O1.out.1
    obtain ⟨q20, q21⟩ := O5.out.1
    obtain ⟨q30, q31⟩ := O6.out.1
    go_wp2_with fail
    refine (rsame_true b0 _ _ z0 _ (HZ.out ▸ E5.out.1) EX.out.1 (by omega)).mono ?_
    rintro e V11 ⟨rfl, hb⟩
    clear q00 q01 q10 q11 q20 q21 q30 q31
    replace EX := Lib.hid (EX.out.below hb)
    replace OX := Lib.hid (OX.out.below hb)
    replace E1 := Lib.hid (E1.out.below hb)
    replace O1 := Lib.hid (O1.out.below hb)
    replace E5 := Lib.hid (E5.out.below hb)
    replace O5 := Lib.hid (O5.out.below hb)
    replace E6 := Lib.hid (E6.out.below hb)
    replace O6 := Lib.hid (O6.out.below hb)
    replace HB := Lib.hid (HB.out.trans (hb.mono HB.out.size))
    clear hb
    go_wp2_with fail
    go_ret
    exact ⟨rfl, HB.out⟩

set_option maxHeartbeats 16000000 in
theorem case_dh (b0 : Int) (a0 : Option Addr) (cap0 : Nat) (z0 : List (Int × Int)) (a1 a2 a3 : Int) (w : World) (w0 : El w (.slice a0 z0.length cap0) z0) (h : ¬ (100 : Int) < (z0.length : Int)) (Y Zl : List (Int × Int)) (A : Int) (was : Bool) (B : Int) (is : Bool) (x7 : Int) (hq : (a2 != a1) = false) (hZ : Zl.length ≤ 3000) (c1 : ∀ W v, El W v z0 → Calls Try.prog 13 #[.agg #[.int .i64 b0, v], .int .i64 a1, .int .i64 a3] W (RetE W b0 Y 0)) (h1 : ∀ W v, El W v Y → Calls Try.prog 11 #[.agg #[.int .i64 b0, v], .int .i64 a1] W fun e w' => e = .returned (.tuple #[.int .i64 a3, .bool true]) ∧ Below W.heap.size W w') (h2 : ∀ W v, El W v z0 → Calls Try.prog 11 #[.agg #[.int .i64 b0, v], .int .i64 a2] W fun e w' => e = .returned (.tuple #[.int .i64 A, .bool was]) ∧ Below W.heap.size W w') (h3 : ∀ W v, El W v Y → Calls Try.prog 11 #[.agg #[.int .i64 b0, v], .int .i64 a2] W fun e w' => e = .returned (.tuple #[.int .i64 B, .bool is]) ∧ Below W.heap.size W w') (c4 : ∀ W v, El W v Y → Calls Try.prog 15 #[.agg #[.int .i64 b0, v], .int .i64 a1] W (RetE W b0 Zl 0)) (c5 : ∀ W v, El W v z0 → Calls Try.prog 15 #[.agg #[.int .i64 b0, v], .int .i64 a1] W (RetE W b0 Zl 0)) (h6 : ∀ W v, El W v Zl → Calls Try.prog 11 #[.agg #[.int .i64 b0, v], .int .i64 a1] W fun e w' => e = .returned (.tuple #[.int .i64 0, .bool false]) ∧ Below W.heap.size W w') (h7 : ∀ W v, El W v z0 → Calls Try.prog 11 #[.agg #[.int .i64 b0, v], .int .i64 a1] W fun e w' => e = .returned (.tuple #[.int .i64 x7, .bool true]) ∧ Below W.heap.size W w') (cK : ∀ W v, El W v Y → Calls Try.prog 17 #[.agg #[.int .i64 b0, v]] W fun e w' => e = .returned (.int .i64 0) ∧ Below W.heap.size W w') :
    Calls Try.prog 6 #[.agg #[.int .i64 b0, .slice a0 z0.length cap0], .int .i64 a1, .int .i64 a2, .int .i64 a3] w fun e w' => e = .returned (.bool true) ∧ Below w.heap.size w w' := by
  have EX := Lib.hid (w0.alloc (.cells #[.int .i64 b0, .slice a0 z0.length cap0] 24))
  have OX := Lib.hid (ownb2_alloc w b0 (.slice a0 z0.length cap0) 24 w.heap.size rfl)
  have HB : Hid (Below w.heap.size w (w.alloc (.cells #[.int .i64 b0, .slice a0 z0.length cap0] 24))) := (Below.refl _ w).alloc (Nat.le_refl _) _
  have e3 : (a3 != a3) = false := by simp
  clear w0
  go_enter Try.func6, Try.ntmps6
  go_wp2_with fail
  generalize w.alloc (.cells #[.int .i64 b0, .slice a0 z0.length cap0] 24) = U0 at *
  refine (c1 _ _ EX.out).mono ?_
  rintro e V1 ⟨y1, t1, rfl, ho, hb⟩
  replace EX := Lib.hid (EX.out.below hb)
  replace OX := Lib.hid (OX.out.below hb)
  replace HB := Lib.hid (HB.out.trans (hb.mono HB.out.size))
  have E1 := Lib.hid ho.el
  clear ho hb
  have hal : Below V1.heap.size V1 (V1.alloc (.cells #[.int .i64 b0, .slice y1 Y.length t1] 24)) := (Below.refl _ V1).alloc (Nat.le_refl _) _
  have O1 := Lib.hid (ownb2_alloc V1 b0 (.slice y1 Y.length t1) 24 V1.heap.size rfl)
  replace EX := Lib.hid (EX.out.below hal)
  replace OX := Lib.hid (OX.out.below hal)
  replace E1 := Lib.hid (E1.out.below hal)
  replace HB := Lib.hid (HB.out.trans (hal.mono HB.out.size))
  clear hal
  obtain ⟨X1, hX⟩ : ∃ X1, V1.heap.size = X1 := ⟨_, rfl⟩
  rw [hX] at O1
  obtain ⟨q00, q01⟩ := OX.out.1
  obtain ⟨q10, q11⟩ := O1.out.1
  go_wp2_with fail
  clear hX
  generalize V1.alloc (.cells #[.int .i64 b0, .slice y1 Y.length t1] 24) = U1 at *
  refine (h1 _ _ E1.out).mono ?_
  rintro e V2 ⟨rfl, hb⟩
  clear q00 q01 q10 q11
  replace EX := Lib.hid (EX.out.below hb)
  replace OX := Lib.hid (OX.out.below hb)
  replace E1 := Lib.hid (E1.out.below hb)
  replace O1 := Lib.hid (O1.out.below hb)
  replace HB := Lib.hid (HB.out.trans (hb.mono HB.out.size))
  clear hb
  obtain ⟨q00, q01⟩ := OX.out.1
  obtain ⟨q10, q11⟩ := O1.out.1
  go_wp2_with fail
  refine (h2 _ _ EX.out).mono ?_
  rintro e V3 ⟨rfl, hb⟩
  clear q00 q01 q10 q11
  replace EX := Lib.hid (EX.out.below hb)
  replace OX := Lib.hid (OX.out.below hb)
  replace E1 := Lib.hid (E1.out.below hb)
  replace O1 := Lib.hid (O1.out.below hb)
  replace HB := Lib.hid (HB.out.trans (hb.mono HB.out.size))
  clear hb
  obtain ⟨q00, q01⟩ := OX.out.1
  obtain ⟨q10, q11⟩ := O1.out.1
  go_wp2_with fail
  refine (h3 _ _ E1.out).mono ?_
  rintro e V4 ⟨rfl, hb⟩
  clear q00 q01 q10 q11
  replace EX := Lib.hid (EX.out.below hb)
  replace OX := Lib.hid (OX.out.below hb)
  replace E1 := Lib.hid (E1.out.below hb)
  replace O1 := Lib.hid (O1.out.below hb)
  replace HB := Lib.hid (HB.out.trans (hb.mono HB.out.size))
  clear hb
  obtain ⟨q00, q01⟩ := OX.out.1
  obtain ⟨q10, q11⟩ := O1.out.1
  go_wp2_with fail
  refine (c4 _ _ E1.out).mono ?_
  rintro e V5 ⟨y5, t5, rfl, ho, hb⟩
  clear q00 q01 q10 q11
  replace EX := Lib.hid (EX.out.below hb)
  replace OX := Lib.hid (OX.out.below hb)
  replace E1 := Lib.hid (E1.out.below hb)
  replace O1 := Lib.hid (O1.out.below hb)
  replace HB := Lib.hid (HB.out.trans (hb.mono HB.out.size))
  have E5 := Lib.hid ho.el
  clear ho hb
  have hal : Below V5.heap.size V5 (V5.alloc (.cells #[.int .i64 b0, .slice y5 Zl.length t5] 24)) := (Below.refl _ V5).alloc (Nat.le_refl _) _
  have O5 := Lib.hid (ownb2_alloc V5 b0 (.slice y5 Zl.length t5) 24 V5.heap.size rfl)
  replace EX := Lib.hid (EX.out.below hal)
  replace OX := Lib.hid (OX.out.below hal)
  replace E1 := Lib.hid (E1.out.below hal)
  replace O1 := Lib.hid (O1.out.below hal)
  replace E5 := Lib.hid (E5.out.below hal)
  replace HB := Lib.hid (HB.out.trans (hal.mono HB.out.size))
  clear hal
  obtain ⟨X5, hX⟩ : ∃ X5, V5.heap.size = X5 := ⟨_, rfl⟩
  rw [hX] at O5
  obtain ⟨q00, q01⟩ := OX.out.1
  obtain ⟨q10, q11⟩ := O1.out.1
  obtain ⟨q20, q21⟩ := O5.out.1
  go_wp2_with fail
  clear hX
  generalize V5.alloc (.cells #[.int .i64 b0, .slice y5 Zl.length t5] 24) = U5 at *
  refine (c5 _ _ EX.out).mono ?_
  rintro e V6 ⟨y6, t6, rfl, ho, hb⟩
  clear q00 q01 q10 q11 q20 q21
  replace EX := Lib.hid (EX.out.below hb)
  replace OX := Lib.hid (OX.out.below hb)
  replace E1 := Lib.hid (E1.out.below hb)
  replace O1 := Lib.hid (O1.out.below hb)
  replace E5 := Lib.hid (E5.out.below hb)
  replace O5 := Lib.hid (O5.out.below hb)
  replace HB := Lib.hid (HB.out.trans (hb.mono HB.out.size))
  have E6 := Lib.hid ho.el
  clear ho hb
  have hal : Below V6.heap.size V6 (V6.alloc (.cells #[.int .i64 b0, .slice y6 Zl.length t6] 24)) := (Below.refl _ V6).alloc (Nat.le_refl _) _
  have O6 := Lib.hid (ownb2_alloc V6 b0 (.slice y6 Zl.length t6) 24 V6.heap.size rfl)
  replace EX := Lib.hid (EX.out.below hal)
  replace OX := Lib.hid (OX.out.below hal)
  replace E1 := Lib.hid (E1.out.below hal)
  replace O1 := Lib.hid (O1.out.below hal)
  replace E5 := Lib.hid (E5.out.below hal)
  replace O5 := Lib.hid (O5.out.below hal)
  replace E6 := Lib.hid (E6.out.below hal)
  replace HB := Lib.hid (HB.out.trans (hal.mono HB.out.size))
  clear hal
  obtain ⟨X6, hX⟩ : ∃ X6, V6.heap.size = X6 := ⟨_, rfl⟩
  rw [hX] at O6
  obtain ⟨q00, q01⟩ := OX.out.1
  obtain ⟨q10, q11⟩ := O1.out.1
  obtain ⟨q20, q21⟩ := O5.out.1
  obtain ⟨q30, q31⟩ := O6.out.1
  go_wp2_with fail
  clear hX
  generalize V6.alloc (.cells #[.int .i64 b0, .slice y6 Zl.length t6] 24) = U6 at *
  refine (h6 _ _ E5.out).mono ?_
  rintro e V7 ⟨rfl, hb⟩
  clear q00 q01 q10 q11 q20 q21 q30 q31
  replace EX := Lib.hid (EX.out.below hb)
  replace OX := Lib.hid (OX.out.below hb)
  replace E1 := Lib.hid (E1.out.below hb)
  replace O1 := Lib.hid (O1.out.below hb)
  replace E5 := Lib.hid (E5.out.below hb)
  replace O5 := Lib.hid (O5.out.below hb)
  replace E6 := Lib.hid (E6.out.below hb)
  replace O6 := Lib.hid (O6.out.below hb)
  replace HB := Lib.hid (HB.out.trans (hb.mono HB.out.size))
  clear hb
  obtain ⟨q00, q01⟩ := OX.out.1
  obtain ⟨q10, q11⟩ := O1.out.1
  obtain ⟨q20, q21⟩ := O5.out.1
  obtain ⟨q30, q31⟩ := O6.out.1
  go_wp2_with fail
  refine (h7 _ _ EX.out).mono ?_
  rintro e V8 ⟨rfl, hb⟩
  clear q00 q01 q10 q11 q20 q21 q30 q31
  replace EX := Lib.hid (EX.out.below hb)
  replace OX := Lib.hid (OX.out.below hb)
  replace E1 := Lib.hid (E1.out.below hb)
  replace O1 := Lib.hid (O1.out.below hb)
  replace E5 := Lib.hid (E5.out.below hb)
  replace O5 := Lib.hid (O5.out.below hb)
  replace E6 := Lib.hid (E6.out.below hb)
  replace O6 := Lib.hid (O6.out.below hb)
  replace HB := Lib.hid (HB.out.trans (hb.mono HB.out.size))
  clear hb
  obtain ⟨q00, q01⟩ := OX.out.1
  obtain ⟨q10, q11⟩ := O1.out.1
  obtain ⟨q20, q21⟩ := O5.out.1
  obtain ⟨q30, q31⟩ := O6.out.1
  go_wp2_with fail
  refine (awake6 _).mono ?_
  rintro e V9 ⟨rfl, hb⟩
  clear q00 q01 q10 q11 q20 q21 q30 q31
  replace EX := Lib.hid (EX.out.below hb)
  replace OX := Lib.hid (OX.out.below hb)
  replace E1 := Lib.hid (E1.out.below hb)
  replace O1 := Lib.hid (O1.out.below hb)
  replace E5 := Lib.hid (E5.out.below hb)
  replace O5 := Lib.hid (O5.out.below hb)
  replace E6 := Lib.hid (E6.out.below hb)
  replace O6 := Lib.hid (O6.out.below hb)
  replace HB := Lib.hid (HB.out.trans (hb.mono HB.out.size))
  clear hb
  obtain ⟨q00, q01⟩ := OX.out.1
  obtain ⟨q10, q11⟩ := O1.out.1
  obtain ⟨q20, q21⟩ := O5.out.1
  obtain ⟨q30, q31⟩ := O6.out.1
  go_wp2_with fail
  refine (cK _ _ E1.out).mono ?_
  rintro e V10 ⟨rfl, hb⟩
  clear q00 q01 q10 q11 q20 q21 q30 q31
  replace EX := Lib.hid (EX.out.below hb)
  replace OX := Lib.hid (OX.out.below hb)
  replace E1 := Lib.hid (E1.out.below hb)
  replace O1 := Lib.hid (O1.out.below hb)
  replace E5 := Lib.hid (E5.out.below hb)
  replace O5 := Lib.hid (O5.out.below hb)
  replace E6 := Lib.hid (E6.out.below hb)
  replace O6 := Lib.hid (O6.out.below hb)
  replace HB := Lib.hid (HB.out.trans (hb.mono HB.out.size))
  clear hb
  obtain ⟨q00, q01⟩ := OX.out.1
  obtain ⟨q10, q11⟩ := O1.out.1
  obtain ⟨q20, q21⟩ := O5.out.1
  obtain ⟨q30, q31⟩ := O6.out.1
  go_wp2_with fail
  refine (rsame_true b0 _ _ Zl _ E5.out.1 E6.out.1 hZ).mono ?_
  rintro e V11 ⟨rfl, hb⟩
  clear q00 q01 q10 q11 q20 q21 q30 q31
  replace EX := Lib.hid (EX.out.below hb)
  replace OX := Lib.hid (OX.out.below hb)
  replace E1 := Lib.hid (E1.out.below hb)
  replace O1 := Lib.hid (O1.out.below hb)
  replace E5 := Lib.hid (E5.out.below hb)
  replace O5 := Lib.hid (O5.out.below hb)
  replace E6 := Lib.hid (E6.out.below hb)
  replace O6 := Lib.hid (O6.out.below hb)
  replace HB := Lib.hid (HB.out.trans (hb.mono HB.out.size))
  clear hb
  go_wp2_with fail
  go_ret
  exact ⟨rfl, HB.out⟩

set_option maxHeartbeats 16000000 in
theorem case_dn (b0 : Int) (a0 : Option Addr) (cap0 : Nat) (z0 : List (Int × Int)) (a1 a2 a3 : Int) (w : World) (w0 : El w (.slice a0 z0.length cap0) z0) (h : ¬ (100 : Int) < (z0.length : Int)) (Y Zl : List (Int × Int)) (A : Int) (was : Bool) (B : Int) (is : Bool) (x7 : Int) (m5 : Int) (l5 : List (Int × Int)) (hq : (a2 != a1) = false) (hZ : Zl = z0) (c1 : ∀ W v, El W v z0 → Calls Try.prog 13 #[.agg #[.int .i64 b0, v], .int .i64 a1, .int .i64 a3] W (RetE W b0 Y 0)) (h1 : ∀ W v, El W v Y → Calls Try.prog 11 #[.agg #[.int .i64 b0, v], .int .i64 a1] W fun e w' => e = .returned (.tuple #[.int .i64 a3, .bool true]) ∧ Below W.heap.size W w') (h2 : ∀ W v, El W v z0 → Calls Try.prog 11 #[.agg #[.int .i64 b0, v], .int .i64 a2] W fun e w' => e = .returned (.tuple #[.int .i64 A, .bool was]) ∧ Below W.heap.size W w') (h3 : ∀ W v, El W v Y → Calls Try.prog 11 #[.agg #[.int .i64 b0, v], .int .i64 a2] W fun e w' => e = .returned (.tuple #[.int .i64 B, .bool is]) ∧ Below W.heap.size W w') (c4 : ∀ W v, El W v Y → Calls Try.prog 15 #[.agg #[.int .i64 b0, v], .int .i64 a1] W (RetE W b0 Zl 0)) (c5 : ∀ W v, El W v z0 → Calls Try.prog 15 #[.agg #[.int .i64 b0, v], .int .i64 a1] W (RetE W m5 l5 7)) (h6 : ∀ W v, El W v Zl → Calls Try.prog 11 #[.agg #[.int .i64 b0, v], .int .i64 a1] W fun e w' => e = .returned (.tuple #[.int .i64 0, .bool false]) ∧ Below W.heap.size W w') (h7 : ∀ W v, El W v z0 → Calls Try.prog 11 #[.agg #[.int .i64 b0, v], .int .i64 a1] W fun e w' => e = .returned (.tuple #[.int .i64 x7, .bool false]) ∧ Below W.heap.size W w') (cK : ∀ W v, El W v Y → Calls Try.prog 17 #[.agg #[.int .i64 b0, v]] W fun e w' => e = .returned (.int .i64 0) ∧ Below W.heap.size W w') :
    Calls Try.prog 6 #[.agg #[.int .i64 b0, .slice a0 z0.length cap0], .int .i64 a1, .int .i64 a2, .int .i64 a3] w fun e w' => e = .returned (.bool true) ∧ Below w.heap.size w w' := by
  have EX := Lib.hid (w0.alloc (.cells #[.int .i64 b0, .slice a0 z0.length cap0] 24))
  have OX := Lib.hid (ownb2_alloc w b0 (.slice a0 z0.length cap0) 24 w.heap.size rfl)
  have HB : Hid (Below w.heap.size w (w.alloc (.cells #[.int .i64 b0, .slice a0 z0.length cap0] 24))) := (Below.refl _ w).alloc (Nat.le_refl _) _
  have e3 : (a3 != a3) = false := by simp
  have HZ := Lib.hid hZ
  clear hZ
  clear w0
  go_enter Try.func6, Try.ntmps6
  go_wp2_with fail
  generalize w.alloc (.cells #[.int .i64 b0, .slice a0 z0.length cap0] 24) = U0 at *
  refine (c1 _ _ EX.out).mono ?_
  rintro e V1 ⟨y1, t1, rfl, ho, hb⟩
  replace EX := Lib.hid (EX.out.below hb)
  replace OX := Lib.hid (OX.out.below hb)
  replace HB := Lib.hid (HB.out.trans (hb.mono HB.out.size))
  have E1 := Lib.hid ho.el
  clear ho hb
  have hal : Below V1.heap.size V1 (V1.alloc (.cells #[.int .i64 b0, .slice y1 Y.length t1] 24)) := (Below.refl _ V1).alloc (Nat.le_refl _) _
  have O1 := Lib.hid (ownb2_alloc V1 b0 (.slice y1 Y.length t1) 24 V1.heap.size rfl)
  replace EX := Lib.hid (EX.out.below hal)
  replace OX := Lib.hid (OX.out.below hal)
  replace E1 := Lib.hid (E1.out.below hal)
  replace HB := Lib.hid (HB.out.trans (hal.mono HB.out.size))
  clear hal
  obtain ⟨X1, hX⟩ : ∃ X1, V1.heap.size = X1 := ⟨_, rfl⟩
  rw [hX] at O1
  obtain ⟨q00, q01⟩ := OX.out.1
  obtain ⟨q10, q11⟩ := O1.out.1
  go_wp2_with fail
  clear hX
  generalize V1.alloc (.cells #[.int .i64 b0, .slice y1 Y.length t1] 24) = U1 at *
  refine (h1 _ _ E1.out).mono ?_
  rintro e V2 ⟨rfl, hb⟩
  clear q00 q01 q10 q11
  replace EX := Lib.hid (EX.out.below hb)
  replace OX := Lib.hid (OX.out.below hb)
  replace E1 := Lib.hid (E1.out.below hb)
  replace O1 := Lib.hid (O1.out.below hb)
  replace HB := Lib.hid (HB.out.trans (hb.mono HB.out.size))
  clear hb
  obtain ⟨q00, q01⟩ := OX.out.1
  obtain ⟨q10, q11⟩ := O1.out.1
  go_wp2_with fail
  refine (h2 _ _ EX.out).mono ?_
  rintro e V3 ⟨rfl, hb⟩
  clear q00 q01 q10 q11
  replace EX := Lib.hid (EX.out.below hb)
  replace OX := Lib.hid (OX.out.below hb)
  replace E1 := Lib.hid (E1.out.below hb)
  replace O1 := Lib.hid (O1.out.below hb)
  replace HB := Lib.hid (HB.out.trans (hb.mono HB.out.size))
  clear hb
  obtain ⟨q00, q01⟩ := OX.out.1
  obtain ⟨q10, q11⟩ := O1.out.1
  go_wp2_with fail
  refine (h3 _ _ E1.out).mono ?_
  rintro e V4 ⟨rfl, hb⟩
  clear q00 q01 q10 q11
  replace EX := Lib.hid (EX.out.below hb)
  replace OX := Lib.hid (OX.out.below hb)
  replace E1 := Lib.hid (E1.out.below hb)
  replace O1 := Lib.hid (O1.out.below hb)
  replace HB := Lib.hid (HB.out.trans (hb.mono HB.out.size))
  clear hb
  obtain ⟨q00, q01⟩ := OX.out.1
  obtain ⟨q10, q11⟩ := O1.out.1
  go_wp2_with fail
  refine (c4 _ _ E1.out).mono ?_
  rintro e V5 ⟨y5, t5, rfl, ho, hb⟩
  clear q00 q01 q10 q11
  replace EX := Lib.hid (EX.out.below hb)
  replace OX := Lib.hid (OX.out.below hb)
  replace E1 := Lib.hid (E1.out.below hb)
  replace O1 := Lib.hid (O1.out.below hb)
  replace HB := Lib.hid (HB.out.trans (hb.mono HB.out.size))
  have E5 := Lib.hid ho.el
  clear ho hb
  have hal : Below V5.heap.size V5 (V5.alloc (.cells #[.int .i64 b0, .slice y5 Zl.length t5] 24)) := (Below.refl _ V5).alloc (Nat.le_refl _) _
  have O5 := Lib.hid (ownb2_alloc V5 b0 (.slice y5 Zl.length t5) 24 V5.heap.size rfl)
  replace EX := Lib.hid (EX.out.below hal)
  replace OX := Lib.hid (OX.out.below hal)
  replace E1 := Lib.hid (E1.out.below hal)
  replace O1 := Lib.hid (O1.out.below hal)
  replace E5 := Lib.hid (E5.out.below hal)
  replace HB := Lib.hid (HB.out.trans (hal.mono HB.out.size))
  clear hal
  obtain ⟨X5, hX⟩ : ∃ X5, V5.heap.size = X5 := ⟨_, rfl⟩
  rw [hX] at O5
  obtain ⟨q00, q01⟩ := OX.out.1
  obtain ⟨q10, q11⟩ := O1.out.1
  obtain ⟨q20, q21⟩ := O5.out.1
  go_wp2_with fail
  clear hX
  generalize V5.alloc (.cells #[.int .i64 b0, .slice y5 Zl.length t5] 24) = U5 at *
  refine (c5 _ _ EX.out).mono ?_
  rintro e V6 ⟨y6, t6, rfl, ho, hb⟩
  clear q00 q01 q10 q11 q20 q21
  replace EX := Lib.hid (EX.out.below hb)
  replace OX := Lib.hid (OX.out.below hb)
  replace E1 := Lib.hid (E1.out.below hb)
  replace O1 := Lib.hid (O1.out.below hb)
  replace E5 := Lib.hid (E5.out.below hb)
  replace O5 := Lib.hid (O5.out.below hb)
  replace HB := Lib.hid (HB.out.trans (hb.mono HB.out.size))
  have E6 := Lib.hid ho.el
  clear ho hb
  have hal : Below V6.heap.size V6 (V6.alloc (.cells #[.int .i64 m5, .slice y6 l5.length t6] 24)) := (Below.refl _ V6).alloc (Nat.le_refl _) _
  have O6 := Lib.hid (ownb2_alloc V6 m5 (.slice y6 l5.length t6) 24 V6.heap.size rfl)
  replace EX := Lib.hid (EX.out.below hal)
  replace OX := Lib.hid (OX.out.below hal)
  replace E1 := Lib.hid (E1.out.below hal)
  replace O1 := Lib.hid (O1.out.below hal)
  replace E5 := Lib.hid (E5.out.below hal)
  replace O5 := Lib.hid (O5.out.below hal)
  replace E6 := Lib.hid (E6.out.below hal)
  replace HB := Lib.hid (HB.out.trans (hal.mono HB.out.size))
  clear hal
  obtain ⟨X6, hX⟩ : ∃ X6, V6.heap.size = X6 := ⟨_, rfl⟩
  rw [hX] at O6
  obtain ⟨q00, q01⟩ := OX.out.1
  obtain ⟨q10, q11⟩ := O1.out.1
  obtain ⟨q20, q21⟩ := O5.out.1
  obtain ⟨q30, q31⟩ := O6.out.1
  go_wp2_with fail
  clear hX
  generalize V6.alloc (.cells #[.int .i64 m5, .slice y6 l5.length t6] 24) = U6 at *
  refine (h6 _ _ E5.out).mono ?_
  rintro e V7 ⟨rfl, hb⟩
  clear q00 q01 q10 q11 q20 q21 q30 q31
  replace EX := Lib.hid (EX.out.below hb)
  replace OX := Lib.hid (OX.out.below hb)
  replace E1 := Lib.hid (E1.out.below hb)
  replace O1 := Lib.hid (O1.out.below hb)
  replace E5 := Lib.hid (E5.out.below hb)
  replace O5 := Lib.hid (O5.out.below hb)
  replace E6 := Lib.hid (E6.out.below hb)
  replace O6 := Lib.hid (O6.out.below hb)
  replace HB := Lib.hid (HB.out.trans (hb.mono HB.out.size))
  clear hb
  obtain ⟨q00, q01⟩ := OX.out.1
  obtain ⟨q10, q11⟩ := O1.out.1
  obtain ⟨q20, q21⟩ := O5.out.1
  obtain ⟨q30, q31⟩ := O6.out.1
  go_wp2_with fail
  refine (h7 _ _ EX.out).mono ?_
  rintro e V8 ⟨rfl, hb⟩
  clear q00 q01 q10 q11 q20 q21 q30 q31
  replace EX := Lib.hid (EX.out.below hb)
  replace OX := Lib.hid (OX.out.below hb)
  replace E1 := Lib.hid (E1.out.below hb)
  replace O1 := Lib.hid (O1.out.below hb)
  replace E5 := Lib.hid (E5.out.below hb)
  replace O5 := Lib.hid (O5.out.below hb)
  replace E6 := Lib.hid (E6.out.below hb)
  replace O6 := Lib.hid (O6.out.below hb)
  replace HB := Lib.hid (HB.out.trans (hb.mono HB.out.size))
  clear hb
  obtain ⟨q00, q01⟩ := OX.out.1
  obtain ⟨q10, q11⟩ := O1.out.1
  obtain ⟨q20, q21⟩ := O5.out.1
  obtain ⟨q30, q31⟩ := O6.out.1
  go_wp2_with fail
  refine (awake6 _).mono ?_
  rintro e V9 ⟨rfl, hb⟩
  clear q00 q01 q10 q11 q20 q21 q30 q31
  replace EX := Lib.hid (EX.out.below hb)
  replace OX := Lib.hid (OX.out.below hb)
  replace E1 := Lib.hid (E1.out.below hb)
  replace O1 := Lib.hid (O1.out.below hb)
  replace E5 := Lib.hid (E5.out.below hb)
  replace O5 := Lib.hid (O5.out.below hb)
  replace E6 := Lib.hid (E6.out.below hb)
  replace O6 := Lib.hid (O6.out.below hb)
  replace HB := Lib.hid (HB.out.trans (hb.mono HB.out.size))
  clear hb
  obtain ⟨q00, q01⟩ := OX.out.1
  obtain ⟨q10, q11⟩ := O1.out.1
  obtain ⟨q20, q21⟩ := O5.out.1
  obtain ⟨q30, q31⟩ := O6.out.1
  go_wp2_with fail
  refine (cK _ _ E1.out).mono ?_
  rintro e V10 ⟨rfl, hb⟩
  clear q00 q01 q10 q11 q20 q21 q30 q31
  replace EX := Lib.hid (EX.out.below hb)
  replace OX := Lib.hid (OX.out.below hb)
  replace E1 := Lib.hid (E1.out.below hb)
  replace O1 := Lib.hid (O1.out.below hb)
  replace E5 := Lib.hid (E5.out.below hb)
  replace O5 := Lib.hid (O5.out.below hb)
  replace E6 := Lib.hid (E6.out.below hb)
  replace O6 := Lib.hid (O6.out.below hb)
  replace HB := Lib.hid (HB.out.trans (hb.mono HB.out.size))
  clear hb
  obtain ⟨q00, q01⟩ := OX.out.1
  obtain ⟨q10, q11⟩ := O1.out.1
  obtain ⟨q20, q21⟩ := O5.out.1
  obtain ⟨q30, q31⟩ := O6.out.1
  go_wp2_with fail
  refine (rsame_true b0 _ _ z0 _ (HZ.out ▸ E5.out.1) EX.out.1 (by omega)).mono ?_
  rintro e V11 ⟨rfl, hb⟩
  clear q00 q01 q10 q11 q20 q21 q30 q31
  replace EX := Lib.hid (EX.out.below hb)
  replace OX := Lib.hid (OX.out.below hb)
  replace E1 := Lib.hid (E1.out.below hb)
  replace O1 := Lib.hid (O1.out.below hb)
  replace E5 := Lib.hid (E5.out.below hb)
  replace O5 := Lib.hid (O5.out.below hb)
  replace E6 := Lib.hid (E6.out.below hb)
  replace O6 := Lib.hid (O6.out.below hb)
  replace HB := Lib.hid (HB.out.trans (hb.mono HB.out.size))
  clear hb
  go_wp2_with fail
  go_ret
  exact ⟨rfl, HB.out⟩

theorem walk (b0 : Int) (a0 : Option Addr) (cap0 : Nat) (z0 : List (Int × Int)) (a1 : Int) (w1 : I64 a1) (a2 : Int) (w2 : I64 a2) (a3 : Int) (w3 : I64 a3) (w : World) (w0 : El w (.slice a0 z0.length cap0) z0) :
    Calls Try.prog 6 #[.agg #[.int .i64 b0, .slice a0 z0.length cap0], .int .i64 a1, .int .i64 a2, .int .i64 a3] w fun e w' => e = .returned (.bool true) ∧ Below w.heap.size w w' := by
  by_cases h : (100 : Int) < (z0.length : Int)
  · exact early b0 a0 cap0 z0 a1 a2 a3 w h
  have hl : z0.length ≤ 100 := by omega
  have l1 := wL_len b0 z0 a1 a3
  by_cases hA : WiOk b0 z0 a1 a3
  · have eA : wM b0 z0 a1 a3 = b0 ∧ wL b0 z0 a1 a3 = winF z0 a1 a3 ∧ wK b0 z0 a1 a3 = 0 := ⟨if_pos hA, if_pos hA, if_pos hA⟩
    have iA := (winF_ok hA.1 a1 a3).1 hA.2
    rw [eA.2.1] at l1
    have hol : (wout z0 a1).length ≤ 100 := Nat.le_trans (List.length_filter_le _ _) hl
    have cWo : ∀ W v, El W v (winF z0 a1 a3) → Calls Try.prog 15 #[.agg #[.int .i64 b0, v], .int .i64 a1] W (RetE W b0 (wout z0 a1) 0) := by
      intro W v hv
      have := without_fix b0 v _ a1 W hv (by omega)
      have hn : hear (winF z0 a1 a3) a1 ≠ none := by rw [hear_win hA.1 iA]; exact fun e => by cases e
      unfold oM oL oK at this
      rw [if_pos hA.2, if_pos hA.2, if_pos hA.2, if_neg hn, if_neg hn, if_neg hn, wout_win hA.1 iA] at this
      exact this
    by_cases hne : a2 = a1
    · have hq : (a2 != a1) = false := by simpa using hne
      by_cases hh : hear z0 a1 = none
      · exact case_dn b0 a0 cap0 z0 a1 a2 a3 w w0 h (winF z0 a1 a3) (wout z0 a1) ((hear z0 a2).getD 0) (hear z0 a2).isSome ((hear (winF z0 a1 a3) a2).getD 0) (hear (winF z0 a1 a3) a2).isSome ((hear z0 a1).getD 0) (oM b0 z0 a1) (oL b0 z0 a1) hq (wout_self hh) (by intro W v hv; have := with_fix b0 v z0 a1 a3 W hv (by omega); rwa [eA.1, eA.2.1, eA.2.2] at this) (by intro W v hv; have := heard_any b0 v _ a1 W hv (by omega); rw [hear_win hA.1 iA] at this; exact this) (by intro W v hv; exact heard_any b0 v z0 a2 W hv (by omega)) (by intro W v hv; exact heard_any b0 v _ a2 W hv (by omega)) cWo (by intro W v hv; have := without_fix b0 v z0 a1 W hv (by omega); rw [show oK b0 z0 a1 = 7 by unfold oK; rw [if_pos hA.1, if_pos hh]] at this; exact this) (by intro W v hv; have := heard_any b0 v _ a1 W hv (by have := hol; omega); rw [hear_wout] at this; exact this) (by intro W v hv; have := heard_any b0 v z0 a1 W hv (by omega); rw [show (hear z0 a1).isSome = false by rw [hh]; rfl] at this; exact this) (by intro W v hv; have := check_fix b0 v _ true ⟨fun _ => hA.2, fun _ => rfl⟩ W hv (by omega); simpa using this)
      · exact case_dh b0 a0 cap0 z0 a1 a2 a3 w w0 h (winF z0 a1 a3) (wout z0 a1) ((hear z0 a2).getD 0) (hear z0 a2).isSome ((hear (winF z0 a1 a3) a2).getD 0) (hear (winF z0 a1 a3) a2).isSome ((hear z0 a1).getD 0) hq (by have := hol; omega) (by intro W v hv; have := with_fix b0 v z0 a1 a3 W hv (by omega); rwa [eA.1, eA.2.1, eA.2.2] at this) (by intro W v hv; have := heard_any b0 v _ a1 W hv (by omega); rw [hear_win hA.1 iA] at this; exact this) (by intro W v hv; exact heard_any b0 v z0 a2 W hv (by omega)) (by intro W v hv; exact heard_any b0 v _ a2 W hv (by omega)) cWo (by intro W v hv; have := without_fix b0 v z0 a1 W hv (by omega); unfold oM oL oK at this; rw [if_pos hA.1, if_pos hA.1, if_pos hA.1, if_neg hh, if_neg hh, if_neg hh] at this; exact this) (by intro W v hv; have := heard_any b0 v _ a1 W hv (by have := hol; omega); rw [hear_wout] at this; exact this) (by intro W v hv; have := heard_any b0 v z0 a1 W hv (by omega); rw [show (hear z0 a1).isSome = true from Option.isSome_iff_ne_none.2 hh] at this; exact this) (by intro W v hv; have := check_fix b0 v _ true ⟨fun _ => hA.2, fun _ => rfl⟩ W hv (by omega); simpa using this)
    · by_cases hh : hear z0 a1 = none
      · exact case_sn b0 a0 cap0 z0 a1 a2 a3 w w0 h (winF z0 a1 a3) (wout z0 a1) ((hear z0 a2).getD 0) (hear z0 a2).isSome ((hear z0 a1).getD 0) (oM b0 z0 a1) (oL b0 z0 a1) (wout_self hh) (by intro W v hv; have := with_fix b0 v z0 a1 a3 W hv (by omega); rwa [eA.1, eA.2.1, eA.2.2] at this) (by intro W v hv; have := heard_any b0 v _ a1 W hv (by omega); rw [hear_win hA.1 iA] at this; exact this) (by intro W v hv; exact heard_any b0 v z0 a2 W hv (by omega)) (by intro W v hv; have := heard_any b0 v _ a2 W hv (by omega); rw [hear_win_ne hA.1 iA hne] at this; exact this) cWo (by intro W v hv; have := without_fix b0 v z0 a1 W hv (by omega); rw [show oK b0 z0 a1 = 7 by unfold oK; rw [if_pos hA.1, if_pos hh]] at this; exact this) (by intro W v hv; have := heard_any b0 v _ a1 W hv (by have := hol; omega); rw [hear_wout] at this; exact this) (by intro W v hv; have := heard_any b0 v z0 a1 W hv (by omega); rw [show (hear z0 a1).isSome = false by rw [hh]; rfl] at this; exact this) (by intro W v hv; have := check_fix b0 v _ true ⟨fun _ => hA.2, fun _ => rfl⟩ W hv (by omega); simpa using this)
      · exact case_sh b0 a0 cap0 z0 a1 a2 a3 w w0 h (winF z0 a1 a3) (wout z0 a1) ((hear z0 a2).getD 0) (hear z0 a2).isSome ((hear z0 a1).getD 0) (by have := hol; omega) (by intro W v hv; have := with_fix b0 v z0 a1 a3 W hv (by omega); rwa [eA.1, eA.2.1, eA.2.2] at this) (by intro W v hv; have := heard_any b0 v _ a1 W hv (by omega); rw [hear_win hA.1 iA] at this; exact this) (by intro W v hv; exact heard_any b0 v z0 a2 W hv (by omega)) (by intro W v hv; have := heard_any b0 v _ a2 W hv (by omega); rw [hear_win_ne hA.1 iA hne] at this; exact this) cWo (by intro W v hv; have := without_fix b0 v z0 a1 W hv (by omega); unfold oM oL oK at this; rw [if_pos hA.1, if_pos hA.1, if_pos hA.1, if_neg hh, if_neg hh, if_neg hh] at this; exact this) (by intro W v hv; have := heard_any b0 v _ a1 W hv (by have := hol; omega); rw [hear_wout] at this; exact this) (by intro W v hv; have := heard_any b0 v z0 a1 W hv (by omega); rw [show (hear z0 a1).isSome = true from Option.isSome_iff_ne_none.2 hh] at this; exact this) (by intro W v hv; have := check_fix b0 v _ true ⟨fun _ => hA.2, fun _ => rfl⟩ W hv (by omega); simpa using this)
  · refine case_no b0 a0 cap0 z0 a1 a2 a3 w w0 h fun W v hv => ?_
    have := with_fix b0 v z0 a1 a3 W hv (by omega)
    rwa [show wM b0 z0 a1 a3 = 0 from if_neg hA, show wL b0 z0 a1 a3 = [] from if_neg hA, show wK b0 z0 a1 a3 = 1 from if_neg hA] at this

set_option maxRecDepth 100000 in
theorem lifted (os : _root_.Go.Os) (started : os.Started) (H : Type) (enc : TypeId × Value → H) :
    ReturnsInHanded {} Try.checked os 6 .any (Rows.beaconHearsSpec.pre6 enc Try.prog Try.f6 Rows.beaconHearsRow.domain false) (Rows.beaconHearsSpec.post enc Try.prog Try.f6 false true false false) := by
  refine returnsInHanded_of_change (C := Try.checked) own started (by kernel_rfl) Try.func6
    (ChangeSpec.witness6 (enc := enc) (C := Try.checked) false ⟨#[], #[.agg #[.int .i64 0, .slice none 0 0], .int .i64 0, .int .i64 0, .int .i64 0], []⟩ 16 (by kernel_rfl) (by kernel_rfl) (by kernel_rfl) (by kernel_rfl)) ?_
  intro W base args ds gs before hval0 hW hcnd _
  have hval : ∀ (j : Nat) t v, Try.f6.params[j]? = some t → args[j]? = some v → Value.okWide Try.prog W .any base t v := hval0
  have hW' := hW
  obtain ⟨p, q, hA0, hV, rfl, hfz, hnd⟩ := hW
  have hA : DataW.TrodAll enc Try.prog W 0 (fun _ => true) true Try.f6.params.toList args.toList ds p := hA0
  rw [Try.params6] at hA hval
  obtain ⟨v0, vs0, e0, ds0, p0, q0, hargs, rfl, rfl, h0, x0⟩ := trodAll_cons hA
  obtain ⟨v1, vs1, e1, ds1, p1, q1, rfl, rfl, rfl, h1, x1⟩ := trodAll_cons x0
  obtain ⟨v2, vs2, e2, ds2, p2, q2, rfl, rfl, rfl, h2, x2⟩ := trodAll_cons x1
  obtain ⟨v3, vs3, e3, ds3, p3, q3, rfl, rfl, rfl, h3, x3⟩ := trodAll_cons x2
  obtain ⟨rfl, rfl, rfl⟩ := trodAll_nil x3
  obtain rfl : args = #[v0, v1, v2, v3] := by cases args; simp_all
  obtain ⟨rfl, rfl⟩ := trodVars_none hV
  have k0 := h0
  have lt0 : ∀ x ∈ p0, x.block < W.heap.size := by obtain ⟨m, hm⟩ := k0; exact DataW.trod_lt m _ _ _ hm
  obtain ⟨b0, a0, cap0, z0, rfl, _, w0⟩ := bel_form (hval 0 24 _ rfl rfl) h0
  have k1 := h1
  have lt1 : ∀ x ∈ p1, x.block < W.heap.size := by obtain ⟨m, hm⟩ := k1; exact DataW.trod_lt m _ _ _ hm
  obtain ⟨a1, rfl, _, _, w1⟩ := open_int Try.underlying3 (hval 1 3 v1 rfl rfl) h1
  have k2 := h2
  have lt2 : ∀ x ∈ p2, x.block < W.heap.size := by obtain ⟨m, hm⟩ := k2; exact DataW.trod_lt m _ _ _ hm
  obtain ⟨a2, rfl, _, _, w2⟩ := open_int Try.underlying3 (hval 2 3 v2 rfl rfl) h2
  have k3 := h3
  have lt3 : ∀ x ∈ p3, x.block < W.heap.size := by obtain ⟨m, hm⟩ := k3; exact DataW.trod_lt m _ _ _ hm
  obtain ⟨a3, rfl, _, _, w3⟩ := open_int Try.underlying3 (hval 3 3 v3 rfl rfl) h3
  clear hA0 hval0
  refine (walk b0 a0 cap0 z0 a1 (i64_wf w1) a2 (i64_wf w2) a3 (i64_wf w3) W w0).mono fun e W' ⟨he, bel⟩ => ?_
  subst he
  exact ⟨_, rfl, _, _, _, [], _, [], hW', trodAll_mk1 (shut_bool Try.underlying4 _), (trodAll_cons_mk (Below.trod laidOut (by kernel_rfl) (of_decide_eq_true (by kernel_rfl)) k0 bel lt0) (trodAll_cons_mk (Below.trod laidOut (by kernel_rfl) (of_decide_eq_true (by kernel_rfl)) k1 bel lt1) (trodAll_cons_mk (Below.trod laidOut (by kernel_rfl) (of_decide_eq_true (by kernel_rfl)) k2 bel lt2) (trodAll_cons_mk (Below.trod laidOut (by kernel_rfl) (of_decide_eq_true (by kernel_rfl)) k3 bel lt3) trodAll_mk0)))), rfl, bel.frame _, fun h => by cases h⟩

theorem over : Rows.beaconHearsRow.holds Try.pinned (OpenSpec.ofChange Rows.beaconHearsSpec) :=
  OpenClaim.holds_of_wide 6 Try.f6 rfl rfl rfl rfl rfl rfl rfl ⟨rfl, rfl, rfl, rfl, rfl⟩ rfl rfl rfl rfl rfl (by kernel_rfl) Try.func6 (by kernel_rfl)
    (of_decide_eq_true (by kernel_rfl)) (by unfold Func.isWrapper; first | (rw [if_pos (by decide +kernel)]; kernel_rfl) | (rw [if_neg (by decide +kernel)]; exact ⟨rfl, rfl⟩))
    (fun os started H enc _ => lifted os started H enc)

theorem proved : Rows.BeaconHearsSaid := over
#print axioms proved
end Go.Proofs.Ytaflgabjpcfgpaa.beaconHears
