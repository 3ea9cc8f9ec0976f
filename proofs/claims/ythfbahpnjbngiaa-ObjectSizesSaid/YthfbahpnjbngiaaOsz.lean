/- thalweglaw04.ObjectSizes: for any object the law answers true: how many bytes it has hangs on its kind, and on whether its height is Null, alone; no condition. -/
import Derived.Test.YthfbahpnjbngiaaOaw
import Derived.Test.YthfbahpnjbngiaaOfm
import Derived.WalkLawsBesides
import Derived.WalkKit
import Derived.ProofKit
import Derived.OpenShut
import Derived.ShutString
import Derived.ChangeOld
import Derived.Below
namespace Go.Proofs.Ythfbahpnjbngiaa.objectSizes
open Go.ChangeShapes Go.WideShapes Go.ChangeAt Go.RowKit
open Go.ChangeMaps (open_string shut_string)
set_option linter.unusedVariables false

theorem own : ownKnob Try.prog.godebug = none := by kernel_rfl
theorem laidOut : laidOutB Try.prog = true := by kernel_rfl
open Go.Sort

set_option maxHeartbeats 4000000 in
theorem walk_no (kd0 ds0 : Int) (hn0 : Bool) (ht0 ho0 hr0 hd0 hi0 lx0 ly0 lz0 nm0 : Int) (w : World) (cS : ∀ w, Calls Try.prog 18 #[.agg #[.int .i64 kd0, .int .i64 ds0, .bool hn0, .int .i64 ht0, .int .i64 ho0, .int .i64 hr0, .int .i64 hd0, .int .i64 hi0, .int .i64 lx0, .int .i64 ly0, .int .i64 lz0, .int .i64 nm0]] w fun e w' => e = .returned (.int .i64 0) ∧ Below w.heap.size w w') (cC : ∀ w, Calls Try.prog 16 #[.agg #[.int .i64 kd0, .int .i64 ds0, .bool hn0, .int .i64 ht0, .int .i64 ho0, .int .i64 hr0, .int .i64 hd0, .int .i64 hi0, .int .i64 lx0, .int .i64 ly0, .int .i64 lz0, .int .i64 nm0]] w fun e w' => e = .returned (.int .i64 1) ∧ Below w.heap.size w w') :
    Calls Try.prog 7 #[.agg #[.int .i64 kd0, .int .i64 ds0, .bool hn0, .int .i64 ht0, .int .i64 ho0, .int .i64 hr0, .int .i64 hd0, .int .i64 hi0, .int .i64 lx0, .int .i64 ly0, .int .i64 lz0, .int .i64 nm0]] w fun e w' => e = .returned (.bool true) ∧ Below w.heap.size w w' := by
  go_enter Try.func7, Try.ntmps7
  go_wp2_with (first
    | (go_at_call 18; refine (cS _).mono ?_; rintro e w1 ⟨rfl, hb⟩; have K := Lib.hid ((cells12_alloc w kd0 ds0 hn0 ht0 ho0 hr0 hd0 hi0 lx0 ly0 lz0 nm0 37).below hb); have HB : Hid (Below w.heap.size w w1) := ((Below.refl _ w).alloc (Nat.le_refl _) _).trans (hb.mono (by simp)); clear hb; have ⟨c0, c1, c2, c3, c4, c5, c6, c7, c8, c9, c10, c11⟩ := K.out)
    | (go_at_call 16; refine (cC _).mono ?_; rintro e w2 ⟨rfl, hb⟩; replace K := Lib.hid (K.out.below hb); replace HB := Lib.hid (HB.out.trans (hb.mono HB.out.size)); clear hb; clear c0 c1 c2 c3 c4 c5 c6 c7 c8 c9 c10 c11; have ⟨c0, c1, c2, c3, c4, c5, c6, c7, c8, c9, c10, c11⟩ := K.out; have ⟨g0, g1, g2, g3, g4, g5, g6, g7, g8, g9, g10, g11⟩ := K.out.allocs)
    | (go_at_call 15; refine (oawake_any _).mono ?_; rintro e w3 ⟨rfl, hb⟩; clear c0 c1 c2 c3 c4 c5 c6 c7 c8 c9 c10 c11 g0 g1 g2 g3 g4 g5 g6 g7 g8 g9 g10 g11; replace K := Lib.hid (K.out.below hb); replace HB := Lib.hid (HB.out.trans (hb.mono HB.out.size)); clear hb; have ⟨c0, c1, c2, c3, c4, c5, c6, c7, c8, c9, c10, c11⟩ := K.out))
  go_ret
  exact ⟨rfl, HB.out⟩

set_option maxHeartbeats 4000000 in
theorem walk_1 (ds0 : Int) (hn0 : Bool) (ht0 ho0 hr0 hd0 hi0 lx0 ly0 lz0 nm0 : Int) (w : World) (cS : ∀ w, Calls Try.prog 18 #[.agg #[.int .i64 1, .int .i64 ds0, .bool hn0, .int .i64 ht0, .int .i64 ho0, .int .i64 hr0, .int .i64 hd0, .int .i64 hi0, .int .i64 lx0, .int .i64 ly0, .int .i64 lz0, .int .i64 nm0]] w fun e w' => e = .returned (.int .i64 2) ∧ Below w.heap.size w w') (cC : ∀ w, Calls Try.prog 16 #[.agg #[.int .i64 1, .int .i64 ds0, .bool hn0, .int .i64 ht0, .int .i64 ho0, .int .i64 hr0, .int .i64 hd0, .int .i64 hi0, .int .i64 lx0, .int .i64 ly0, .int .i64 lz0, .int .i64 nm0]] w fun e w' => e = .returned (.int .i64 0) ∧ Below w.heap.size w w') :
    Calls Try.prog 7 #[.agg #[.int .i64 1, .int .i64 ds0, .bool hn0, .int .i64 ht0, .int .i64 ho0, .int .i64 hr0, .int .i64 hd0, .int .i64 hi0, .int .i64 lx0, .int .i64 ly0, .int .i64 lz0, .int .i64 nm0]] w fun e w' => e = .returned (.bool true) ∧ Below w.heap.size w w' := by
  go_enter Try.func7, Try.ntmps7
  go_wp2_with (first
    | (go_at_call 18; refine (cS _).mono ?_; rintro e w1 ⟨rfl, hb⟩; have K := Lib.hid ((cells12_alloc w 1 ds0 hn0 ht0 ho0 hr0 hd0 hi0 lx0 ly0 lz0 nm0 37).below hb); have HB : Hid (Below w.heap.size w w1) := ((Below.refl _ w).alloc (Nat.le_refl _) _).trans (hb.mono (by simp)); clear hb; have ⟨c0, c1, c2, c3, c4, c5, c6, c7, c8, c9, c10, c11⟩ := K.out)
    | (go_at_call 16; refine (cC _).mono ?_; rintro e w2 ⟨rfl, hb⟩; replace K := Lib.hid (K.out.below hb); replace HB := Lib.hid (HB.out.trans (hb.mono HB.out.size)); clear hb; clear c0 c1 c2 c3 c4 c5 c6 c7 c8 c9 c10 c11; have ⟨c0, c1, c2, c3, c4, c5, c6, c7, c8, c9, c10, c11⟩ := K.out; have ⟨g0, g1, g2, g3, g4, g5, g6, g7, g8, g9, g10, g11⟩ := K.out.allocs)
    | (go_at_call 15; refine (oawake_any _).mono ?_; rintro e w3 ⟨rfl, hb⟩; clear c0 c1 c2 c3 c4 c5 c6 c7 c8 c9 c10 c11 g0 g1 g2 g3 g4 g5 g6 g7 g8 g9 g10 g11; replace K := Lib.hid ((K.out.below ((Below.refl _ _).alloc (Nat.le_refl _) _)).below hb); replace HB := Lib.hid ((HB.out.alloc HB.out.size _).trans (hb.mono (Nat.le_trans HB.out.size (by simp)))); clear hb; have ⟨c0, c1, c2, c3, c4, c5, c6, c7, c8, c9, c10, c11⟩ := K.out))
  go_ret
  exact ⟨rfl, HB.out⟩

set_option maxHeartbeats 4000000 in
theorem walk_2n (ds0 : Int) (ht0 ho0 hr0 hd0 hi0 lx0 ly0 lz0 nm0 : Int) (w : World) (cS : ∀ w, Calls Try.prog 18 #[.agg #[.int .i64 2, .int .i64 ds0, .bool true, .int .i64 ht0, .int .i64 ho0, .int .i64 hr0, .int .i64 hd0, .int .i64 hi0, .int .i64 lx0, .int .i64 ly0, .int .i64 lz0, .int .i64 nm0]] w fun e w' => e = .returned (.int .i64 4) ∧ Below w.heap.size w w') (cC : ∀ w, Calls Try.prog 16 #[.agg #[.int .i64 2, .int .i64 ds0, .bool true, .int .i64 ht0, .int .i64 ho0, .int .i64 hr0, .int .i64 hd0, .int .i64 hi0, .int .i64 lx0, .int .i64 ly0, .int .i64 lz0, .int .i64 nm0]] w fun e w' => e = .returned (.int .i64 0) ∧ Below w.heap.size w w') :
    Calls Try.prog 7 #[.agg #[.int .i64 2, .int .i64 ds0, .bool true, .int .i64 ht0, .int .i64 ho0, .int .i64 hr0, .int .i64 hd0, .int .i64 hi0, .int .i64 lx0, .int .i64 ly0, .int .i64 lz0, .int .i64 nm0]] w fun e w' => e = .returned (.bool true) ∧ Below w.heap.size w w' := by
  go_enter Try.func7, Try.ntmps7
  go_wp2_with (first
    | (go_at_call 18; refine (cS _).mono ?_; rintro e w1 ⟨rfl, hb⟩; have K := Lib.hid ((cells12_alloc w 2 ds0 true ht0 ho0 hr0 hd0 hi0 lx0 ly0 lz0 nm0 37).below hb); have HB : Hid (Below w.heap.size w w1) := ((Below.refl _ w).alloc (Nat.le_refl _) _).trans (hb.mono (by simp)); clear hb; have ⟨c0, c1, c2, c3, c4, c5, c6, c7, c8, c9, c10, c11⟩ := K.out)
    | (go_at_call 16; refine (cC _).mono ?_; rintro e w2 ⟨rfl, hb⟩; replace K := Lib.hid (K.out.below hb); replace HB := Lib.hid (HB.out.trans (hb.mono HB.out.size)); clear hb; clear c0 c1 c2 c3 c4 c5 c6 c7 c8 c9 c10 c11; have ⟨c0, c1, c2, c3, c4, c5, c6, c7, c8, c9, c10, c11⟩ := K.out; have ⟨g0, g1, g2, g3, g4, g5, g6, g7, g8, g9, g10, g11⟩ := K.out.allocs)
    | (go_at_call 15; refine (oawake_any _).mono ?_; rintro e w3 ⟨rfl, hb⟩; clear c0 c1 c2 c3 c4 c5 c6 c7 c8 c9 c10 c11 g0 g1 g2 g3 g4 g5 g6 g7 g8 g9 g10 g11; replace K := Lib.hid ((K.out.below ((Below.refl _ _).alloc (Nat.le_refl _) _)).below hb); replace HB := Lib.hid ((HB.out.alloc HB.out.size _).trans (hb.mono (Nat.le_trans HB.out.size (by simp)))); clear hb; have ⟨c0, c1, c2, c3, c4, c5, c6, c7, c8, c9, c10, c11⟩ := K.out))
  go_ret
  exact ⟨rfl, HB.out⟩

set_option maxHeartbeats 4000000 in
theorem walk_2 (ds0 : Int) (ht0 ho0 hr0 hd0 hi0 lx0 ly0 lz0 nm0 : Int) (w : World) (cS : ∀ w, Calls Try.prog 18 #[.agg #[.int .i64 2, .int .i64 ds0, .bool false, .int .i64 ht0, .int .i64 ho0, .int .i64 hr0, .int .i64 hd0, .int .i64 hi0, .int .i64 lx0, .int .i64 ly0, .int .i64 lz0, .int .i64 nm0]] w fun e w' => e = .returned (.int .i64 22) ∧ Below w.heap.size w w') (cC : ∀ w, Calls Try.prog 16 #[.agg #[.int .i64 2, .int .i64 ds0, .bool false, .int .i64 ht0, .int .i64 ho0, .int .i64 hr0, .int .i64 hd0, .int .i64 hi0, .int .i64 lx0, .int .i64 ly0, .int .i64 lz0, .int .i64 nm0]] w fun e w' => e = .returned (.int .i64 0) ∧ Below w.heap.size w w') :
    Calls Try.prog 7 #[.agg #[.int .i64 2, .int .i64 ds0, .bool false, .int .i64 ht0, .int .i64 ho0, .int .i64 hr0, .int .i64 hd0, .int .i64 hi0, .int .i64 lx0, .int .i64 ly0, .int .i64 lz0, .int .i64 nm0]] w fun e w' => e = .returned (.bool true) ∧ Below w.heap.size w w' := by
  go_enter Try.func7, Try.ntmps7
  go_wp2_with (first
    | (go_at_call 18; refine (cS _).mono ?_; rintro e w1 ⟨rfl, hb⟩; have K := Lib.hid ((cells12_alloc w 2 ds0 false ht0 ho0 hr0 hd0 hi0 lx0 ly0 lz0 nm0 37).below hb); have HB : Hid (Below w.heap.size w w1) := ((Below.refl _ w).alloc (Nat.le_refl _) _).trans (hb.mono (by simp)); clear hb; have ⟨c0, c1, c2, c3, c4, c5, c6, c7, c8, c9, c10, c11⟩ := K.out)
    | (go_at_call 16; refine (cC _).mono ?_; rintro e w2 ⟨rfl, hb⟩; replace K := Lib.hid (K.out.below hb); replace HB := Lib.hid (HB.out.trans (hb.mono HB.out.size)); clear hb; clear c0 c1 c2 c3 c4 c5 c6 c7 c8 c9 c10 c11; have ⟨c0, c1, c2, c3, c4, c5, c6, c7, c8, c9, c10, c11⟩ := K.out; have ⟨g0, g1, g2, g3, g4, g5, g6, g7, g8, g9, g10, g11⟩ := K.out.allocs)
    | (go_at_call 15; refine (oawake_any _).mono ?_; rintro e w3 ⟨rfl, hb⟩; clear c0 c1 c2 c3 c4 c5 c6 c7 c8 c9 c10 c11 g0 g1 g2 g3 g4 g5 g6 g7 g8 g9 g10 g11; replace K := Lib.hid ((K.out.below ((Below.refl _ _).alloc (Nat.le_refl _) _)).below hb); replace HB := Lib.hid ((HB.out.alloc HB.out.size _).trans (hb.mono (Nat.le_trans HB.out.size (by simp)))); clear hb; have ⟨c0, c1, c2, c3, c4, c5, c6, c7, c8, c9, c10, c11⟩ := K.out))
  go_ret
  exact ⟨rfl, HB.out⟩

set_option maxHeartbeats 4000000 in
theorem walk_3 (ds0 : Int) (hn0 : Bool) (ht0 ho0 hr0 hd0 hi0 lx0 ly0 lz0 nm0 : Int) (w : World) (cS : ∀ w, Calls Try.prog 18 #[.agg #[.int .i64 3, .int .i64 ds0, .bool hn0, .int .i64 ht0, .int .i64 ho0, .int .i64 hr0, .int .i64 hd0, .int .i64 hi0, .int .i64 lx0, .int .i64 ly0, .int .i64 lz0, .int .i64 nm0]] w fun e w' => e = .returned (.int .i64 12) ∧ Below w.heap.size w w') (cC : ∀ w, Calls Try.prog 16 #[.agg #[.int .i64 3, .int .i64 ds0, .bool hn0, .int .i64 ht0, .int .i64 ho0, .int .i64 hr0, .int .i64 hd0, .int .i64 hi0, .int .i64 lx0, .int .i64 ly0, .int .i64 lz0, .int .i64 nm0]] w fun e w' => e = .returned (.int .i64 0) ∧ Below w.heap.size w w') :
    Calls Try.prog 7 #[.agg #[.int .i64 3, .int .i64 ds0, .bool hn0, .int .i64 ht0, .int .i64 ho0, .int .i64 hr0, .int .i64 hd0, .int .i64 hi0, .int .i64 lx0, .int .i64 ly0, .int .i64 lz0, .int .i64 nm0]] w fun e w' => e = .returned (.bool true) ∧ Below w.heap.size w w' := by
  go_enter Try.func7, Try.ntmps7
  go_wp2_with (first
    | (go_at_call 18; refine (cS _).mono ?_; rintro e w1 ⟨rfl, hb⟩; have K := Lib.hid ((cells12_alloc w 3 ds0 hn0 ht0 ho0 hr0 hd0 hi0 lx0 ly0 lz0 nm0 37).below hb); have HB : Hid (Below w.heap.size w w1) := ((Below.refl _ w).alloc (Nat.le_refl _) _).trans (hb.mono (by simp)); clear hb; have ⟨c0, c1, c2, c3, c4, c5, c6, c7, c8, c9, c10, c11⟩ := K.out)
    | (go_at_call 16; refine (cC _).mono ?_; rintro e w2 ⟨rfl, hb⟩; replace K := Lib.hid (K.out.below hb); replace HB := Lib.hid (HB.out.trans (hb.mono HB.out.size)); clear hb; clear c0 c1 c2 c3 c4 c5 c6 c7 c8 c9 c10 c11; have ⟨c0, c1, c2, c3, c4, c5, c6, c7, c8, c9, c10, c11⟩ := K.out; have ⟨g0, g1, g2, g3, g4, g5, g6, g7, g8, g9, g10, g11⟩ := K.out.allocs)
    | (go_at_call 15; refine (oawake_any _).mono ?_; rintro e w3 ⟨rfl, hb⟩; clear c0 c1 c2 c3 c4 c5 c6 c7 c8 c9 c10 c11 g0 g1 g2 g3 g4 g5 g6 g7 g8 g9 g10 g11; replace K := Lib.hid ((K.out.below ((Below.refl _ _).alloc (Nat.le_refl _) _)).below hb); replace HB := Lib.hid ((HB.out.alloc HB.out.size _).trans (hb.mono (Nat.le_trans HB.out.size (by simp)))); clear hb; have ⟨c0, c1, c2, c3, c4, c5, c6, c7, c8, c9, c10, c11⟩ := K.out))
  go_ret
  exact ⟨rfl, HB.out⟩

set_option maxHeartbeats 4000000 in
theorem walk_4 (ds0 : Int) (hn0 : Bool) (ht0 ho0 hr0 hd0 hi0 lx0 ly0 lz0 nm0 : Int) (w : World) (cS : ∀ w, Calls Try.prog 18 #[.agg #[.int .i64 4, .int .i64 ds0, .bool hn0, .int .i64 ht0, .int .i64 ho0, .int .i64 hr0, .int .i64 hd0, .int .i64 hi0, .int .i64 lx0, .int .i64 ly0, .int .i64 lz0, .int .i64 nm0]] w fun e w' => e = .returned (.int .i64 24) ∧ Below w.heap.size w w') (cC : ∀ w, Calls Try.prog 16 #[.agg #[.int .i64 4, .int .i64 ds0, .bool hn0, .int .i64 ht0, .int .i64 ho0, .int .i64 hr0, .int .i64 hd0, .int .i64 hi0, .int .i64 lx0, .int .i64 ly0, .int .i64 lz0, .int .i64 nm0]] w fun e w' => e = .returned (.int .i64 0) ∧ Below w.heap.size w w') :
    Calls Try.prog 7 #[.agg #[.int .i64 4, .int .i64 ds0, .bool hn0, .int .i64 ht0, .int .i64 ho0, .int .i64 hr0, .int .i64 hd0, .int .i64 hi0, .int .i64 lx0, .int .i64 ly0, .int .i64 lz0, .int .i64 nm0]] w fun e w' => e = .returned (.bool true) ∧ Below w.heap.size w w' := by
  go_enter Try.func7, Try.ntmps7
  go_wp2_with (first
    | (go_at_call 18; refine (cS _).mono ?_; rintro e w1 ⟨rfl, hb⟩; have K := Lib.hid ((cells12_alloc w 4 ds0 hn0 ht0 ho0 hr0 hd0 hi0 lx0 ly0 lz0 nm0 37).below hb); have HB : Hid (Below w.heap.size w w1) := ((Below.refl _ w).alloc (Nat.le_refl _) _).trans (hb.mono (by simp)); clear hb; have ⟨c0, c1, c2, c3, c4, c5, c6, c7, c8, c9, c10, c11⟩ := K.out)
    | (go_at_call 16; refine (cC _).mono ?_; rintro e w2 ⟨rfl, hb⟩; replace K := Lib.hid (K.out.below hb); replace HB := Lib.hid (HB.out.trans (hb.mono HB.out.size)); clear hb; clear c0 c1 c2 c3 c4 c5 c6 c7 c8 c9 c10 c11; have ⟨c0, c1, c2, c3, c4, c5, c6, c7, c8, c9, c10, c11⟩ := K.out; have ⟨g0, g1, g2, g3, g4, g5, g6, g7, g8, g9, g10, g11⟩ := K.out.allocs)
    | (go_at_call 15; refine (oawake_any _).mono ?_; rintro e w3 ⟨rfl, hb⟩; clear c0 c1 c2 c3 c4 c5 c6 c7 c8 c9 c10 c11 g0 g1 g2 g3 g4 g5 g6 g7 g8 g9 g10 g11; replace K := Lib.hid ((K.out.below ((Below.refl _ _).alloc (Nat.le_refl _) _)).below hb); replace HB := Lib.hid ((HB.out.alloc HB.out.size _).trans (hb.mono (Nat.le_trans HB.out.size (by simp)))); clear hb; have ⟨c0, c1, c2, c3, c4, c5, c6, c7, c8, c9, c10, c11⟩ := K.out))
  go_ret
  exact ⟨rfl, HB.out⟩

theorem walk (kd0 ds0 : Int) (hn0 : Bool) (ht0 ho0 hr0 hd0 hi0 lx0 ly0 lz0 nm0 : Int) (w : World) :
    Calls Try.prog 7 #[.agg #[.int .i64 kd0, .int .i64 ds0, .bool hn0, .int .i64 ht0, .int .i64 ho0, .int .i64 hr0, .int .i64 hd0, .int .i64 hi0, .int .i64 lx0, .int .i64 ly0, .int .i64 lz0, .int .i64 nm0]] w fun e w' => e = .returned (.bool true) ∧ Below w.heap.size w w' := by
  have cS := osize_any kd0 ds0 hn0 ht0 ho0 hr0 hd0 hi0 lx0 ly0 lz0 nm0
  have cC := ocheck_any kd0 ds0 hn0 ht0 ho0 hr0 hd0 hi0 lx0 ly0 lz0 nm0
  by_cases h : ObOk kd0 ds0 hn0 ht0 ho0 hr0 hd0 hi0 lx0 ly0 lz0 nm0
  · rw [obc_ok h] at cC
    rw [obBs, if_pos h] at cS
    rcases kind_of h with rfl | rfl | rfl | rfl
    · exact walk_1 ds0 hn0 ht0 ho0 hr0 hd0 hi0 lx0 ly0 lz0 nm0 w cS cC
    · have e : obB 2 ds0 hn0 ht0 ho0 hr0 hd0 hi0 lx0 ly0 lz0 nm0 = [2, ds0] ++ htB hn0 ht0 ho0 hr0 hd0 hi0 := rfl
      rw [e] at cS
      cases hn0 with
      | true => exact walk_2n ds0 ht0 ho0 hr0 hd0 hi0 lx0 ly0 lz0 nm0 w cS cC
      | false =>
        rw [show (([2, ds0] ++ htB false ht0 ho0 hr0 hd0 hi0).length : Int) = 22 by simp [htB, i8_len]] at cS
        exact walk_2 ds0 ht0 ho0 hr0 hd0 hi0 lx0 ly0 lz0 nm0 w cS cC
    · rw [show ((obB 3 ds0 hn0 ht0 ho0 hr0 hd0 hi0 lx0 ly0 lz0 nm0).length : Int) = 12 by rw [show obB 3 ds0 hn0 ht0 ho0 hr0 hd0 hi0 lx0 ly0 lz0 nm0 = [3, ds0] ++ i8 lx0 ++ [ly0, lz0] from rfl]; simp [i8_len]] at cS
      exact walk_3 ds0 hn0 ht0 ho0 hr0 hd0 hi0 lx0 ly0 lz0 nm0 w cS cC
    · have hn : hn0 = false := by
        cases hn0 with
        | true => exact absurd ⟨rfl, rfl⟩ h.2.2.1
        | false => rfl
      subst hn
      rw [show ((obB 4 ds0 false ht0 ho0 hr0 hd0 hi0 lx0 ly0 lz0 nm0).length : Int) = 24 by rw [show obB 4 ds0 false ht0 ho0 hr0 hd0 hi0 lx0 ly0 lz0 nm0 = [4, ds0] ++ htB false ht0 ho0 hr0 hd0 hi0 ++ [nm0 / 256, nm0 % 256] from rfl]; simp [htB, i8_len]] at cS
      exact walk_4 ds0 false ht0 ho0 hr0 hd0 hi0 lx0 ly0 lz0 nm0 w cS cC
  · rw [obc_no h] at cC
    rw [obBs, if_neg h] at cS
    exact walk_no kd0 ds0 hn0 ht0 ho0 hr0 hd0 hi0 lx0 ly0 lz0 nm0 w cS cC

set_option maxRecDepth 100000 in
theorem lifted (os : Os) (started : os.Started) (H : Type) (enc : TypeId × Value → H) :
    ReturnsInHanded {} Try.checked os 7 .any (Rows.objectSizesSpec.pre6 enc Try.prog Try.f7 Rows.objectSizesRow.domain false) (Rows.objectSizesSpec.post enc Try.prog Try.f7 false true false false) := by
  refine returnsInHanded_of_change (C := Try.checked) own started (by kernel_rfl) Try.func7
    (ChangeSpec.witness6 (enc := enc) (C := Try.checked) false ⟨#[], #[.agg #[.int .i64 0, .int .i64 0, .bool false, .int .i64 0, .int .i64 0, .int .i64 0, .int .i64 0, .int .i64 0, .int .i64 0, .int .i64 0, .int .i64 0, .int .i64 0]], []⟩ 16 (by kernel_rfl) (by kernel_rfl) (by kernel_rfl) (by kernel_rfl)) ?_
  intro W base args ds gs before hval0 hW hcnd _
  have hval : ∀ (j : Nat) t v, Try.f7.params[j]? = some t → args[j]? = some v → Value.okWide Try.prog W .any base t v := hval0
  have hW' := hW
  obtain ⟨p, q, hA0, hV, rfl, hfz, hnd⟩ := hW
  have hA : DataW.TrodAll enc Try.prog W 0 (fun _ => true) true Try.f7.params.toList args.toList ds p := hA0
  rw [Try.params7] at hA hval
  obtain ⟨v0, vs0, e0, ds0, p0, q0, hargs, rfl, rfl, h0, x0⟩ := trodAll_cons hA
  obtain ⟨rfl, rfl, rfl⟩ := trodAll_nil x0
  obtain rfl : args = #[v0] := by cases args; simp_all
  obtain ⟨rfl, rfl⟩ := trodVars_none hV
  have k0 := h0
  have lt0 : ∀ x ∈ p0, x.block < W.heap.size := by obtain ⟨m, hm⟩ := k0; exact DataW.trod_lt m _ _ _ hm
  obtain ⟨kd0, ds0, hn0, ht0, ho0, hr0, hd0, hi0, lx0, ly0, lz0, nm0, rfl⟩ := ob_form (hval 0 37 v0 rfl rfl) h0
  clear hA0 hval0
  refine (walk kd0 ds0 hn0 ht0 ho0 hr0 hd0 hi0 lx0 ly0 lz0 nm0 W).mono fun e W' ⟨he, bel⟩ => ?_
  subst he
  exact ⟨_, rfl, _, _, _, [], _, [], hW', trodAll_mk1 (shut_bool Try.underlying4 _), (trodAll_cons_mk (Below.trod laidOut (by kernel_rfl) (of_decide_eq_true (by kernel_rfl)) k0 bel lt0) trodAll_mk0), rfl, bel.frame _, fun h => by cases h⟩

theorem over : Rows.objectSizesRow.holds Try.pinned (OpenSpec.ofChange Rows.objectSizesSpec) :=
  OpenClaim.holds_of_wide 7 Try.f7 rfl rfl rfl rfl rfl rfl rfl ⟨rfl, rfl, rfl, rfl, rfl⟩ rfl rfl rfl rfl rfl (by kernel_rfl) Try.func7 (by kernel_rfl)
    (of_decide_eq_true (by kernel_rfl)) (by unfold Func.isWrapper; first | (rw [if_pos (by decide +kernel)]; kernel_rfl) | (rw [if_neg (by decide +kernel)]; exact ⟨rfl, rfl⟩))
    (fun os started H enc _ => lifted os started H enc)

theorem proved : Rows.ObjectSizesSaid := over
#print axioms proved
end Go.Proofs.Ythfbahpnjbngiaa.objectSizes
