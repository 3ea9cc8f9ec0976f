/- The walk of a law (text of its own: memory). No conditions. -/
import Derived.Test.YtdigjklhfimnbaaGreatRows
import Derived.Test.YtdigjklhfimnbaaGreatU48
import Derived.Test.YtdigjklhfimnbaaGreatU50
import Derived.ArgAppend
import Derived.Below
import Derived.BigQuiet
import Derived.BigRegion
import Derived.Calls
import Derived.ChangeAlike
import Derived.ChangeArms
import Derived.ChangeKeysEq
import Derived.ChangeMade
import Derived.ChangeOld
import Derived.Deep.Cut
import Derived.Deep.CutBlock
import Derived.Deep.LoopGhost
import Derived.Deep.QuietTactic
import Derived.Deep.RegionHeld
import Derived.Deep.RegionLaw
import Derived.Deep.RegionWith
import Derived.Deep.Slices
import Derived.Defers
import Derived.Ground.GgzProg
import Derived.Ground.Names2Prog
import Derived.Laws.AppendOwnNone
import Derived.Laws.BitsLemmas
import Derived.Laws.BytesArg
import Derived.Laws.LoneSync
import Derived.Laws.OwnMore
import Derived.Laws.Pointers
import Derived.Laws.Rows
import Derived.Laws.StructEq
import Derived.Laws.Tables
import Derived.Lib.ConvBytes
import Derived.Lib.Hide
import Derived.Lib.OwnBridge
import Derived.Lib.QuietBelow
import Derived.Lib.SliceRun
import Derived.Lib.SlicesCompact
import Derived.LoopIn
import Derived.LoopTactic
import Derived.Maps.AppendAt
import Derived.Maps.Own
import Derived.Maps.OwnOps
import Derived.Maps.OwnSet
import Derived.Maps.RangeWalk
import Derived.Maps.Views
import Derived.OpenShut
import Derived.Orders
import Derived.OrdersIn
import Derived.Outline
import Derived.OwnWalkIn
import Derived.ProofKit
import Derived.RangeFuncBox
import Derived.RangeFuncCalls
import Derived.RangeFuncLeaves
import Derived.RangeFuncNested
import Derived.RegionCalls
import Derived.RegionTactic
import Derived.Shelf.RegionOpen
import Derived.Shelf.RegionOpenPlain
import Derived.Shelf.SlIterI.Nil
import Derived.Shelf.Slices.CompactI
import Derived.Shelf.Slices.In.SortNone
import Derived.Shelf.Sort.Plain
import Derived.ShutString
import Derived.Sort.Grow
import Derived.StillTail
import Derived.TacticsInMore
import Derived.WalkKit
import Derived.WalkLawsBesides
import Derived.WalkSpells
import Derived.WideShapes
import Derived.WalkLawsBesides
import Derived.WalkKit
import Derived.ProofKit
import Derived.OpenShut
import Derived.ShutString
import Derived.ChangeOld
import Derived.Below
namespace Go.Proofs.YtdigjklhfimnbaaGreat.castNil
open Go.ChangeShapes Go.WideShapes Go.ChangeAt Go.RowKit
open Go.ChangeMaps (open_string shut_string)
set_option linter.unusedVariables false
set_option maxRecDepth 100000

set_option maxHeartbeats 8000000 in
theorem walk (n0 : Nd) (kd1 ds1 : Int) (hn1 : Bool) (ht1 ho1 hr1 hd1 hi1 lx1 ly1 lz1 nm1 : Int) (x2 : Hd4) (a2 : Option Addr) (cap2 : Nat) (z2 : List RPt) (w : World) (r2 : Gs RP w (.slice a2 z2.length cap2) z2) :
    Calls Tryz.prog 7 #[.agg #[.int .i64 n0.1, .int .i64 n0.2], .agg #[.int .i64 kd1, .int .i64 ds1, .bool hn1, .int .i64 ht1, .int .i64 ho1, .int .i64 hr1, .int .i64 hd1, .int .i64 hi1, .int .i64 lx1, .int .i64 ly1, .int .i64 lz1, .int .i64 nm1], .agg #[.int .i64 x2.1, .int .i64 x2.2.1, .int .i64 x2.2.2.1, .int .i64 x2.2.2.2, .slice a2 z2.length cap2]] w fun e w' => e = .returned (.bool true) ∧ Below w.heap.size w w' := by
  obtain ⟨p, hp⟩ : ∃ p, w.heap.size = p := ⟨_, rfl⟩
  obtain ⟨wa, hwa⟩ : ∃ x, w.alloc (.cells #[.int .i64 n0.1, .int .i64 n0.2] 23) = x := ⟨_, rfl⟩
  obtain ⟨wb, hwb⟩ : ∃ x, wa.alloc (.cells #[.int .i64 kd1, .int .i64 ds1, .bool hn1, .int .i64 ht1, .int .i64 ho1, .int .i64 hr1, .int .i64 hd1, .int .i64 hi1, .int .i64 lx1, .int .i64 ly1, .int .i64 lz1, .int .i64 nm1] 41) = x := ⟨_, rfl⟩
  obtain ⟨W1, hwc⟩ : ∃ x, wb.alloc (.cells #[.int .i64 x2.1, .int .i64 x2.2.1, .int .i64 x2.2.2.1, .int .i64 x2.2.2.2, .slice a2 z2.length cap2] 51) = x := ⟨_, rfl⟩
  have hW1 : ((w.alloc (.cells #[.int .i64 n0.1, .int .i64 n0.2] 23)).alloc (.cells #[.int .i64 kd1, .int .i64 ds1, .bool hn1, .int .i64 ht1, .int .i64 ho1, .int .i64 hr1, .int .i64 hd1, .int .i64 hi1, .int .i64 lx1, .int .i64 ly1, .int .i64 lz1, .int .i64 nm1] 41)).alloc (.cells #[.int .i64 x2.1, .int .i64 x2.2.1, .int .i64 x2.2.2.1, .int .i64 x2.2.2.2, .slice a2 z2.length cap2] 51) = W1 := by rw [hwa, hwb, hwc]
  have sa : wa.heap.size = p + 1 := by rw [← hwa, ← hp]; simp
  have sb : wb.heap.size = p + 2 := by rw [← hwb]; simp [sa]
  have ba : Below w.heap.size w wa := hwa ▸ (Below.refl _ w).alloc (Nat.le_refl _) _
  have bb : Below wa.heap.size wa wb := hwb ▸ (Below.refl _ wa).alloc (Nat.le_refl _) _
  have bc : Below wb.heap.size wb W1 := hwc ▸ (Below.refl _ wb).alloc (Nat.le_refl _) _
  have hb1 : Below w.heap.size w W1 := (ba.trans (bb.mono (by omega))).trans (bc.mono (by omega))
  have qa : wa.cell? ⟨p, 0, none⟩ = some (.int .i64 n0.1) ∧ wa.cell? ⟨p, 1, none⟩ = some (.int .i64 n0.2) := by
    rw [← hwa, ← hp]
    refine ⟨?_, ?_⟩ <;> simp
  have qb : wb.cell? ⟨p + 1, 0, none⟩ = some (.int .i64 kd1) ∧ wb.cell? ⟨p + 1, 1, none⟩ = some (.int .i64 ds1) ∧ wb.cell? ⟨p + 1, 2, none⟩ = some (.bool hn1) ∧ wb.cell? ⟨p + 1, 3, none⟩ = some (.int .i64 ht1) ∧ wb.cell? ⟨p + 1, 4, none⟩ = some (.int .i64 ho1) ∧ wb.cell? ⟨p + 1, 5, none⟩ = some (.int .i64 hr1) ∧ wb.cell? ⟨p + 1, 6, none⟩ = some (.int .i64 hd1) ∧ wb.cell? ⟨p + 1, 7, none⟩ = some (.int .i64 hi1) ∧ wb.cell? ⟨p + 1, 8, none⟩ = some (.int .i64 lx1) ∧ wb.cell? ⟨p + 1, 9, none⟩ = some (.int .i64 ly1) ∧ wb.cell? ⟨p + 1, 10, none⟩ = some (.int .i64 lz1) ∧ wb.cell? ⟨p + 1, 11, none⟩ = some (.int .i64 nm1) := by
    rw [← hwb, ← sa]
    refine ⟨?_, ?_, ?_, ?_, ?_, ?_, ?_, ?_, ?_, ?_, ?_, ?_⟩ <;> simp
  have qc : W1.cell? ⟨p + 2, 0, none⟩ = some (.int .i64 x2.1) ∧ W1.cell? ⟨p + 2, 1, none⟩ = some (.int .i64 x2.2.1) ∧ W1.cell? ⟨p + 2, 2, none⟩ = some (.int .i64 x2.2.2.1) ∧ W1.cell? ⟨p + 2, 3, none⟩ = some (.int .i64 x2.2.2.2) ∧ W1.cell? ⟨p + 2, 4, none⟩ = some (.slice a2 z2.length cap2) := by
    rw [← hwc, ← sb]
    refine ⟨?_, ?_, ?_, ?_, ?_⟩ <;> simp
  have hq : (W1.cell? ⟨p, 0, none⟩ = some (.int .i64 n0.1) ∧ W1.cell? ⟨p, 1, none⟩ = some (.int .i64 n0.2)) ∧ (W1.cell? ⟨p + 1, 0, none⟩ = some (.int .i64 kd1) ∧ W1.cell? ⟨p + 1, 1, none⟩ = some (.int .i64 ds1) ∧ W1.cell? ⟨p + 1, 2, none⟩ = some (.bool hn1) ∧ W1.cell? ⟨p + 1, 3, none⟩ = some (.int .i64 ht1) ∧ W1.cell? ⟨p + 1, 4, none⟩ = some (.int .i64 ho1) ∧ W1.cell? ⟨p + 1, 5, none⟩ = some (.int .i64 hr1) ∧ W1.cell? ⟨p + 1, 6, none⟩ = some (.int .i64 hd1) ∧ W1.cell? ⟨p + 1, 7, none⟩ = some (.int .i64 hi1) ∧ W1.cell? ⟨p + 1, 8, none⟩ = some (.int .i64 lx1) ∧ W1.cell? ⟨p + 1, 9, none⟩ = some (.int .i64 ly1) ∧ W1.cell? ⟨p + 1, 10, none⟩ = some (.int .i64 lz1) ∧ W1.cell? ⟨p + 1, 11, none⟩ = some (.int .i64 nm1)) ∧ (W1.cell? ⟨p + 2, 0, none⟩ = some (.int .i64 x2.1) ∧ W1.cell? ⟨p + 2, 1, none⟩ = some (.int .i64 x2.2.1) ∧ W1.cell? ⟨p + 2, 2, none⟩ = some (.int .i64 x2.2.2.1) ∧ W1.cell? ⟨p + 2, 3, none⟩ = some (.int .i64 x2.2.2.2) ∧ W1.cell? ⟨p + 2, 4, none⟩ = some (.slice a2 z2.length cap2)) := by
    obtain ⟨g0, g1⟩ := qa
    obtain ⟨h0, h1, h2, h3, h4, h5, h6, h7, h8, h9, h10, h11⟩ := qb
    have ka : ∀ j v, wa.cell? ⟨p, j, none⟩ = some v → W1.cell? ⟨p, j, none⟩ = some v := fun j v e => (bc.cell (p := ⟨p, j, none⟩) (by show p < wb.heap.size; omega)).trans ((bb.cell (p := ⟨p, j, none⟩) (by show p < wa.heap.size; omega)).trans e)
    have kb : ∀ j v, wb.cell? ⟨p + 1, j, none⟩ = some v → W1.cell? ⟨p + 1, j, none⟩ = some v := fun j v e => (bc.cell (p := ⟨p + 1, j, none⟩) (by show p + 1 < wb.heap.size; omega)).trans e
    exact ⟨⟨ka _ _ g0, ka _ _ g1⟩, ⟨kb _ _ h0, kb _ _ h1, kb _ _ h2, kb _ _ h3, kb _ _ h4, kb _ _ h5, kb _ _ h6, kb _ _ h7, kb _ _ h8, kb _ _ h9, kb _ _ h10, kb _ _ h11⟩, qc⟩
  clear hwa hwb hwc sa sb ba bb bc qa qb qc
  have HQ := Lib.hid hq
  have HB1 := Lib.hid hb1
  have HW1 := Lib.hid hW1
  have HP := Lib.hid hp
  have CF := Lib.hid (rfew_any x2 a2 cap2 z2 W1 (r2.below hb1))
  have CH := Lib.hid (cnil_hear x2 a2 z2.length cap2)
  have CP := Lib.hid (cnil_push 255 ⟨kd1, ds1, hn1, ht1, ho1, hr1, hd1, hi1, lx1, ly1, lz1, nm1⟩)
  have KEEP : Hid (∀ W, Below W1.heap.size W1 W → (W.cell? ⟨p, 0, none⟩ = some (.int .i64 n0.1) ∧ W.cell? ⟨p, 1, none⟩ = some (.int .i64 n0.2)) ∧ (W.cell? ⟨p + 1, 0, none⟩ = some (.int .i64 kd1) ∧ W.cell? ⟨p + 1, 1, none⟩ = some (.int .i64 ds1) ∧ W.cell? ⟨p + 1, 2, none⟩ = some (.bool hn1) ∧ W.cell? ⟨p + 1, 3, none⟩ = some (.int .i64 ht1) ∧ W.cell? ⟨p + 1, 4, none⟩ = some (.int .i64 ho1) ∧ W.cell? ⟨p + 1, 5, none⟩ = some (.int .i64 hr1) ∧ W.cell? ⟨p + 1, 6, none⟩ = some (.int .i64 hd1) ∧ W.cell? ⟨p + 1, 7, none⟩ = some (.int .i64 hi1) ∧ W.cell? ⟨p + 1, 8, none⟩ = some (.int .i64 lx1) ∧ W.cell? ⟨p + 1, 9, none⟩ = some (.int .i64 ly1) ∧ W.cell? ⟨p + 1, 10, none⟩ = some (.int .i64 lz1) ∧ W.cell? ⟨p + 1, 11, none⟩ = some (.int .i64 nm1)) ∧ (W.cell? ⟨p + 2, 0, none⟩ = some (.int .i64 x2.1) ∧ W.cell? ⟨p + 2, 1, none⟩ = some (.int .i64 x2.2.1) ∧ W.cell? ⟨p + 2, 2, none⟩ = some (.int .i64 x2.2.2.1) ∧ W.cell? ⟨p + 2, 3, none⟩ = some (.int .i64 x2.2.2.2) ∧ W.cell? ⟨p + 2, 4, none⟩ = some (.slice a2 z2.length cap2))) := fun W hb => by
    obtain ⟨⟨g0, g1⟩, ⟨h0, h1, h2, h3, h4, h5, h6, h7, h8, h9, h10, h11⟩, f0, f1, f2, f3, f4⟩ := HQ.out
    have e0 : p < W1.heap.size := World.block_lt_of_cell? W1 _ g0
    have e1 : p + 1 < W1.heap.size := World.block_lt_of_cell? W1 _ h0
    have e2 : p + 2 < W1.heap.size := World.block_lt_of_cell? W1 _ f0
    exact ⟨⟨(hb.cell (p := ⟨p, 0, none⟩) e0).trans g0, (hb.cell (p := ⟨p, 1, none⟩) e0).trans g1⟩, ⟨(hb.cell (p := ⟨p + 1, 0, none⟩) e1).trans h0, (hb.cell (p := ⟨p + 1, 1, none⟩) e1).trans h1, (hb.cell (p := ⟨p + 1, 2, none⟩) e1).trans h2, (hb.cell (p := ⟨p + 1, 3, none⟩) e1).trans h3, (hb.cell (p := ⟨p + 1, 4, none⟩) e1).trans h4, (hb.cell (p := ⟨p + 1, 5, none⟩) e1).trans h5, (hb.cell (p := ⟨p + 1, 6, none⟩) e1).trans h6, (hb.cell (p := ⟨p + 1, 7, none⟩) e1).trans h7, (hb.cell (p := ⟨p + 1, 8, none⟩) e1).trans h8, (hb.cell (p := ⟨p + 1, 9, none⟩) e1).trans h9, (hb.cell (p := ⟨p + 1, 10, none⟩) e1).trans h10, (hb.cell (p := ⟨p + 1, 11, none⟩) e1).trans h11⟩, (hb.cell (p := ⟨p + 2, 0, none⟩) e2).trans f0, (hb.cell (p := ⟨p + 2, 1, none⟩) e2).trans f1, (hb.cell (p := ⟨p + 2, 2, none⟩) e2).trans f2, (hb.cell (p := ⟨p + 2, 3, none⟩) e2).trans f3, (hb.cell (p := ⟨p + 2, 4, none⟩) e2).trans f4⟩
  clear hW1 hb1 hp hq r2
  go_enter Tryz.func7, Tryz.ntmps7
  go_upto_region 1 with (fail)
  rw [HW1.out]
  try simp only [HP.out]
  obtain ⟨⟨g0, g1⟩, ⟨h0, h1, h2, h3, h4, h5, h6, h7, h8, h9, h10, h11⟩, f0, f1, f2, f3, f4⟩ := HQ.out
  go_wp2_with fail
  refine CF.out.mono ?_
  rintro e W2 ⟨q, rfl, hb⟩
  have HB2 := Lib.hid (HB1.out.trans (hb.mono HB1.out.size))
  have HC2 := Lib.hid hb
  clear hb g0 g1 h0 h1 h2 h3 h4 h5 h6 h7 h8 h9 h10 h11 f0 f1 f2 f3 f4 CF
  cases q
  · go_wp2_with fail
    go_ret
    exact ⟨rfl, HB2.out⟩
  obtain ⟨⟨g0, g1⟩, ⟨h0, h1, h2, h3, h4, h5, h6, h7, h8, h9, h10, h11⟩, f0, f1, f2, f3, f4⟩ := KEEP.out _ HC2.out
  go_wp2_with fail
  refine (CP.out _).mono ?_
  rintro e W3 ⟨rfl, hb⟩
  have HB3 := Lib.hid (HB2.out.trans (hb.mono HB2.out.size))
  have HC3 := Lib.hid (HC2.out.trans (hb.mono HC2.out.size))
  clear hb g0 g1 h0 h1 h2 h3 h4 h5 h6 h7 h8 h9 h10 h11 f0 f1 f2 f3 f4
  obtain ⟨⟨g0, g1⟩, ⟨h0, h1, h2, h3, h4, h5, h6, h7, h8, h9, h10, h11⟩, f0, f1, f2, f3, f4⟩ := KEEP.out _ HC3.out
  go_wp2_with fail
  refine (cnil_again _).mono ?_
  rintro e W4 ⟨rfl, hb⟩
  have HB4 := Lib.hid (HB3.out.trans (hb.mono HB3.out.size))
  have HC4 := Lib.hid (HC3.out.trans (hb.mono HC3.out.size))
  clear hb g0 g1 h0 h1 h2 h3 h4 h5 h6 h7 h8 h9 h10 h11 f0 f1 f2 f3 f4
  obtain ⟨⟨g0, g1⟩, ⟨h0, h1, h2, h3, h4, h5, h6, h7, h8, h9, h10, h11⟩, f0, f1, f2, f3, f4⟩ := KEEP.out _ HC4.out
  go_wp2_with fail
  refine (CH.out _).mono ?_
  rintro e W5 ⟨rfl, hb⟩
  have HB5 := Lib.hid (HB4.out.trans (hb.mono HB4.out.size))
  have HC5 := Lib.hid (HC4.out.trans (hb.mono HC4.out.size))
  clear hb g0 g1 h0 h1 h2 h3 h4 h5 h6 h7 h8 h9 h10 h11 f0 f1 f2 f3 f4
  obtain ⟨⟨g0, g1⟩, ⟨h0, h1, h2, h3, h4, h5, h6, h7, h8, h9, h10, h11⟩, f0, f1, f2, f3, f4⟩ := KEEP.out _ HC5.out
  go_wp2_with fail
  refine (awake17 _).mono ?_
  rintro e W6 ⟨rfl, hb⟩
  have HB6 := Lib.hid (HB5.out.trans (hb.mono HB5.out.size))
  have HC6 := Lib.hid (HC5.out.trans (hb.mono HC5.out.size))
  clear hb g0 g1 h0 h1 h2 h3 h4 h5 h6 h7 h8 h9 h10 h11 f0 f1 f2 f3 f4
  obtain ⟨⟨g0, g1⟩, ⟨h0, h1, h2, h3, h4, h5, h6, h7, h8, h9, h10, h11⟩, f0, f1, f2, f3, f4⟩ := KEEP.out _ HC6.out
  go_wp2_with fail
  refine (cnil_up n0 _).mono ?_
  rintro e W7 ⟨rfl, hb⟩
  have HB7 := Lib.hid (HB6.out.trans (hb.mono HB6.out.size))
  have HC7 := Lib.hid (HC6.out.trans (hb.mono HC6.out.size))
  clear hb g0 g1 h0 h1 h2 h3 h4 h5 h6 h7 h8 h9 h10 h11 f0 f1 f2 f3 f4
  obtain ⟨⟨g0, g1⟩, ⟨h0, h1, h2, h3, h4, h5, h6, h7, h8, h9, h10, h11⟩, f0, f1, f2, f3, f4⟩ := KEEP.out _ HC7.out
  go_wp2_with fail
  refine (cnil_down n0.1 _).mono ?_
  rintro e W8 ⟨rfl, hb⟩
  have HB8 := Lib.hid (HB7.out.trans (hb.mono HB7.out.size))
  have HC8 := Lib.hid (HC7.out.trans (hb.mono HC7.out.size))
  clear hb g0 g1 h0 h1 h2 h3 h4 h5 h6 h7 h8 h9 h10 h11 f0 f1 f2 f3 f4
  obtain ⟨⟨g0, g1⟩, ⟨h0, h1, h2, h3, h4, h5, h6, h7, h8, h9, h10, h11⟩, f0, f1, f2, f3, f4⟩ := KEEP.out _ HC8.out
  go_wp2_with fail
  refine (cnil_frames _).mono ?_
  rintro e W9 ⟨rfl, hb⟩
  have HB9 := Lib.hid (HB8.out.trans (hb.mono HB8.out.size))
  have HC9 := Lib.hid (HC8.out.trans (hb.mono HC8.out.size))
  clear hb g0 g1 h0 h1 h2 h3 h4 h5 h6 h7 h8 h9 h10 h11 f0 f1 f2 f3 f4
  obtain ⟨⟨g0, g1⟩, ⟨h0, h1, h2, h3, h4, h5, h6, h7, h8, h9, h10, h11⟩, f0, f1, f2, f3, f4⟩ := KEEP.out _ HC9.out
  go_wp2_with fail
  refine (cnil_peers _).mono ?_
  rintro e W10 ⟨rfl, hb⟩
  have HB10 := Lib.hid (HB9.out.trans (hb.mono HB9.out.size))
  have HC10 := Lib.hid (HC9.out.trans (hb.mono HC9.out.size))
  clear hb g0 g1 h0 h1 h2 h3 h4 h5 h6 h7 h8 h9 h10 h11 f0 f1 f2 f3 f4
  obtain ⟨⟨g0, g1⟩, ⟨h0, h1, h2, h3, h4, h5, h6, h7, h8, h9, h10, h11⟩, f0, f1, f2, f3, f4⟩ := KEEP.out _ HC10.out
  go_wp2_with fail
  refine (cnil_idle _).mono ?_
  rintro e W11 ⟨rfl, hb⟩
  have HB11 := Lib.hid (HB10.out.trans (hb.mono HB10.out.size))
  have HC11 := Lib.hid (HC10.out.trans (hb.mono HC10.out.size))
  clear hb g0 g1 h0 h1 h2 h3 h4 h5 h6 h7 h8 h9 h10 h11 f0 f1 f2 f3 f4
  obtain ⟨⟨g0, g1⟩, ⟨h0, h1, h2, h3, h4, h5, h6, h7, h8, h9, h10, h11⟩, f0, f1, f2, f3, f4⟩ := KEEP.out _ HC11.out
  go_wp2_with fail
  go_ret
  exact ⟨rfl, HB11.out⟩

end Go.Proofs.YtdigjklhfimnbaaGreat.castNil
