/- thalweglaw16.PairNil: for any object and frame the law answers true; no condition. -/
import Derived.Test.YthnajpckhoomgaaGreatRows
import Derived.Test.YthnajpckhoomgaaGreatU54
import Derived.ArgAppend
import Derived.Below
import Derived.BigQuiet
import Derived.BigRegion
import Derived.Calls
import Derived.ChangeAlike
import Derived.ChangeArms
import Derived.ChangeKeysEq
import Derived.ChangeMade
import Derived.ChangeOld
import Derived.Deep.Cut
import Derived.Deep.CutBlock
import Derived.Deep.LoopGhost
import Derived.Deep.QuietTactic
import Derived.Deep.RegionHeld
import Derived.Deep.RegionLaw
import Derived.Deep.RegionWith
import Derived.Deep.Slices
import Derived.Defers
import Derived.Ground.GgzProg
import Derived.Ground.Names2Prog
import Derived.Laws.AppendOwnNone
import Derived.Laws.BitsLemmas
import Derived.Laws.BytesArg
import Derived.Laws.LoneSync
import Derived.Laws.OwnMore
import Derived.Laws.Pointers
import Derived.Laws.StructEq
import Derived.Lib.ConvBytes
import Derived.Lib.Hide
import Derived.Lib.OwnBridge
import Derived.Lib.QuietBelow
import Derived.Lib.SliceRun
import Derived.Lib.SlicesCompact
import Derived.LoopIn
import Derived.LoopTactic
import Derived.Maps.AppendAt
import Derived.Maps.Own
import Derived.Maps.OwnOps
import Derived.Maps.OwnSet
import Derived.Maps.RangeWalk
import Derived.Maps.Views
import Derived.OpenShut
import Derived.Orders
import Derived.Outline
import Derived.OwnWalkIn
import Derived.ProofKit
import Derived.RangeFuncBox
import Derived.RangeFuncCalls
import Derived.RangeFuncLeaves
import Derived.RangeFuncNested
import Derived.RegionCalls
import Derived.RegionTactic
import Derived.Shelf.RegionOpen
import Derived.Shelf.RegionOpenPlain
import Derived.Shelf.SlIterI.Nil
import Derived.Shelf.Slices.CompactI
import Derived.Shelf.Slices.In.SortNone
import Derived.Shelf.Sort.Plain
import Derived.ShutString
import Derived.Sort.Grow
import Derived.StillTail
import Derived.TacticsInMore
import Derived.WalkKit
import Derived.WalkLawsBesides
import Derived.WalkSpells
import Derived.WideShapes
import Derived.WalkLawsBesides
import Derived.WalkKit
import Derived.ProofKit
import Derived.OpenShut
import Derived.ShutString
import Derived.ChangeOld
import Derived.Below
namespace Go.Proofs.YthnajpckhoomgaaGreat.pairNil
open Go.ChangeShapes Go.WideShapes Go.ChangeAt Go.RowKit
open Go.ChangeMaps (open_string shut_string)
set_option linter.unusedVariables false
set_option maxRecDepth 100000

theorem own : ownKnob Tryz.prog.godebug = none := by kernel_rfl
theorem laidOut : laidOutB Tryz.prog = true := by kernel_rfl
set_option maxHeartbeats 4000000 in
theorem walk (kd0 ds0 : Int) (hn0 : Bool) (ht0 ho0 hr0 hd0 hi0 lx0 ly0 lz0 nm0 : Int) (x1 : Hd4) (a1 : Option Addr) (cap1 : Nat) (z1 : List RPt) (w : World) (r1 : Gs RP w (.slice a1 z1.length cap1) z1) :
    Calls Tryz.prog 6 #[.agg #[.int .i64 kd0, .int .i64 ds0, .bool hn0, .int .i64 ht0, .int .i64 ho0, .int .i64 hr0, .int .i64 hd0, .int .i64 hi0, .int .i64 lx0, .int .i64 ly0, .int .i64 lz0, .int .i64 nm0], .agg #[.int .i64 x1.1, .int .i64 x1.2.1, .int .i64 x1.2.2.1, .int .i64 x1.2.2.2, .slice a1 z1.length cap1]] w fun e w' => e = .returned (.bool true) ∧ Below w.heap.size w w' := by
  obtain ⟨W1, hW1⟩ : ∃ W1, (w.alloc (.cells #[.int .i64 kd0, .int .i64 ds0, .bool hn0, .int .i64 ht0, .int .i64 ho0, .int .i64 hr0, .int .i64 hd0, .int .i64 hi0, .int .i64 lx0, .int .i64 ly0, .int .i64 lz0, .int .i64 nm0] 39)).alloc (.cells #[.int .i64 x1.1, .int .i64 x1.2.1, .int .i64 x1.2.2.1, .int .i64 x1.2.2.2, .slice a1 z1.length cap1] 42) = W1 := ⟨_, rfl⟩
  have hb1 : Below w.heap.size w W1 := hW1 ▸ ((Below.refl _ w).alloc (Nat.le_refl _) _).alloc (by simp) _
  obtain ⟨p, hp⟩ : ∃ p, w.heap.size = p := ⟨_, rfl⟩
  have hq : (W1.cell? ⟨p, 0, none⟩ = some (.int .i64 kd0) ∧ W1.cell? ⟨p, 1, none⟩ = some (.int .i64 ds0) ∧ W1.cell? ⟨p, 2, none⟩ = some (.bool hn0) ∧ W1.cell? ⟨p, 3, none⟩ = some (.int .i64 ht0) ∧ W1.cell? ⟨p, 4, none⟩ = some (.int .i64 ho0) ∧ W1.cell? ⟨p, 5, none⟩ = some (.int .i64 hr0) ∧ W1.cell? ⟨p, 6, none⟩ = some (.int .i64 hd0) ∧ W1.cell? ⟨p, 7, none⟩ = some (.int .i64 hi0) ∧ W1.cell? ⟨p, 8, none⟩ = some (.int .i64 lx0) ∧ W1.cell? ⟨p, 9, none⟩ = some (.int .i64 ly0) ∧ W1.cell? ⟨p, 10, none⟩ = some (.int .i64 lz0) ∧ W1.cell? ⟨p, 11, none⟩ = some (.int .i64 nm0)) ∧ (W1.cell? ⟨p + 1, 0, none⟩ = some (.int .i64 x1.1) ∧ W1.cell? ⟨p + 1, 1, none⟩ = some (.int .i64 x1.2.1) ∧ W1.cell? ⟨p + 1, 2, none⟩ = some (.int .i64 x1.2.2.1) ∧ W1.cell? ⟨p + 1, 3, none⟩ = some (.int .i64 x1.2.2.2) ∧ W1.cell? ⟨p + 1, 4, none⟩ = some (.slice a1 z1.length cap1)) := by
    rw [← hW1, ← hp]
    refine ⟨⟨?_, ?_, ?_, ?_, ?_, ?_, ?_, ?_, ?_, ?_, ?_, ?_⟩, ?_, ?_, ?_, ?_, ?_⟩ <;> simp
  have HQ := Lib.hid hq
  have HB1 := Lib.hid hb1
  have HW1 := Lib.hid hW1
  have HP := Lib.hid hp
  have CF := Lib.hid (rfew_any x1 a1 cap1 z1 W1 (r1.below hb1))
  have CH := Lib.hid (niln_hear x1 a1 z1.length cap1)
  have CP := Lib.hid (niln_push ⟨kd0, ds0, hn0, ht0, ho0, hr0, hd0, hi0, lx0, ly0, lz0, nm0⟩)
  have KEEP : Hid (∀ W, Below W1.heap.size W1 W → (W.cell? ⟨p, 0, none⟩ = some (.int .i64 kd0) ∧ W.cell? ⟨p, 1, none⟩ = some (.int .i64 ds0) ∧ W.cell? ⟨p, 2, none⟩ = some (.bool hn0) ∧ W.cell? ⟨p, 3, none⟩ = some (.int .i64 ht0) ∧ W.cell? ⟨p, 4, none⟩ = some (.int .i64 ho0) ∧ W.cell? ⟨p, 5, none⟩ = some (.int .i64 hr0) ∧ W.cell? ⟨p, 6, none⟩ = some (.int .i64 hd0) ∧ W.cell? ⟨p, 7, none⟩ = some (.int .i64 hi0) ∧ W.cell? ⟨p, 8, none⟩ = some (.int .i64 lx0) ∧ W.cell? ⟨p, 9, none⟩ = some (.int .i64 ly0) ∧ W.cell? ⟨p, 10, none⟩ = some (.int .i64 lz0) ∧ W.cell? ⟨p, 11, none⟩ = some (.int .i64 nm0)) ∧ (W.cell? ⟨p + 1, 0, none⟩ = some (.int .i64 x1.1) ∧ W.cell? ⟨p + 1, 1, none⟩ = some (.int .i64 x1.2.1) ∧ W.cell? ⟨p + 1, 2, none⟩ = some (.int .i64 x1.2.2.1) ∧ W.cell? ⟨p + 1, 3, none⟩ = some (.int .i64 x1.2.2.2) ∧ W.cell? ⟨p + 1, 4, none⟩ = some (.slice a1 z1.length cap1))) := fun W hb => by
    obtain ⟨⟨h0, h1, h2, h3, h4, h5, h6, h7, h8, h9, h10, h11⟩, f0, f1, f2, f3, f4⟩ := HQ.out
    have e1 : p < W1.heap.size := World.block_lt_of_cell? W1 _ h0
    have e2 : p + 1 < W1.heap.size := World.block_lt_of_cell? W1 _ f0
    exact ⟨⟨(hb.cell (p := ⟨p, 0, none⟩) e1).trans h0, (hb.cell (p := ⟨p, 1, none⟩) e1).trans h1, (hb.cell (p := ⟨p, 2, none⟩) e1).trans h2, (hb.cell (p := ⟨p, 3, none⟩) e1).trans h3, (hb.cell (p := ⟨p, 4, none⟩) e1).trans h4, (hb.cell (p := ⟨p, 5, none⟩) e1).trans h5, (hb.cell (p := ⟨p, 6, none⟩) e1).trans h6, (hb.cell (p := ⟨p, 7, none⟩) e1).trans h7, (hb.cell (p := ⟨p, 8, none⟩) e1).trans h8, (hb.cell (p := ⟨p, 9, none⟩) e1).trans h9, (hb.cell (p := ⟨p, 10, none⟩) e1).trans h10, (hb.cell (p := ⟨p, 11, none⟩) e1).trans h11⟩, (hb.cell (p := ⟨p + 1, 0, none⟩) e2).trans f0, (hb.cell (p := ⟨p + 1, 1, none⟩) e2).trans f1, (hb.cell (p := ⟨p + 1, 2, none⟩) e2).trans f2, (hb.cell (p := ⟨p + 1, 3, none⟩) e2).trans f3, (hb.cell (p := ⟨p + 1, 4, none⟩) e2).trans f4⟩
  clear hW1 hb1 hp hq r1
  go_enter Tryz.func6, Tryz.ntmps6
  go_upto_region 1 with (fail)
  rw [HW1.out]
  try simp only [HP.out]
  obtain ⟨⟨h0, h1, h2, h3, h4, h5, h6, h7, h8, h9, h10, h11⟩, f0, f1, f2, f3, f4⟩ := HQ.out
  go_wp2_with fail
  refine CF.out.mono ?_
  rintro e W2 ⟨q, rfl, hb⟩
  have HB2 := Lib.hid (HB1.out.trans (hb.mono HB1.out.size))
  have HC2 := Lib.hid hb
  clear hb h0 h1 h2 h3 h4 h5 h6 h7 h8 h9 h10 h11 f0 f1 f2 f3 f4 CF
  cases q
  · go_wp2_with fail
    go_ret
    exact ⟨rfl, HB2.out⟩
  go_wp2_with fail
  refine (niln_again _).mono ?_
  rintro e W3 ⟨rfl, hb⟩
  have HB3 := Lib.hid (HB2.out.trans (hb.mono HB2.out.size))
  have HC3 := Lib.hid (HC2.out.trans (hb.mono HC2.out.size))
  clear hb
  obtain ⟨⟨h0, h1, h2, h3, h4, h5, h6, h7, h8, h9, h10, h11⟩, f0, f1, f2, f3, f4⟩ := KEEP.out _ HC3.out
  go_wp2_with fail
  refine (CH.out _).mono ?_
  rintro e W4 ⟨rfl, hb⟩
  have HB4 := Lib.hid (HB3.out.trans (hb.mono HB3.out.size))
  have HC4 := Lib.hid (HC3.out.trans (hb.mono HC3.out.size))
  clear hb h0 h1 h2 h3 h4 h5 h6 h7 h8 h9 h10 h11 f0 f1 f2 f3 f4
  go_wp2_with fail
  refine (awake16 _).mono ?_
  rintro e W5 ⟨rfl, hb⟩
  have HB5 := Lib.hid (HB4.out.trans (hb.mono HB4.out.size))
  have HC5 := Lib.hid (HC4.out.trans (hb.mono HC4.out.size))
  clear hb
  obtain ⟨⟨h0, h1, h2, h3, h4, h5, h6, h7, h8, h9, h10, h11⟩, f0, f1, f2, f3, f4⟩ := KEEP.out _ HC5.out
  go_wp2_with fail
  refine (CP.out _).mono ?_
  rintro e W6 ⟨rfl, hb⟩
  have HB6 := Lib.hid (HB5.out.trans (hb.mono HB5.out.size))
  clear hb h0 h1 h2 h3 h4 h5 h6 h7 h8 h9 h10 h11 f0 f1 f2 f3 f4
  go_wp2_with fail
  refine (niln_frames _).mono ?_
  rintro e W7 ⟨rfl, hb⟩
  have HB7 := Lib.hid (HB6.out.trans (hb.mono HB6.out.size))
  clear hb
  go_wp2_with fail
  refine (niln_idle _).mono ?_
  rintro e W8 ⟨rfl, hb⟩
  have HB8 := Lib.hid (HB7.out.trans (hb.mono HB7.out.size))
  clear hb
  go_wp2_with fail
  go_ret
  exact ⟨rfl, HB8.out⟩

set_option maxRecDepth 100000 in
theorem lifted (os : _root_.Go.Os) (started : os.Started) (H : Type) (enc : TypeId × Value → H) :
    ReturnsInHanded {} Tryz.checked os 6 .any (Rows.pairNilSpec.pre6 enc Tryz.prog Tryz.f6 Rows.pairNilRow.domain false) (Rows.pairNilSpec.post enc Tryz.prog Tryz.f6 false true false false) := by
  refine returnsInHanded_of_change (C := Tryz.checked) own started (by kernel_rfl) Tryz.func6
    (ChangeSpec.witness6 (enc := enc) (C := Tryz.checked) false ⟨#[], #[.agg #[.int .i64 0, .int .i64 0, .bool false, .int .i64 0, .int .i64 0, .int .i64 0, .int .i64 0, .int .i64 0, .int .i64 0, .int .i64 0, .int .i64 0, .int .i64 0], .agg #[.int .i64 0, .int .i64 0, .int .i64 0, .int .i64 0, .slice none 0 0]], []⟩ 16 (by kernel_rfl) (by kernel_rfl) (by kernel_rfl) (by kernel_rfl)) ?_
  intro W base args ds gs before hval0 hW hcnd _
  have hval : ∀ (j : Nat) t v, Tryz.f6.params[j]? = some t → args[j]? = some v → Value.okWide Tryz.prog W .any base t v := hval0
  have hW' := hW
  obtain ⟨p, q, hA0, hV, rfl, hfz, hnd⟩ := hW
  have hA : DataW.TrodAll enc Tryz.prog W 0 (fun _ => true) true Tryz.f6.params.toList args.toList ds p := hA0
  rw [Tryz.params6] at hA hval
  obtain ⟨v0, vs0, e0, ds0, p0, q0, hargs, rfl, rfl, h0, x0⟩ := trodAll_cons hA
  obtain ⟨v1, vs1, e1, ds1, p1, q1, rfl, rfl, rfl, h1, x1⟩ := trodAll_cons x0
  obtain ⟨rfl, rfl, rfl⟩ := trodAll_nil x1
  obtain rfl : args = #[v0, v1] := by cases args; simp_all
  obtain ⟨rfl, rfl⟩ := trodVars_none hV
  have k0 := h0
  have lt0 : ∀ x ∈ p0, x.block < W.heap.size := by obtain ⟨m, hm⟩ := k0; exact DataW.trod_lt m _ _ _ hm
  obtain ⟨kd0, ds0, hn0, ht0, ho0, hr0, hd0, hi0, lx0, ly0, lz0, nm0, rfl⟩ := ob_form (hval 0 39 v0 rfl rfl) h0
  have k1 := h1
  have lt1 : ∀ x ∈ p1, x.block < W.heap.size := by obtain ⟨m, hm⟩ := k1; exact DataW.trod_lt m _ _ _ hm
  obtain ⟨x1', a1, cap1, z1, rfl, w1⟩ := fr_form (hval 1 42 v1 rfl rfl) h1
  clear hA0 hval0
  refine (walk kd0 ds0 hn0 ht0 ho0 hr0 hd0 hi0 lx0 ly0 lz0 nm0 x1' a1 cap1 z1 W w1).mono fun e W' ⟨he, bel⟩ => ?_
  subst he
  exact ⟨_, rfl, _, _, _, [], _, [], hW', trodAll_mk1 (shut_bool Tryz.underlying4 _), (trodAll_cons_mk (Below.trod laidOut (by kernel_rfl) (of_decide_eq_true (by kernel_rfl)) k0 bel lt0) (trodAll_cons_mk (Below.trod laidOut (by kernel_rfl) (of_decide_eq_true (by kernel_rfl)) k1 bel lt1) trodAll_mk0)), rfl, bel.frame _, fun h => by cases h⟩

theorem over : Rows.pairNilRow.holds Tryz.pinned (OpenSpec.ofChange Rows.pairNilSpec) :=
  OpenClaim.holds_of_wide 6 Tryz.f6 rfl rfl rfl rfl rfl rfl rfl ⟨rfl, rfl, rfl, rfl, rfl⟩ rfl rfl rfl rfl rfl (by kernel_rfl) Tryz.func6 (by kernel_rfl)
    (of_decide_eq_true (by kernel_rfl)) (by unfold Func.isWrapper; first | (rw [if_pos (by decide +kernel)]; kernel_rfl) | (rw [if_neg (by decide +kernel)]; exact ⟨rfl, rfl⟩))
    (fun os started H enc _ => lifted os started H enc)

theorem proved : Rows.PairNilSaid := over
#print axioms proved
end Go.Proofs.YthnajpckhoomgaaGreat.pairNil
