/- thalweglaw16.PairFresh: for any two nodes, numbers and object the law answers true; no condition. -/
import Derived.Test.YthnajpckhoomgaaGreatRows
import Derived.Test.YthnajpckhoomgaaGreatU54
import Derived.ArgAppend
import Derived.Below
import Derived.BigQuiet
import Derived.BigRegion
import Derived.Calls
import Derived.ChangeAlike
import Derived.ChangeArms
import Derived.ChangeKeysEq
import Derived.ChangeMade
import Derived.ChangeOld
import Derived.Deep.Cut
import Derived.Deep.CutBlock
import Derived.Deep.LoopGhost
import Derived.Deep.QuietTactic
import Derived.Deep.RegionHeld
import Derived.Deep.RegionLaw
import Derived.Deep.RegionWith
import Derived.Deep.Slices
import Derived.Defers
import Derived.Ground.GgzProg
import Derived.Ground.Names2Prog
import Derived.Laws.AppendOwnNone
import Derived.Laws.BitsLemmas
import Derived.Laws.BytesArg
import Derived.Laws.LoneSync
import Derived.Laws.OwnMore
import Derived.Laws.Pointers
import Derived.Laws.StructEq
import Derived.Lib.ConvBytes
import Derived.Lib.Hide
import Derived.Lib.OwnBridge
import Derived.Lib.QuietBelow
import Derived.Lib.SliceRun
import Derived.Lib.SlicesCompact
import Derived.LoopIn
import Derived.LoopTactic
import Derived.Maps.AppendAt
import Derived.Maps.Own
import Derived.Maps.OwnOps
import Derived.Maps.OwnSet
import Derived.Maps.RangeWalk
import Derived.Maps.Views
import Derived.OpenShut
import Derived.Orders
import Derived.Outline
import Derived.OwnWalkIn
import Derived.ProofKit
import Derived.RangeFuncBox
import Derived.RangeFuncCalls
import Derived.RangeFuncLeaves
import Derived.RangeFuncNested
import Derived.RegionCalls
import Derived.RegionTactic
import Derived.Shelf.RegionOpen
import Derived.Shelf.RegionOpenPlain
import Derived.Shelf.SlIterI.Nil
import Derived.Shelf.Slices.CompactI
import Derived.Shelf.Slices.In.SortNone
import Derived.Shelf.Sort.Plain
import Derived.ShutString
import Derived.Sort.Grow
import Derived.StillTail
import Derived.TacticsInMore
import Derived.WalkKit
import Derived.WalkLawsBesides
import Derived.WalkSpells
import Derived.WideShapes
import Derived.WalkLawsBesides
import Derived.WalkKit
import Derived.ProofKit
import Derived.OpenShut
import Derived.ShutString
import Derived.ChangeOld
import Derived.Below
namespace Go.Proofs.YthnajpckhoomgaaGreat.pairFresh
open Go.ChangeShapes Go.WideShapes Go.ChangeAt Go.RowKit
open Go.ChangeMaps (open_string shut_string)
set_option linter.unusedVariables false
set_option maxRecDepth 100000

theorem own : ownKnob Tryz.prog.godebug = none := by kernel_rfl
theorem laidOut : laidOutB Tryz.prog = true := by kernel_rfl
theorem eql37 (y : Ob) (w : World) : (binOp .eql 39 (.agg #[.int .i64 y.k, .int .i64 y.x, .bool y.n, .int .i64 y.t, .int .i64 y.o, .int .i64 y.r, .int .i64 y.d, .int .i64 y.i, .int .i64 y.p, .int .i64 y.q, .int .i64 y.s, .int .i64 y.m]) (.agg #[.int .i64 y.k, .int .i64 y.x, .bool y.n, .int .i64 y.t, .int .i64 y.o, .int .i64 y.r, .int .i64 y.d, .int .i64 y.i, .int .i64 y.p, .int .i64 y.q, .int .i64 y.s, .int .i64 y.m])).run Tryz.prog w = .ok (.bool true) w := by
  rw [run_eql_struct, run_eq37]
  have h : eqO y.k y.x y.n y.t y.o y.r y.d y.i y.p y.q y.s y.m y.k y.x y.n y.t y.o y.r y.d y.i y.p y.q y.s y.m = true := (eqO_ob y y).2 rfl
  rw [h]
  rfl
theorem ag0 (win tries : Int) : agB (sd0 win tries) = true ∧ agS (sd0 win tries) = sd0 win tries ∧ (sd0 win tries).out = [] := ⟨rfl, rfl, rfl⟩
theorem se0 (win tries : Int) : sdT (sd0 win tries) = [] ∧ sdS (sd0 win tries) = sd0 win tries := ⟨rfl, rfl⟩
set_option maxHeartbeats 32000000 in
theorem walk (n0 : Nd) (n1 : Nd) (a2 : Int) (w2 : I64 a2) (a3 : Int) (w3 : I64 a3) (kd4 ds4 : Int) (hn4 : Bool) (ht4 ho4 hr4 hd4 hi4 lx4 ly4 lz4 nm4 : Int) (w : World) :
    Calls Tryz.prog 7 #[.agg #[.int .i64 n0.1, .int .i64 n0.2], .agg #[.int .i64 n1.1, .int .i64 n1.2], .int .i64 a2, .int .i64 a3, .agg #[.int .i64 kd4, .int .i64 ds4, .bool hn4, .int .i64 ht4, .int .i64 ho4, .int .i64 hr4, .int .i64 hd4, .int .i64 hi4, .int .i64 lx4, .int .i64 ly4, .int .i64 lz4, .int .i64 nm4]] w fun e w' => e = .returned (.bool true) ∧ Below w.heap.size w w' := by
  obtain ⟨W1, hW1⟩ : ∃ W1, ((w.alloc (.cells #[.int .i64 n0.1, .int .i64 n0.2] 23)).alloc (.cells #[.int .i64 n1.1, .int .i64 n1.2] 23)).alloc (.cells #[.int .i64 kd4, .int .i64 ds4, .bool hn4, .int .i64 ht4, .int .i64 ho4, .int .i64 hr4, .int .i64 hd4, .int .i64 hi4, .int .i64 lx4, .int .i64 ly4, .int .i64 lz4, .int .i64 nm4] 39) = W1 := ⟨_, rfl⟩
  have hb1 : Below w.heap.size w W1 := hW1 ▸ (((Below.refl _ w).alloc (Nat.le_refl _) _).alloc (by simp) _).alloc (by simp; omega) _
  obtain ⟨p, hp⟩ : ∃ p, w.heap.size = p := ⟨_, rfl⟩
  have hq : W1.cell? ⟨p, 0, none⟩ = some (.int .i64 n0.1) ∧ W1.cell? ⟨p, 1, none⟩ = some (.int .i64 n0.2) ∧ W1.cell? ⟨(p + 1), 0, none⟩ = some (.int .i64 n1.1) ∧ W1.cell? ⟨(p + 1), 1, none⟩ = some (.int .i64 n1.2) ∧ W1.cell? ⟨(p + 2), 0, none⟩ = some (.int .i64 kd4) ∧ W1.cell? ⟨(p + 2), 1, none⟩ = some (.int .i64 ds4) ∧ W1.cell? ⟨(p + 2), 2, none⟩ = some (.bool hn4) ∧ W1.cell? ⟨(p + 2), 3, none⟩ = some (.int .i64 ht4) ∧ W1.cell? ⟨(p + 2), 4, none⟩ = some (.int .i64 ho4) ∧ W1.cell? ⟨(p + 2), 5, none⟩ = some (.int .i64 hr4) ∧ W1.cell? ⟨(p + 2), 6, none⟩ = some (.int .i64 hd4) ∧ W1.cell? ⟨(p + 2), 7, none⟩ = some (.int .i64 hi4) ∧ W1.cell? ⟨(p + 2), 8, none⟩ = some (.int .i64 lx4) ∧ W1.cell? ⟨(p + 2), 9, none⟩ = some (.int .i64 ly4) ∧ W1.cell? ⟨(p + 2), 10, none⟩ = some (.int .i64 lz4) ∧ W1.cell? ⟨(p + 2), 11, none⟩ = some (.int .i64 nm4) := by
    obtain ⟨W0, hW0⟩ : ∃ W0, (w.alloc (.cells #[.int .i64 n0.1, .int .i64 n0.2] 23)).alloc (.cells #[.int .i64 n1.1, .int .i64 n1.2] 23) = W0 := ⟨_, rfl⟩
    have q : NdAt W0 p n0 ∧ NdAt W0 (p + 1) n1 := by
      rw [← hW0, ← hp]
      exact ⟨⟨by simp, by simp⟩, ⟨by simp, by simp⟩⟩
    have hs : p + 2 = W0.heap.size := by rw [← hW0, ← hp]; simp
    rw [hW0] at hW1
    have hb : Below W0.heap.size W0 W1 := hW1 ▸ (Below.refl _ W0).alloc (Nat.le_refl _) _
    obtain ⟨a1, a2'⟩ := q.1.below hb
    obtain ⟨b1, b2⟩ := q.2.below hb
    refine ⟨a1, a2', b1, b2, ?_, ?_, ?_, ?_, ?_, ?_, ?_, ?_, ?_, ?_, ?_, ?_⟩ <;> (rw [← hW1, hs]; simp)
  have HQ := Lib.hid hq
  have HPS : Hid (p + 3 = W1.heap.size) := by show _ = _; rw [← hW1, ← hp]; simp [Nat.add_assoc]
  have KEEP : Hid (∀ (W : World), (∀ k, k < W1.heap.size → ∀ j, W.cell? ⟨k, j, none⟩ = W1.cell? ⟨k, j, none⟩) → W.cell? ⟨p, 0, none⟩ = some (.int .i64 n0.1) ∧ W.cell? ⟨p, 1, none⟩ = some (.int .i64 n0.2) ∧ W.cell? ⟨(p + 1), 0, none⟩ = some (.int .i64 n1.1) ∧ W.cell? ⟨(p + 1), 1, none⟩ = some (.int .i64 n1.2) ∧ W.cell? ⟨(p + 2), 0, none⟩ = some (.int .i64 kd4) ∧ W.cell? ⟨(p + 2), 1, none⟩ = some (.int .i64 ds4) ∧ W.cell? ⟨(p + 2), 2, none⟩ = some (.bool hn4) ∧ W.cell? ⟨(p + 2), 3, none⟩ = some (.int .i64 ht4) ∧ W.cell? ⟨(p + 2), 4, none⟩ = some (.int .i64 ho4) ∧ W.cell? ⟨(p + 2), 5, none⟩ = some (.int .i64 hr4) ∧ W.cell? ⟨(p + 2), 6, none⟩ = some (.int .i64 hd4) ∧ W.cell? ⟨(p + 2), 7, none⟩ = some (.int .i64 hi4) ∧ W.cell? ⟨(p + 2), 8, none⟩ = some (.int .i64 lx4) ∧ W.cell? ⟨(p + 2), 9, none⟩ = some (.int .i64 ly4) ∧ W.cell? ⟨(p + 2), 10, none⟩ = some (.int .i64 lz4) ∧ W.cell? ⟨(p + 2), 11, none⟩ = some (.int .i64 nm4)) := fun W hk => by
    obtain ⟨h0, h1, h2, h3, h4, h5, h6, h7, h8, h9, h10, h11, h12, h13, h14, h15⟩ := HQ.out
    have e3 := HPS.out
    exact ⟨(hk _ (by omega) 0).trans h0, (hk _ (by omega) 1).trans h1, (hk _ (by omega) 0).trans h2, (hk _ (by omega) 1).trans h3, (hk _ (by omega) 0).trans h4, (hk _ (by omega) 1).trans h5, (hk _ (by omega) 2).trans h6, (hk _ (by omega) 3).trans h7, (hk _ (by omega) 4).trans h8, (hk _ (by omega) 5).trans h9, (hk _ (by omega) 6).trans h10, (hk _ (by omega) 7).trans h11, (hk _ (by omega) 8).trans h12, (hk _ (by omega) 9).trans h13, (hk _ (by omega) 10).trans h14, (hk _ (by omega) 11).trans h15⟩
  have KB : Hid (∀ (W : World), Below W1.heap.size W1 W → W.cell? ⟨p, 0, none⟩ = some (.int .i64 n0.1) ∧ W.cell? ⟨p, 1, none⟩ = some (.int .i64 n0.2) ∧ W.cell? ⟨(p + 1), 0, none⟩ = some (.int .i64 n1.1) ∧ W.cell? ⟨(p + 1), 1, none⟩ = some (.int .i64 n1.2) ∧ W.cell? ⟨(p + 2), 0, none⟩ = some (.int .i64 kd4) ∧ W.cell? ⟨(p + 2), 1, none⟩ = some (.int .i64 ds4) ∧ W.cell? ⟨(p + 2), 2, none⟩ = some (.bool hn4) ∧ W.cell? ⟨(p + 2), 3, none⟩ = some (.int .i64 ht4) ∧ W.cell? ⟨(p + 2), 4, none⟩ = some (.int .i64 ho4) ∧ W.cell? ⟨(p + 2), 5, none⟩ = some (.int .i64 hr4) ∧ W.cell? ⟨(p + 2), 6, none⟩ = some (.int .i64 hd4) ∧ W.cell? ⟨(p + 2), 7, none⟩ = some (.int .i64 hi4) ∧ W.cell? ⟨(p + 2), 8, none⟩ = some (.int .i64 lx4) ∧ W.cell? ⟨(p + 2), 9, none⟩ = some (.int .i64 ly4) ∧ W.cell? ⟨(p + 2), 10, none⟩ = some (.int .i64 lz4) ∧ W.cell? ⟨(p + 2), 11, none⟩ = some (.int .i64 nm4)) := fun W hb => KEEP.out W (fun k hk j => hb.cell (p := ⟨k, j, none⟩) hk)
  have HB1 := Lib.hid hb1
  have HW1 := Lib.hid hW1
  have HP := Lib.hid hp
  have CN := Lib.hid (prnew_any n0 n1 a2 a3 W1)
  clear hW1 hb1 hp hq
  go_enter Tryz.func7, Tryz.ntmps7
  go_upto_region 1 with (fail)
  rw [HW1.out]
  try simp only [HP.out]
  obtain ⟨h0, h1, h2, h3, h4, h5, h6, h7, h8, h9, h10, h11, h12, h13, h14, h15⟩ := HQ.out
  go_wp2_with fail
  refine CN.out.mono ?_
  rintro e w2 ⟨hb, ⟨_, rfl⟩ | ⟨hok, b, F, rfl, hpp, hF⟩⟩
  · have HB2 := Lib.hid (HB1.out.trans (hb.mono HB1.out.size))
    clear hb CN h0 h1 h2 h3 h4 h5 h6 h7 h8 h9 h10 h11 h12 h13 h14 h15
    go_wp2_with fail
    refine (awake16 _).mono ?_
    rintro e W3 ⟨rfl, hb⟩
    have HB3 := Lib.hid (HB2.out.trans (hb.mono HB2.out.size))
    clear hb
    go_wp2_with fail
    go_ret
    exact ⟨rfl, HB3.out⟩
  have HC2 := Lib.hid hb
  have HP2 := Lib.hid hpp
  have HF2 := Lib.hid hF
  have HWN : Hid (nwOk a2 a3) := hok.2.2.2
  clear hb hpp hF hok CN h0 h1 h2 h3 h4 h5 h6 h7 h8 h9 h10 h11 h12 h13 h14 h15
  have C3 := Lib.hid (prag_any HP2.out)
  go_wp2_with fail
  refine C3.out.mono ?_
  rintro e w3 ⟨r3, rfl, F3, hn, ⟨hag, _, _⟩ | ⟨_, hpp, hf⟩⟩
  · exact absurd ((ag0 a2 a3).1.symm.trans hag) (by decide)
  have HP3 : Hid (PP w3 F3 b (⟨n0, n1, sd0 a2 a3, tk0, false⟩ : Pr)) := hpp
  obtain ⟨a3', c3, rfl⟩ := hf.form
  have HN3 : Hid (Nx w2 w3 F F3) := hn
  rw [show agB (⟨n0, n1, sd0 a2 a3, tk0, false⟩ : Pr).s = true from rfl, show (frsL (owedL (⟨n0, n1, sd0 a2 a3, tk0, false⟩ : Pr)) (⟨n0, n1, sd0 a2 a3, tk0, false⟩ : Pr).s.out).length = 0 from rfl]
  clear hn hpp hf C3
  have C4 := pridle_any HP3.out
  rw [show idleB (⟨n0, n1, sd0 a2 a3, tk0, false⟩ : Pr) = true from rfl] at C4
  have HC4 := Lib.hid C4
  clear C4
  go_wp2_with fail
  refine HC4.out.mono ?_
  rintro e w4 ⟨rfl, hb⟩
  have HP4 := Lib.hid (HP3.out.below hb)
  have HN4 : Hid (Nx w2 w4 F F3) := HN3.out.trans (.below hb)
  clear hb HC4
  have C5 := Lib.hid (prfr_any HP4.out)
  go_wp2_with fail
  refine C5.out.mono ?_
  rintro e w5 ⟨r5, rfl, F5, hpp, hn, hf⟩
  have HP5 : Hid (PP w5 F5 b (⟨n0, n1, sd0 a2 a3, tk0, false⟩ : Pr)) := hpp
  obtain ⟨a5, c5, rfl⟩ := hf.form
  have HN5 : Hid (Nx w2 w5 F F5) := HN4.out.trans hn
  rw [show (frsL (owedL (⟨n0, n1, sd0 a2 a3, tk0, false⟩ : Pr)) (sdT (⟨n0, n1, sd0 a2 a3, tk0, false⟩ : Pr).s)).length = 0 from rfl]
  clear hpp hn hf C5
  have HB5 : Hid (Below W1.heap.size W1 w5) := HC2.out.trans (HN5.out.1.below HC2.out.size HF2.out)
  have HF5 : Hid (∀ k, F5 k → W1.heap.size ≤ k) := fun k hk => (HN5.out.2 k hk).elim (HF2.out k) (fun h => Nat.le_trans HC2.out.size h)
  obtain ⟨h0, h1, h2, h3, h4, h5, h6, h7, h8, h9, h10, h11, h12, h13, h14, h15⟩ := KB.out w5 HB5.out
  have C6 := prpush_any ⟨kd4, ds4, hn4, ht4, ho4, hr4, hd4, hi4, lx4, ly4, lz4, nm4⟩ HP5.out
  by_cases hy : Ob.Ok ⟨kd4, ds4, hn4, ht4, ho4, hr4, hd4, hi4, lx4, ly4, lz4, nm4⟩
  rotate_left
  · rw [show pushR (⟨n0, n1, sd0 a2 a3, tk0, false⟩ : Pr).s ⟨kd4, ds4, hn4, ht4, ho4, hr4, hd4, hi4, lx4, ly4, lz4, nm4⟩ = (1, sd0 a2 a3) from pushR_no hy] at C6
    have HC6 := Lib.hid C6
    clear C6 hy
    go_wp2_with fail
    refine HC6.out.mono ?_
    rintro e w6 ⟨rfl, F6, hpp, hn⟩
    have HP6 : Hid (PP w6 F6 b (⟨n0, n1, sd0 a2 a3, tk0, false⟩ : Pr)) := hpp
    have HB6 : Hid (Below w.heap.size w w6) := HB1.out.trans ((HB5.out.trans (hn.1.below HB5.out.size HF5.out)).mono HB1.out.size)
    clear hpp hn HC6 h0 h1 h2 h3 h4 h5 h6 h7 h8 h9 h10 h11 h12 h13 h14 h15
    go_wp2_with fail
    refine (awake16 _).mono ?_
    rintro e w7 ⟨rfl, hb⟩
    have HB7 := Lib.hid (HB6.out.trans (hb.mono HB6.out.size))
    have C8 := pridle_any (HP6.out.below hb)
    rw [show idleB (⟨n0, n1, sd0 a2 a3, tk0, false⟩ : Pr) = true from rfl] at C8
    have HC8 := Lib.hid C8
    clear hb C8
    go_wp2_with fail
    refine HC8.out.mono ?_
    rintro e w8 ⟨rfl, hb⟩
    have HB8 := Lib.hid (HB7.out.trans (hb.mono HB7.out.size))
    clear hb
    go_wp2_with fail
    go_ret
    exact ⟨rfl, HB8.out⟩
  rw [show pushR (⟨n0, n1, sd0 a2 a3, tk0, false⟩ : Pr).s ⟨kd4, ds4, hn4, ht4, ho4, hr4, hd4, hi4, lx4, ly4, lz4, nm4⟩ = (0, (⟨a2, a3, [⟨kd4, ds4, hn4, ht4, ho4, hr4, hd4, hi4, lx4, ly4, lz4, nm4⟩], [], 0⟩ : Sd)) from o1_push hy] at C6
  have HC6 := Lib.hid C6
  have HY : Hid (Ob.Ok ⟨kd4, ds4, hn4, ht4, ho4, hr4, hd4, hi4, lx4, ly4, lz4, nm4⟩) := hy
  clear C6 hy
  go_wp2_with fail
  refine HC6.out.mono ?_
  rintro e w6 ⟨rfl, F6, hpp, hn⟩
  have HP6 : Hid (PP w6 F6 b (⟨n0, n1, (⟨a2, a3, [⟨kd4, ds4, hn4, ht4, ho4, hr4, hd4, hi4, lx4, ly4, lz4, nm4⟩], [], 0⟩ : Sd), tk0, false⟩ : Pr)) := hpp
  have HB6 : Hid (Below W1.heap.size W1 w6) := HB5.out.trans (hn.1.below HB5.out.size HF5.out)
  have HF6 : Hid (∀ k, F6 k → W1.heap.size ≤ k) := fun k hk => (hn.2 k hk).elim (HF5.out k) (fun h => Nat.le_trans HB5.out.size h)
  clear hpp hn HC6 h0 h1 h2 h3 h4 h5 h6 h7 h8 h9 h10 h11 h12 h13 h14 h15
  have hse := o1_send (win := a2) (tries := a3) (y := ⟨kd4, ds4, hn4, ht4, ho4, hr4, hd4, hi4, lx4, ly4, lz4, nm4⟩) HWN.out.1.1
  have C7 := prfr_any HP6.out
  rw [show sdT (⟨n0, n1, (⟨a2, a3, [⟨kd4, ds4, hn4, ht4, ho4, hr4, hd4, hi4, lx4, ly4, lz4, nm4⟩], [], 0⟩ : Sd), tk0, false⟩ : Pr).s = [(0, [⟨kd4, ds4, hn4, ht4, ho4, hr4, hd4, hi4, lx4, ly4, lz4, nm4⟩])] from hse.1, show frsL (owedL (⟨n0, n1, (⟨a2, a3, [⟨kd4, ds4, hn4, ht4, ho4, hr4, hd4, hi4, lx4, ly4, lz4, nm4⟩], [], 0⟩ : Sd), tk0, false⟩ : Pr)) [(0, [⟨kd4, ds4, hn4, ht4, ho4, hr4, hd4, hi4, lx4, ly4, lz4, nm4⟩])] = [[ptB (0, [⟨kd4, ds4, hn4, ht4, ho4, hr4, hd4, hi4, lx4, ly4, lz4, nm4⟩])]] from rfl] at C7
  have HC7 := Lib.hid C7
  have HSE := Lib.hid hse
  clear C7 hse
  go_wp2_with fail
  refine HC7.out.mono ?_
  rintro e w7 ⟨r7, rfl, F7, hpp, hn, hf⟩
  have HP7 : Hid (PP w7 F7 b (⟨n0, n1, o1 a2 a3 ⟨kd4, ds4, hn4, ht4, ho4, hr4, hd4, hi4, lx4, ly4, lz4, nm4⟩ 1, tk0, false⟩ : Pr)) := by
    have h := hpp
    unfold frS at h
    rw [show sdS (⟨n0, n1, (⟨a2, a3, [⟨kd4, ds4, hn4, ht4, ho4, hr4, hd4, hi4, lx4, ly4, lz4, nm4⟩], [], 0⟩ : Sd), tk0, false⟩ : Pr).s = o1 a2 a3 ⟨kd4, ds4, hn4, ht4, ho4, hr4, hd4, hi4, lx4, ly4, lz4, nm4⟩ 1 from HSE.out.2] at h
    exact h
  have HB7 : Hid (Below W1.heap.size W1 w7) := HB6.out.trans (hn.1.below HB6.out.size HF6.out)
  have HF7 : Hid (∀ k, F7 k → W1.heap.size ≤ k) := fun k hk => (hn.2 k hk).elim (HF6.out k) (fun h => Nat.le_trans HB6.out.size h)
  obtain ⟨a7, c7, rfl⟩ := hf.form
  obtain ⟨bf, a8, c8, rfl, hcap, hbf, hnf, ⟨zz0, zz1, zz2, zz3, zz4⟩, hpa⟩ := hf.at (i := 0) (show 0 < 1 by decide)
  obtain ⟨bp, op, r, rfl, hbp, hnp, xx, hpt⟩ := hpa.at (i := 0) (show 0 < 1 by decide)
  obtain ⟨x0, x1, x2, x3, x4, x5, x6, x7, x8, x9, x10⟩ := xx
  have hl2 : r.l2 = 1 := hpt.rd.l2
  have hbn : r.bn = 0 := hpt.rd.bn
  have hos : Os w7 (.slice r.a2 r.l2 r.c2) [⟨kd4, ds4, hn4, ht4, ho4, hr4, hd4, hi4, lx4, ly4, lz4, nm4⟩] := hpt.rd.os
  have ho2 := hpt.o2
  rw [hl2] at hos ho2 x4
  rw [hbn] at x3
  obtain ⟨bo, oo, hbo, hblt, hco⟩ := Os.at (ys := [⟨kd4, ds4, hn4, ht4, ho4, hr4, hd4, hi4, lx4, ly4, lz4, nm4⟩]) hos (i := 0) (show 0 < 1 by decide)
  obtain ⟨o0, o1, o2, o3, o4, o5, o6, o7, o8, o9, o10, o11⟩ := hco.all
  have hnb := (ho2 (by decide) _ hbo).2
  rw [hbo] at x4
  obtain ⟨z0, z1, z2, z3, z4⟩ : w7.cell? ⟨bf, 0, none⟩ = some (.int .i64 n0.1) ∧ w7.cell? ⟨bf, 1, none⟩ = some (.int .i64 n0.2) ∧ w7.cell? ⟨bf, 2, none⟩ = some (.int .i64 n1.1) ∧ w7.cell? ⟨bf, 3, none⟩ = some (.int .i64 n1.2) ∧ w7.cell? ⟨bf, 4, none⟩ = some (.slice (some ⟨bp, op, none⟩) 1 c8) := ⟨zz0, zz1, zz2, zz3, zz4⟩
  clear zz0 zz1 zz2 zz3 zz4
  have x3' : w7.cell? ⟨bp, op + 3, none⟩ = some (.int .i64 0) := x3
  have x4' : w7.cell? ⟨bp, op + 4, none⟩ = some (.slice (some ⟨bo, oo, none⟩) 1 r.c2) := x4
  obtain ⟨v0, v1, v2, v3, v4, v5, v6, v7, v8, v9, v10, v11⟩ : w7.cell? ⟨bo, oo, none⟩ = some (.int .i64 kd4) ∧ w7.cell? ⟨bo, oo + 1, none⟩ = some (.int .i64 ds4) ∧ w7.cell? ⟨bo, oo + 2, none⟩ = some (.bool hn4) ∧ w7.cell? ⟨bo, oo + 3, none⟩ = some (.int .i64 ht4) ∧ w7.cell? ⟨bo, oo + 4, none⟩ = some (.int .i64 ho4) ∧ w7.cell? ⟨bo, oo + 5, none⟩ = some (.int .i64 hr4) ∧ w7.cell? ⟨bo, oo + 6, none⟩ = some (.int .i64 hd4) ∧ w7.cell? ⟨bo, oo + 7, none⟩ = some (.int .i64 hi4) ∧ w7.cell? ⟨bo, oo + 8, none⟩ = some (.int .i64 lx4) ∧ w7.cell? ⟨bo, oo + 9, none⟩ = some (.int .i64 ly4) ∧ w7.cell? ⟨bo, oo + 10, none⟩ = some (.int .i64 lz4) ∧ w7.cell? ⟨bo, oo + 11, none⟩ = some (.int .i64 nm4) := ⟨o0, o1, o2, o3, o4, o5, o6, o7, o8, o9, o10, o11⟩
  have hc1 : (1 : Nat) ≤ c7 := hcap
  obtain ⟨W8, hW8⟩ : ∃ W8, w7.alloc (.cells #[.int .i64 n0.1, .int .i64 n0.2, .int .i64 n1.1, .int .i64 n1.2, .slice (some ⟨bp, op, none⟩) 1 c8] 42) = W8 := ⟨_, rfl⟩
  obtain ⟨gf, hgf⟩ : ∃ g, w7.heap.size = g := ⟨_, rfl⟩
  have hb8 : Below w7.heap.size w7 W8 := hW8 ▸ (Below.refl _ w7).alloc (Nat.le_refl _) _
  have HSS : Hid ((W8.cell? ⟨p, 0, none⟩ = some (.int .i64 n0.1) ∧ W8.cell? ⟨p, 1, none⟩ = some (.int .i64 n0.2) ∧ W8.cell? ⟨(p + 1), 0, none⟩ = some (.int .i64 n1.1) ∧ W8.cell? ⟨(p + 1), 1, none⟩ = some (.int .i64 n1.2) ∧ W8.cell? ⟨(p + 2), 0, none⟩ = some (.int .i64 kd4) ∧ W8.cell? ⟨(p + 2), 1, none⟩ = some (.int .i64 ds4) ∧ W8.cell? ⟨(p + 2), 2, none⟩ = some (.bool hn4) ∧ W8.cell? ⟨(p + 2), 3, none⟩ = some (.int .i64 ht4) ∧ W8.cell? ⟨(p + 2), 4, none⟩ = some (.int .i64 ho4) ∧ W8.cell? ⟨(p + 2), 5, none⟩ = some (.int .i64 hr4) ∧ W8.cell? ⟨(p + 2), 6, none⟩ = some (.int .i64 hd4) ∧ W8.cell? ⟨(p + 2), 7, none⟩ = some (.int .i64 hi4) ∧ W8.cell? ⟨(p + 2), 8, none⟩ = some (.int .i64 lx4) ∧ W8.cell? ⟨(p + 2), 9, none⟩ = some (.int .i64 ly4) ∧ W8.cell? ⟨(p + 2), 10, none⟩ = some (.int .i64 lz4) ∧ W8.cell? ⟨(p + 2), 11, none⟩ = some (.int .i64 nm4)) ∧ (W8.cell? ⟨gf, 0, none⟩ = some (.int .i64 n0.1) ∧ W8.cell? ⟨gf, 1, none⟩ = some (.int .i64 n0.2) ∧ W8.cell? ⟨gf, 2, none⟩ = some (.int .i64 n1.1) ∧ W8.cell? ⟨gf, 3, none⟩ = some (.int .i64 n1.2) ∧ W8.cell? ⟨gf, 4, none⟩ = some (.slice (some ⟨bp, op, none⟩) 1 c8)) ∧ W8.cell? ⟨bp, op + 3, none⟩ = some (.int .i64 0) ∧ W8.cell? ⟨bp, op + 4, none⟩ = some (.slice (some ⟨bo, oo, none⟩) 1 r.c2) ∧ W8.cell? ⟨bo, oo, none⟩ = some (.int .i64 kd4) ∧ W8.cell? ⟨bo, oo + 1, none⟩ = some (.int .i64 ds4) ∧ W8.cell? ⟨bo, oo + 2, none⟩ = some (.bool hn4) ∧ W8.cell? ⟨bo, oo + 3, none⟩ = some (.int .i64 ht4) ∧ W8.cell? ⟨bo, oo + 4, none⟩ = some (.int .i64 ho4) ∧ W8.cell? ⟨bo, oo + 5, none⟩ = some (.int .i64 hr4) ∧ W8.cell? ⟨bo, oo + 6, none⟩ = some (.int .i64 hd4) ∧ W8.cell? ⟨bo, oo + 7, none⟩ = some (.int .i64 hi4) ∧ W8.cell? ⟨bo, oo + 8, none⟩ = some (.int .i64 lx4) ∧ W8.cell? ⟨bo, oo + 9, none⟩ = some (.int .i64 ly4) ∧ W8.cell? ⟨bo, oo + 10, none⟩ = some (.int .i64 lz4) ∧ W8.cell? ⟨bo, oo + 11, none⟩ = some (.int .i64 nm4)) := by
    obtain ⟨h0, h1, h2, h3, h4, h5, h6, h7, h8, h9, h10, h11, h12, h13, h14, h15⟩ := KB.out W8 (HB7.out.trans (hb8.mono HB7.out.size))
    have f : W8.cell? ⟨gf, 0, none⟩ = some (.int .i64 n0.1) ∧ W8.cell? ⟨gf, 1, none⟩ = some (.int .i64 n0.2) ∧ W8.cell? ⟨gf, 2, none⟩ = some (.int .i64 n1.1) ∧ W8.cell? ⟨gf, 3, none⟩ = some (.int .i64 n1.2) ∧ W8.cell? ⟨gf, 4, none⟩ = some (.slice (some ⟨bp, op, none⟩) 1 c8) := by
      rw [← hW8, ← hgf]
      refine ⟨?_, ?_, ?_, ?_, ?_⟩ <;> simp
    exact ⟨⟨h0, h1, h2, h3, h4, h5, h6, h7, h8, h9, h10, h11, h12, h13, h14, h15⟩, f, (hb8.cell (p := ⟨bp, op + 3, none⟩) hbp).trans x3', (hb8.cell (p := ⟨bp, op + 4, none⟩) hbp).trans x4', (hb8.cell (p := ⟨bo, _, none⟩) hblt).trans v0, (hb8.cell (p := ⟨bo, _, none⟩) hblt).trans v1, (hb8.cell (p := ⟨bo, _, none⟩) hblt).trans v2, (hb8.cell (p := ⟨bo, _, none⟩) hblt).trans v3, (hb8.cell (p := ⟨bo, _, none⟩) hblt).trans v4, (hb8.cell (p := ⟨bo, _, none⟩) hblt).trans v5, (hb8.cell (p := ⟨bo, _, none⟩) hblt).trans v6, (hb8.cell (p := ⟨bo, _, none⟩) hblt).trans v7, (hb8.cell (p := ⟨bo, _, none⟩) hblt).trans v8, (hb8.cell (p := ⟨bo, _, none⟩) hblt).trans v9, (hb8.cell (p := ⟨bo, _, none⟩) hblt).trans v10, (hb8.cell (p := ⟨bo, _, none⟩) hblt).trans v11⟩
  have KP : Hid (∀ (W : World), (∀ k, k < W8.heap.size → ¬ F7 k → ∀ j, W.cell? ⟨k, j, none⟩ = W8.cell? ⟨k, j, none⟩) → (W.cell? ⟨p, 0, none⟩ = some (.int .i64 n0.1) ∧ W.cell? ⟨p, 1, none⟩ = some (.int .i64 n0.2) ∧ W.cell? ⟨(p + 1), 0, none⟩ = some (.int .i64 n1.1) ∧ W.cell? ⟨(p + 1), 1, none⟩ = some (.int .i64 n1.2) ∧ W.cell? ⟨(p + 2), 0, none⟩ = some (.int .i64 kd4) ∧ W.cell? ⟨(p + 2), 1, none⟩ = some (.int .i64 ds4) ∧ W.cell? ⟨(p + 2), 2, none⟩ = some (.bool hn4) ∧ W.cell? ⟨(p + 2), 3, none⟩ = some (.int .i64 ht4) ∧ W.cell? ⟨(p + 2), 4, none⟩ = some (.int .i64 ho4) ∧ W.cell? ⟨(p + 2), 5, none⟩ = some (.int .i64 hr4) ∧ W.cell? ⟨(p + 2), 6, none⟩ = some (.int .i64 hd4) ∧ W.cell? ⟨(p + 2), 7, none⟩ = some (.int .i64 hi4) ∧ W.cell? ⟨(p + 2), 8, none⟩ = some (.int .i64 lx4) ∧ W.cell? ⟨(p + 2), 9, none⟩ = some (.int .i64 ly4) ∧ W.cell? ⟨(p + 2), 10, none⟩ = some (.int .i64 lz4) ∧ W.cell? ⟨(p + 2), 11, none⟩ = some (.int .i64 nm4)) ∧ (W.cell? ⟨gf, 0, none⟩ = some (.int .i64 n0.1) ∧ W.cell? ⟨gf, 1, none⟩ = some (.int .i64 n0.2) ∧ W.cell? ⟨gf, 2, none⟩ = some (.int .i64 n1.1) ∧ W.cell? ⟨gf, 3, none⟩ = some (.int .i64 n1.2) ∧ W.cell? ⟨gf, 4, none⟩ = some (.slice (some ⟨bp, op, none⟩) 1 c8)) ∧ W.cell? ⟨bp, op + 3, none⟩ = some (.int .i64 0) ∧ W.cell? ⟨bp, op + 4, none⟩ = some (.slice (some ⟨bo, oo, none⟩) 1 r.c2) ∧ W.cell? ⟨bo, oo, none⟩ = some (.int .i64 kd4) ∧ W.cell? ⟨bo, oo + 1, none⟩ = some (.int .i64 ds4) ∧ W.cell? ⟨bo, oo + 2, none⟩ = some (.bool hn4) ∧ W.cell? ⟨bo, oo + 3, none⟩ = some (.int .i64 ht4) ∧ W.cell? ⟨bo, oo + 4, none⟩ = some (.int .i64 ho4) ∧ W.cell? ⟨bo, oo + 5, none⟩ = some (.int .i64 hr4) ∧ W.cell? ⟨bo, oo + 6, none⟩ = some (.int .i64 hd4) ∧ W.cell? ⟨bo, oo + 7, none⟩ = some (.int .i64 hi4) ∧ W.cell? ⟨bo, oo + 8, none⟩ = some (.int .i64 lx4) ∧ W.cell? ⟨bo, oo + 9, none⟩ = some (.int .i64 ly4) ∧ W.cell? ⟨bo, oo + 10, none⟩ = some (.int .i64 lz4) ∧ W.cell? ⟨bo, oo + 11, none⟩ = some (.int .i64 nm4)) := fun W hk => by
    obtain ⟨⟨h0, h1, h2, h3, h4, h5, h6, h7, h8, h9, h10, h11, h12, h13, h14, h15⟩, ⟨f0, f1, f2, f3, f4⟩, g3, g4, u0, u1, u2, u3, u4, u5, u6, u7, u8, u9, u10, u11⟩ := HSS.out
    have e3 := HPS.out
    have e7 := HB7.out.size
    have e8 := hb8.size
    have nb : ∀ k, k < W1.heap.size → ¬ F7 k := fun k h1 h2 => by have := HF7.out k h2; omega
    have ngf : ¬ F7 gf := fun h => by have := HP7.out.lt gf h; omega
    have lgf : gf < W8.heap.size := World.block_lt_of_cell? W8 _ f0
    have nbp : ¬ F7 bp := fun h => hnp (.inl h)
    have lbp : bp < W8.heap.size := Nat.lt_of_lt_of_le hbp e8
    have nbo : ¬ F7 bo := fun h => hnb (.inl h)
    have lbo : bo < W8.heap.size := Nat.lt_of_lt_of_le hblt e8
    exact ⟨⟨(hk _ (by omega) (nb _ (by omega)) 0).trans h0, (hk _ (by omega) (nb _ (by omega)) 1).trans h1, (hk _ (by omega) (nb _ (by omega)) 0).trans h2, (hk _ (by omega) (nb _ (by omega)) 1).trans h3, (hk _ (by omega) (nb _ (by omega)) 0).trans h4, (hk _ (by omega) (nb _ (by omega)) 1).trans h5, (hk _ (by omega) (nb _ (by omega)) 2).trans h6, (hk _ (by omega) (nb _ (by omega)) 3).trans h7, (hk _ (by omega) (nb _ (by omega)) 4).trans h8, (hk _ (by omega) (nb _ (by omega)) 5).trans h9, (hk _ (by omega) (nb _ (by omega)) 6).trans h10, (hk _ (by omega) (nb _ (by omega)) 7).trans h11, (hk _ (by omega) (nb _ (by omega)) 8).trans h12, (hk _ (by omega) (nb _ (by omega)) 9).trans h13, (hk _ (by omega) (nb _ (by omega)) 10).trans h14, (hk _ (by omega) (nb _ (by omega)) 11).trans h15⟩, ⟨(hk _ lgf ngf 0).trans f0, (hk _ lgf ngf 1).trans f1, (hk _ lgf ngf 2).trans f2, (hk _ lgf ngf 3).trans f3, (hk _ lgf ngf 4).trans f4⟩, (hk _ lbp nbp _).trans g3, (hk _ lbp nbp _).trans g4, (hk _ lbo nbo _).trans u0, (hk _ lbo nbo _).trans u1, (hk _ lbo nbo _).trans u2, (hk _ lbo nbo _).trans u3, (hk _ lbo nbo _).trans u4, (hk _ lbo nbo _).trans u5, (hk _ lbo nbo _).trans u6, (hk _ lbo nbo _).trans u7, (hk _ lbo nbo _).trans u8, (hk _ lbo nbo _).trans u9, (hk _ lbo nbo _).trans u10, (hk _ lbo nbo _).trans u11⟩
  have HP8 := Lib.hid (HP7.out.below hb8)
  have HB8 : Hid (Below w.heap.size w W8) := HB1.out.trans ((HB7.out.trans (hb8.mono HB7.out.size)).mono HB1.out.size)
  have HF8 : Hid (∀ k, F7 k → w.heap.size ≤ k) := fun k hk => Nat.le_trans HB1.out.size (HF7.out k hk)
  have HW8 := Lib.hid hW8
  have HGF := Lib.hid hgf
  clear hpp hn hf hpa hpt hos ho2 hco hnb hb8 hW8 hgf hnp hbp hblt hnf hbf hcap x0 x1 x2 x3 x4 x5 x6 x7 x8 x9 x10 o0 o1 o2 o3 o4 o5 o6 o7 o8 o9 o10 o11 HC7 hl2 hbn hbo
  go_upto_region 14 with (fail)
  rw [HW8.out]
  try simp only [HGF.out]
  clear z0 z1 z2 z3 z4 x3' x4' v0 v1 v2 v3 v4 v5 v6 v7 v8 v9 v10 v11 hc1
  have S0 := HSS.out
  have E1 := guard37
  have E2 := eql37 ⟨kd4, ds4, hn4, ht4, ho4, hr4, hd4, hi4, lx4, ly4, lz4, nm4⟩
  dsimp only at E2
  have CI := fun (W : World) (h : PP W F7 b (⟨n0, n1, o1 a2 a3 ⟨kd4, ds4, hn4, ht4, ho4, hr4, hd4, hi4, lx4, ly4, lz4, nm4⟩ 1, tk0, false⟩ : Pr)) => pridle_any h
  rw [show idleB (⟨n0, n1, o1 a2 a3 ⟨kd4, ds4, hn4, ht4, ho4, hr4, hd4, hi4, lx4, ly4, lz4, nm4⟩ 1, tk0, false⟩ : Pr) = false from rfl] at CI
  have CFR : ∀ (W : World) (h : PP W F7 b (⟨n0, n1, o1 a2 a3 ⟨kd4, ds4, hn4, ht4, ho4, hr4, hd4, hi4, lx4, ly4, lz4, nm4⟩ 1, tk0, false⟩ : Pr)), Calls Tryz.prog 15 #[.pointer (some ⟨b, 0, none⟩)] W fun e w' => ∃ (a : Option Addr) (c : Nat), e = .returned (.slice a 0 c) ∧ ∃ F', Nx W w' F7 F' := fun W h => (prfr_any h).mono fun e w' ⟨r, he, F', _, hn, hf⟩ => by
    obtain ⟨a, c, rfl⟩ := hf.form
    exact ⟨a, c, he, F', hn⟩
  have HCI := Lib.hid CI
  have HCF := Lib.hid CFR
  clear CI CFR
  go_region_held (fun w' => (w'.cell? ⟨p, 0, none⟩ = some (.int .i64 n0.1) ∧ w'.cell? ⟨p, 1, none⟩ = some (.int .i64 n0.2) ∧ w'.cell? ⟨(p + 1), 0, none⟩ = some (.int .i64 n1.1) ∧ w'.cell? ⟨(p + 1), 1, none⟩ = some (.int .i64 n1.2) ∧ w'.cell? ⟨(p + 2), 0, none⟩ = some (.int .i64 kd4) ∧ w'.cell? ⟨(p + 2), 1, none⟩ = some (.int .i64 ds4) ∧ w'.cell? ⟨(p + 2), 2, none⟩ = some (.bool hn4) ∧ w'.cell? ⟨(p + 2), 3, none⟩ = some (.int .i64 ht4) ∧ w'.cell? ⟨(p + 2), 4, none⟩ = some (.int .i64 ho4) ∧ w'.cell? ⟨(p + 2), 5, none⟩ = some (.int .i64 hr4) ∧ w'.cell? ⟨(p + 2), 6, none⟩ = some (.int .i64 hd4) ∧ w'.cell? ⟨(p + 2), 7, none⟩ = some (.int .i64 hi4) ∧ w'.cell? ⟨(p + 2), 8, none⟩ = some (.int .i64 lx4) ∧ w'.cell? ⟨(p + 2), 9, none⟩ = some (.int .i64 ly4) ∧ w'.cell? ⟨(p + 2), 10, none⟩ = some (.int .i64 lz4) ∧ w'.cell? ⟨(p + 2), 11, none⟩ = some (.int .i64 nm4)) ∧ (w'.cell? ⟨gf, 0, none⟩ = some (.int .i64 n0.1) ∧ w'.cell? ⟨gf, 1, none⟩ = some (.int .i64 n0.2) ∧ w'.cell? ⟨gf, 2, none⟩ = some (.int .i64 n1.1) ∧ w'.cell? ⟨gf, 3, none⟩ = some (.int .i64 n1.2) ∧ w'.cell? ⟨gf, 4, none⟩ = some (.slice (some ⟨bp, op, none⟩) 1 c8)) ∧ w'.cell? ⟨bp, op + 3, none⟩ = some (.int .i64 0) ∧ w'.cell? ⟨bp, op + 4, none⟩ = some (.slice (some ⟨bo, oo, none⟩) 1 r.c2) ∧ w'.cell? ⟨bo, oo, none⟩ = some (.int .i64 kd4) ∧ w'.cell? ⟨bo, oo + 1, none⟩ = some (.int .i64 ds4) ∧ w'.cell? ⟨bo, oo + 2, none⟩ = some (.bool hn4) ∧ w'.cell? ⟨bo, oo + 3, none⟩ = some (.int .i64 ht4) ∧ w'.cell? ⟨bo, oo + 4, none⟩ = some (.int .i64 ho4) ∧ w'.cell? ⟨bo, oo + 5, none⟩ = some (.int .i64 hr4) ∧ w'.cell? ⟨bo, oo + 6, none⟩ = some (.int .i64 hd4) ∧ w'.cell? ⟨bo, oo + 7, none⟩ = some (.int .i64 hi4) ∧ w'.cell? ⟨bo, oo + 8, none⟩ = some (.int .i64 lx4) ∧ w'.cell? ⟨bo, oo + 9, none⟩ = some (.int .i64 ly4) ∧ w'.cell? ⟨bo, oo + 10, none⟩ = some (.int .i64 lz4) ∧ w'.cell? ⟨bo, oo + 11, none⟩ = some (.int .i64 nm4)) (first | exact S0 | exact S3 | exact S2 | exact S1 | go_keep) (first
    | (go_at_call 11; refine (awake16 _).mono ?_; rintro e wA ⟨rfl, hb⟩; have HBA : Hid (Below W8.heap.size W8 wA) := (((Below.refl W8.heap.size W8).drew).trans hb); have S1 := KP.out wA (fun k hk _ j => HBA.out.cell (p := ⟨k, j, none⟩) hk); clear hb)
    | (go_at_call 22; refine (HCI.out _ (HP8.out.below HBA.out)).mono ?_; rintro e wB ⟨rfl, hb⟩; have HBB : Hid (Below W8.heap.size W8 wB) := HBA.out.trans (hb.mono HBA.out.size); have S2 := KP.out wB (fun k hk _ j => HBB.out.cell (p := ⟨k, j, none⟩) hk); clear hb)
    | (go_at_call 15; refine (HCF.out _ (HP8.out.below HBB.out)).mono ?_; rintro e wC ⟨aC, cC, rfl, FC, hn⟩; have HNC := Lib.hid hn; have S3 := KP.out wC (fun k hk hn2 j => (hn.1.cell (b := k) (j := j) (Nat.lt_of_lt_of_le hk HBB.out.size) hn2).trans (HBB.out.cell (p := ⟨k, j, none⟩) hk)); clear hn))
  all_goals
    go_wp2_with fail
    go_ret
    exact ⟨rfl, (HB8.out.trans (HBB.out.mono HB8.out.size)).trans (HNC.out.1.below (Nat.le_trans HB8.out.size HBB.out.size) HF8.out)⟩

set_option maxRecDepth 100000 in
theorem lifted (os : _root_.Go.Os) (started : os.Started) (H : Type) (enc : TypeId × Value → H) :
    ReturnsInHanded {} Tryz.checked os 7 .any (Rows.pairFreshSpec.pre6 enc Tryz.prog Tryz.f7 Rows.pairFreshRow.domain false) (Rows.pairFreshSpec.post enc Tryz.prog Tryz.f7 false true false false) := by
  refine returnsInHanded_of_change (C := Tryz.checked) own started (by kernel_rfl) Tryz.func7
    (ChangeSpec.witness6 (enc := enc) (C := Tryz.checked) false ⟨#[], #[.agg #[.int .i64 0, .int .i64 0], .agg #[.int .i64 0, .int .i64 0], .int .i64 0, .int .i64 0, .agg #[.int .i64 0, .int .i64 0, .bool false, .int .i64 0, .int .i64 0, .int .i64 0, .int .i64 0, .int .i64 0, .int .i64 0, .int .i64 0, .int .i64 0, .int .i64 0]], []⟩ 16 (by kernel_rfl) (by kernel_rfl) (by kernel_rfl) (by kernel_rfl)) ?_
  intro W base args ds gs before hval0 hW hcnd _
  have hval : ∀ (j : Nat) t v, Tryz.f7.params[j]? = some t → args[j]? = some v → Value.okWide Tryz.prog W .any base t v := hval0
  have hW' := hW
  obtain ⟨p, q, hA0, hV, rfl, hfz, hnd⟩ := hW
  have hA : DataW.TrodAll enc Tryz.prog W 0 (fun _ => true) true Tryz.f7.params.toList args.toList ds p := hA0
  rw [Tryz.params7] at hA hval
  obtain ⟨v0, vs0, e0, ds0, p0, q0, hargs, rfl, rfl, h0, x0⟩ := trodAll_cons hA
  obtain ⟨v1, vs1, e1, ds1, p1, q1, rfl, rfl, rfl, h1, x1⟩ := trodAll_cons x0
  obtain ⟨v2, vs2, e2, ds2, p2, q2, rfl, rfl, rfl, h2, x2⟩ := trodAll_cons x1
  obtain ⟨v3, vs3, e3, ds3, p3, q3, rfl, rfl, rfl, h3, x3⟩ := trodAll_cons x2
  obtain ⟨v4, vs4, e4, ds4, p4, q4, rfl, rfl, rfl, h4, x4⟩ := trodAll_cons x3
  obtain ⟨rfl, rfl, rfl⟩ := trodAll_nil x4
  obtain rfl : args = #[v0, v1, v2, v3, v4] := by cases args; simp_all
  obtain ⟨rfl, rfl⟩ := trodVars_none hV
  have k0 := h0
  have lt0 : ∀ x ∈ p0, x.block < W.heap.size := by obtain ⟨m, hm⟩ := k0; exact DataW.trod_lt m _ _ _ hm
  have k1 := h1
  have lt1 : ∀ x ∈ p1, x.block < W.heap.size := by obtain ⟨m, hm⟩ := k1; exact DataW.trod_lt m _ _ _ hm
  have k2 := h2
  have lt2 : ∀ x ∈ p2, x.block < W.heap.size := by obtain ⟨m, hm⟩ := k2; exact DataW.trod_lt m _ _ _ hm
  obtain ⟨a2, rfl, _, _, w2⟩ := open_int Tryz.underlying3 (hval 2 3 v2 rfl rfl) h2
  have k3 := h3
  have lt3 : ∀ x ∈ p3, x.block < W.heap.size := by obtain ⟨m, hm⟩ := k3; exact DataW.trod_lt m _ _ _ hm
  obtain ⟨a3, rfl, _, _, w3⟩ := open_int Tryz.underlying3 (hval 3 3 v3 rfl rfl) h3
  have k4 := h4
  have lt4 : ∀ x ∈ p4, x.block < W.heap.size := by obtain ⟨m, hm⟩ := k4; exact DataW.trod_lt m _ _ _ hm
  obtain ⟨kd4, ds4, hn4, ht4, ho4, hr4, hd4, hi4, lx4, ly4, lz4, nm4, rfl⟩ := ob_form (hval 4 39 v4 rfl rfl) h4
  obtain ⟨n0, rfl⟩ := ec_form (hval 0 23 v0 rfl rfl) h0
  obtain ⟨n1, rfl⟩ := ec_form (hval 1 23 v1 rfl rfl) h1
  clear hA0 hval0
  refine (walk n0 n1 a2 (i64_wf w2) a3 (i64_wf w3) kd4 ds4 hn4 ht4 ho4 hr4 hd4 hi4 lx4 ly4 lz4 nm4 W).mono fun e W' ⟨he, bel⟩ => ?_
  subst he
  exact ⟨_, rfl, _, _, _, [], _, [], hW', trodAll_mk1 (shut_bool Tryz.underlying4 _), (trodAll_cons_mk (Below.trod laidOut (by kernel_rfl) (of_decide_eq_true (by kernel_rfl)) k0 bel lt0) (trodAll_cons_mk (Below.trod laidOut (by kernel_rfl) (of_decide_eq_true (by kernel_rfl)) k1 bel lt1) (trodAll_cons_mk (Below.trod laidOut (by kernel_rfl) (of_decide_eq_true (by kernel_rfl)) k2 bel lt2) (trodAll_cons_mk (Below.trod laidOut (by kernel_rfl) (of_decide_eq_true (by kernel_rfl)) k3 bel lt3) (trodAll_cons_mk (Below.trod laidOut (by kernel_rfl) (of_decide_eq_true (by kernel_rfl)) k4 bel lt4) trodAll_mk0))))), rfl, bel.frame _, fun h => by cases h⟩

theorem over : Rows.pairFreshRow.holds Tryz.pinned (OpenSpec.ofChange Rows.pairFreshSpec) :=
  OpenClaim.holds_of_wide 7 Tryz.f7 rfl rfl rfl rfl rfl rfl rfl ⟨rfl, rfl, rfl, rfl, rfl⟩ rfl rfl rfl rfl rfl (by kernel_rfl) Tryz.func7 (by kernel_rfl)
    (of_decide_eq_true (by kernel_rfl)) (by unfold Func.isWrapper; first | (rw [if_pos (by decide +kernel)]; kernel_rfl) | (rw [if_neg (by decide +kernel)]; exact ⟨rfl, rfl⟩))
    (fun os started H enc _ => lifted os started H enc)

theorem proved : Rows.PairFreshSaid := over
#print axioms proved
end Go.Proofs.YthnajpckhoomgaaGreat.pairFresh
