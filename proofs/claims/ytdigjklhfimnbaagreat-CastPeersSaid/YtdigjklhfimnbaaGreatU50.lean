/- Texts Ca9, Cab of this proof, in one. No conditions but on lengths. -/
import Derived.Test.YtdigjklhfimnbaaGreatRows
import Derived.Test.YtdigjklhfimnbaaGreatU47
import Derived.Test.YtdigjklhfimnbaaGreatU49
import Derived.ArgAppend
import Derived.Below
import Derived.BigQuiet
import Derived.BigRegion
import Derived.Calls
import Derived.ChangeAlike
import Derived.ChangeArms
import Derived.ChangeKeysEq
import Derived.ChangeMade
import Derived.ChangeOld
import Derived.Deep.Cut
import Derived.Deep.CutBlock
import Derived.Deep.LoopGhost
import Derived.Deep.QuietTactic
import Derived.Deep.RegionHeld
import Derived.Deep.RegionLaw
import Derived.Deep.RegionWith
import Derived.Deep.Slices
import Derived.Defers
import Derived.Ground.GgzProg
import Derived.Ground.Names2Prog
import Derived.Laws.AppendOwnNone
import Derived.Laws.BitsLemmas
import Derived.Laws.BytesArg
import Derived.Laws.LoneSync
import Derived.Laws.OwnMore
import Derived.Laws.Pointers
import Derived.Laws.Rows
import Derived.Laws.StructEq
import Derived.Laws.Tables
import Derived.Lib.ConvBytes
import Derived.Lib.Hide
import Derived.Lib.OwnBridge
import Derived.Lib.QuietBelow
import Derived.Lib.SliceRun
import Derived.Lib.SlicesCompact
import Derived.LoopIn
import Derived.LoopTactic
import Derived.Maps.AppendAt
import Derived.Maps.Own
import Derived.Maps.OwnOps
import Derived.Maps.OwnSet
import Derived.Maps.RangeWalk
import Derived.Maps.Views
import Derived.OpenShut
import Derived.Orders
import Derived.OrdersIn
import Derived.Outline
import Derived.OwnWalkIn
import Derived.ProofKit
import Derived.RangeFuncBox
import Derived.RangeFuncCalls
import Derived.RangeFuncLeaves
import Derived.RangeFuncNested
import Derived.RegionCalls
import Derived.RegionTactic
import Derived.Shelf.RegionOpen
import Derived.Shelf.RegionOpenPlain
import Derived.Shelf.SlIterI.Nil
import Derived.Shelf.Slices.CompactI
import Derived.Shelf.Slices.In.SortNone
import Derived.Shelf.Sort.Plain
import Derived.ShutString
import Derived.Sort.Grow
import Derived.StillTail
import Derived.TacticsInMore
import Derived.WalkKit
import Derived.WalkLawsBesides
import Derived.WalkSpells
import Derived.WideShapes
namespace Go.Proofs.YtdigjklhfimnbaaGreat
set_option maxRecDepth 100000
set_option linter.unusedVariables false
open Go.RowKit

section
variable {w w' : World} {F F' G : Nat → Prop} {b : Nat} {me : Nd} {win tr : Int} {M : Nat → Nat} {S : Nat → Option Pr}
set_option maxHeartbeats 4000000 in
theorem cpush_every (y : Ob) (hy : obc y.k y.x y.n y.t y.o y.r y.d y.i y.p y.q y.s y.m = 0) (h : CC w F b me win tr M S) : Calls Tryz.prog 26 #[.pointer (some ⟨b, 0, none⟩), .int .i64 255, .agg #[.int .i64 y.k, .int .i64 y.x, .bool y.n, .int .i64 y.t, .int .i64 y.o, .int .i64 y.r, .int .i64 y.d, .int .i64 y.i, .int .i64 y.p, .int .i64 y.q, .int .i64 y.s, .int .i64 y.m]] w fun e w' => e = .returned (.tuple #[.int .i64 (pshN y S (ksU S 64)), .int .i64 0]) ∧ ∃ F', CC w' F' b me win tr M (fun i => (S i).map (pshP y)) ∧ Nx w w' F F' := by
  obtain ⟨W1, hW1⟩ : ∃ W1, w.alloc (.cells #[.int .i64 y.k, .int .i64 y.x, .bool y.n, .int .i64 y.t, .int .i64 y.o, .int .i64 y.r, .int .i64 y.d, .int .i64 y.i, .int .i64 y.p, .int .i64 y.q, .int .i64 y.s, .int .i64 y.m] 41) = W1 := ⟨_, rfl⟩
  have hb : Below w.heap.size w W1 := hW1 ▸ (Below.refl _ w).alloc (Nat.le_refl _) _
  obtain ⟨g0, hg0⟩ : ∃ g0, w.heap.size = g0 := ⟨_, rfl⟩
  have KQ : Hid (W1.cell? ⟨g0, 0, none⟩ = some (.int .i64 y.k) ∧ W1.cell? ⟨g0, 1, none⟩ = some (.int .i64 y.x) ∧ W1.cell? ⟨g0, 2, none⟩ = some (.bool y.n) ∧ W1.cell? ⟨g0, 3, none⟩ = some (.int .i64 y.t) ∧ W1.cell? ⟨g0, 4, none⟩ = some (.int .i64 y.o) ∧ W1.cell? ⟨g0, 5, none⟩ = some (.int .i64 y.r) ∧ W1.cell? ⟨g0, 6, none⟩ = some (.int .i64 y.d) ∧ W1.cell? ⟨g0, 7, none⟩ = some (.int .i64 y.i) ∧ W1.cell? ⟨g0, 8, none⟩ = some (.int .i64 y.p) ∧ W1.cell? ⟨g0, 9, none⟩ = some (.int .i64 y.q) ∧ W1.cell? ⟨g0, 10, none⟩ = some (.int .i64 y.s) ∧ W1.cell? ⟨g0, 11, none⟩ = some (.int .i64 y.m)) := by
    rw [← hW1, ← hg0]
    refine ⟨?_, ?_, ?_, ?_, ?_, ?_, ?_, ?_, ?_, ?_, ?_, ?_⟩ <;> simp
  have HB := Lib.hid hb
  have HC := Lib.hid (h.below hb)
  have C1 := ocheck_any y.k y.x y.n y.t y.o y.r y.d y.i y.p y.q y.s y.m W1
  rw [hy] at C1
  have HW := Lib.hid hW1
  have HG := Lib.hid hg0
  clear hW1 hg0 hb h hy
  go_enter Tryz.func26, Tryz.ntmps26
  go_upto_region 1 with (fail)
  rw [HW.out]
  try simp only [HG.out]
  obtain ⟨k0, k1, k2, k3, k4, k5, k6, k7, k8, k9, k10, k11⟩ := KQ.out
  go_wp2_with fail
  refine C1.mono ?_
  rintro e W2 ⟨rfl, hb⟩
  have HB2 := Lib.hid (HB.out.trans (hb.mono HB.out.size))
  have HC2 := Lib.hid (HC.out.below hb)
  have e1 : g0 < W1.heap.size := World.block_lt_of_cell? W1 _ k0
  have KQ2 : Hid (W2.cell? ⟨g0, 0, none⟩ = some (.int .i64 y.k) ∧ W2.cell? ⟨g0, 1, none⟩ = some (.int .i64 y.x) ∧ W2.cell? ⟨g0, 2, none⟩ = some (.bool y.n) ∧ W2.cell? ⟨g0, 3, none⟩ = some (.int .i64 y.t) ∧ W2.cell? ⟨g0, 4, none⟩ = some (.int .i64 y.o) ∧ W2.cell? ⟨g0, 5, none⟩ = some (.int .i64 y.r) ∧ W2.cell? ⟨g0, 6, none⟩ = some (.int .i64 y.d) ∧ W2.cell? ⟨g0, 7, none⟩ = some (.int .i64 y.i) ∧ W2.cell? ⟨g0, 8, none⟩ = some (.int .i64 y.p) ∧ W2.cell? ⟨g0, 9, none⟩ = some (.int .i64 y.q) ∧ W2.cell? ⟨g0, 10, none⟩ = some (.int .i64 y.s) ∧ W2.cell? ⟨g0, 11, none⟩ = some (.int .i64 y.m)) := ⟨(hb.cell (p := ⟨g0, 0, none⟩) e1).trans k0, (hb.cell (p := ⟨g0, 1, none⟩) e1).trans k1, (hb.cell (p := ⟨g0, 2, none⟩) e1).trans k2, (hb.cell (p := ⟨g0, 3, none⟩) e1).trans k3, (hb.cell (p := ⟨g0, 4, none⟩) e1).trans k4, (hb.cell (p := ⟨g0, 5, none⟩) e1).trans k5, (hb.cell (p := ⟨g0, 6, none⟩) e1).trans k6, (hb.cell (p := ⟨g0, 7, none⟩) e1).trans k7, (hb.cell (p := ⟨g0, 8, none⟩) e1).trans k8, (hb.cell (p := ⟨g0, 9, none⟩) e1).trans k9, (hb.cell (p := ⟨g0, 10, none⟩) e1).trans k10, (hb.cell (p := ⟨g0, 11, none⟩) e1).trans k11⟩
  clear k0 k1 k2 k3 k4 k5 k6 k7 k8 k9 k10 k11 hb e1 C1
  go_wp2_with fail
  refine (cisn_any 255 W2).mono ?_
  rintro e W3 ⟨rfl, rfl⟩
  rw [show decide ((0 : Int) ≤ 255 ∧ (255 : Int) < 64) = false from rfl]
  obtain ⟨k0, k1, k2, k3, k4, k5, k6, k7, k8, k9, k10, k11⟩ := KQ2.out
  go_wp2_with fail
  refine (cpall_any y HC2.out).mono ?_
  rintro e W4 ⟨rfl, F', hc, hn⟩
  have HC4 := Lib.hid hc
  have HN4 : Hid (Nx w W4 F F') := (Nx.below HB2.out).trans hn
  obtain ⟨n, hn9⟩ : ∃ n, pshN y S (ksU S 64) = n := ⟨_, rfl⟩
  rw [hn9]
  have HN9 := Lib.hid hn9
  clear hc hn hn9 k0 k1 k2 k3 k4 k5 k6 k7 k8 k9 k10 k11
  go_wp2_with fail
  exact bodyPost_ret (v := .tuple #[.int .i64 n, .int .i64 0]) (by simp [results, Tryz.results26, go_sem]) rfl ⟨by rw [HN9.out], F', HC4.out, HN4.out⟩
end
def noS : Nat → Option Pr := fun _ => none
theorem zs68 (me : Nd) (win tr : Int) : ((((Tryz.zeroCells116.setIfInBounds 0 (.int .i64 me.1)).setIfInBounds 1 (.int .i64 me.2)).setIfInBounds 2 (.int .i64 win)).setIfInBounds 3 (.int .i64 tr) : Array Value) = (Value.int .i64 me.1 :: .int .i64 me.2 :: .int .i64 win :: .int .i64 tr :: List.replicate 64 (.pointer none)).toArray := rfl
set_option maxHeartbeats 4000000 in
theorem cnew_any (me : Nd) (win tr : Int) (w : World) : Calls Tryz.prog 19 #[.agg #[.int .i64 me.1, .int .i64 me.2], .int .i64 win, .int .i64 tr] w fun e w' => Below w.heap.size w w' ∧ ((¬ nwC me win tr ∧ e = .returned (.tuple #[.pointer none, .int .i64 1])) ∨ (nwC me win tr ∧ ∃ b F M, e = .returned (.tuple #[.pointer (some ⟨b, 0, none⟩), .int .i64 0]) ∧ CC w' F b me win tr M noS ∧ ∀ k, F k → w.heap.size ≤ k)) := by
  obtain ⟨W1, hW1⟩ : ∃ W1, w.alloc (.cells #[.int .i64 me.1, .int .i64 me.2] 23) = W1 := ⟨_, rfl⟩
  have HB : Hid (Below w.heap.size w W1) := hW1 ▸ (Below.refl _ w).alloc (Nat.le_refl _) _
  obtain ⟨g0, hg0⟩ : ∃ g0, w.heap.size = g0 := ⟨_, rfl⟩
  have HQ : Hid (NdAt W1 g0 me) := by
    rw [← hW1, ← hg0]
    exact ⟨by simp, by simp⟩
  have HW := Lib.hid hW1
  have HG := Lib.hid hg0
  clear hW1 hg0
  go_enter Tryz.func19, Tryz.ntmps19
  go_upto_region 1 with (fail)
  rw [HW.out]
  try simp only [HG.out]
  obtain ⟨q0, q1⟩ := HQ.out
  go_upto_region 2 with (fail)
  obtain ⟨x, hx⟩ : ∃ x, (wrap64 (me.1 + 1)).tmod 64 = x := ⟨_, rfl⟩
  have HX : Hid (NdOk me → NdOk (x, 0) ∧ me.1 ≠ x) := fun h => by
    obtain ⟨⟨a1, a2⟩, _⟩ := h
    have e : wrap64 (me.1 + 1) = me.1 + 1 := by unfold wrap64; omega
    rw [e, Int.tmod_eq_emod_of_nonneg (by omega)] at hx
    exact ⟨⟨⟨by show 0 ≤ x; omega, by show x < 64; omega⟩, by show EpOk 0; unfold EpOk; decide⟩, by omega⟩
  simp only [hx]
  obtain ⟨W2, hW2⟩ : ∃ W2, W1.alloc (.cells #[.int .i64 x, .int .i64 0] 23) = W2 := ⟨_, rfl⟩
  obtain ⟨g1, hg1⟩ : ∃ g1, W1.heap.size = g1 := ⟨_, rfl⟩
  have hb2 : Below W1.heap.size W1 W2 := hW2 ▸ (Below.refl _ W1).alloc (Nat.le_refl _) _
  have HB2 : Hid (Below w.heap.size w W2) := HB.out.trans (hb2.mono HB.out.size)
  have HQ2 : Hid (NdAt W2 g0 me ∧ NdAt W2 g1 (x, 0)) := ⟨HQ.out.below hb2, by rw [← hW2, ← hg1]; exact ⟨by simp, by simp⟩⟩
  have C := Lib.hid (prnew_any me (x, 0) win tr W2)
  rw [hW2]
  try simp only [hg1]
  clear hx hb2 hW2 hg1 q0 q1
  obtain ⟨⟨q0, q1⟩, q2, q3⟩ := HQ2.out
  go_wp2_with fail
  refine C.out.mono ?_
  rintro e W3 ⟨hb, ⟨hno, rfl⟩ | ⟨hyes, b0, F0, rfl, _, _⟩⟩
  · have HB3 := Lib.hid (HB2.out.trans (hb.mono HB2.out.size))
    have HN : Hid (¬ nwC me win tr) := fun h => hno ⟨h.1, (HX.out h.1).1, (HX.out h.1).2, h.2⟩
    clear hb hno C q0 q1 q2 q3
    go_wp2_with fail
    exact bodyPost_ret (v := .tuple #[.pointer none, .int .i64 1]) (by simp [results, Tryz.results19, go_sem]) rfl ⟨HB3.out, .inl ⟨HN.out, rfl⟩⟩
  · have HB3 := Lib.hid (HB2.out.trans (hb.mono HB2.out.size))
    have HY : Hid (nwC me win tr) := ⟨hyes.1, hyes.2.2.2⟩
    have HQ3 : Hid (NdAt W3 g0 me) := HQ2.out.1.below hb
    clear hb hyes C q0 q1 q2 q3
    obtain ⟨q0, q1⟩ := HQ3.out
    obtain ⟨W4, hW4⟩ : ∃ W4, W3.alloc (.cells ((((Tryz.zeroCells116.setIfInBounds 0 (.int .i64 me.1)).setIfInBounds 1 (.int .i64 me.2)).setIfInBounds 2 (.int .i64 win)).setIfInBounds 3 (.int .i64 tr)) 116) = W4 := ⟨_, rfl⟩
    obtain ⟨g3, hg3⟩ : ∃ g3, W3.heap.size = g3 := ⟨_, rfl⟩
    have hb4 : Below W3.heap.size W3 W4 := hW4 ▸ (Below.refl _ W3).alloc (Nat.le_refl _) _
    have HB4 : Hid (Below w.heap.size w W4) := HB3.out.trans (hb4.mono HB3.out.size)
    have hcell : ∀ j, W4.cell? ⟨g3, j, none⟩ = (Value.int .i64 me.1 :: .int .i64 me.2 :: .int .i64 win :: .int .i64 tr :: List.replicate 64 (.pointer none))[j]? := fun j => by
      rw [← hW4, ← hg3, zs68]
      simp [World.cell?_alloc_new]
    have HCC : Hid (∃ F, CC W4 F g3 me win tr (fun _ => 0) noS ∧ ∀ k, F k → w.heap.size ≤ k) := by
      refine ⟨CF g3 (fun _ _ => False) noS, ⟨fun _ _ => False, ⟨hcell 0, hcell 1, hcell 2, hcell 3, fun i hi => ?_, fun j => ?_, fun i p hi => (by cases hi), fun i j p q _ hi => (by cases hi), HY.out.1, HY.out.2⟩, rfl⟩, fun k hk => ?_⟩
      · rw [hcell (4 + i), show 4 + i = i + 1 + 1 + 1 + 1 by omega]
        simp only [List.getElem?_cons_succ]
        rw [List.getElem?_replicate, if_pos hi]
        rfl
      · rw [← hW4, ← hg3]; simp
      · rcases hk with rfl | ⟨i, p, hi, _⟩
        · have := HB3.out.size; omega
        · cases hi
    have HG3 := Lib.hid hg3
    have HW4 := Lib.hid hW4
    clear hW4 hg3 hb4 hcell
    go_wp2_with fail
    rw [HW4.out]
    try simp only [HG3.out]
    obtain ⟨F, h1, h2⟩ := HCC.out
    exact bodyPost_ret (v := .tuple #[.pointer (some ⟨g3, 0, none⟩), .int .i64 0]) (by simp [results, Tryz.results19, go_sem]) rfl ⟨HB4.out, .inr ⟨HY.out, g3, F, _, rfl, h1, h2⟩⟩
end Go.Proofs.YtdigjklhfimnbaaGreat
/- The document's example of a cast. No conditions. -/
namespace Go.Proofs.YtdigjklhfimnbaaGreat
set_option maxRecDepth 100000
set_option linter.unusedVariables false
open Go.RowKit

def yq5 : Ob := ⟨1, 5, false, 0, 0, 0, 0, 0, 0, 0, 0, 0⟩
def aP (pe : Nd) (s : Sd) : Pr := ⟨(1, 0), pe, s, tk0, false⟩
def aS (s : Sd) : Nat → Option Pr := upd (upd noS 3 (some (aP (3, 0) s))) 2 (some (aP (2, 7) s))
theorem aS_map (s s' : Sd) (g : Pr → Pr) (h : ∀ pe, g (aP pe s) = aP pe s') : (fun i => (aS s i).map g) = aS s' := by
  funext i
  unfold aS
  by_cases h2 : i = 2
  · subst h2
    rw [upd_same, upd_same]
    exact congrArg some (h _)
  · rw [upd_other _ _ h2, upd_other _ _ h2]
    by_cases h3 : i = 3
    · subst h3
      rw [upd_same, upd_same]
      exact congrArg some (h _)
    · rw [upd_other _ _ h3, upd_other _ _ h3]
      rfl
theorem aS_ks (s : Sd) : ksU (aS s) 64 = [2, 3] := by
  have e : (fun i => (aS s i).isSome) = fun i => decide (i = 2 ∨ i = 3) := by
    funext i
    unfold aS
    by_cases h2 : i = 2
    · subst h2
      rw [upd_same]
      rfl
    · rw [upd_other _ _ h2]
      by_cases h3 : i = 3
      · subst h3
        rw [upd_same]
        rfl
      · rw [upd_other _ _ h3, decide_eq_false (fun h => h.elim h2 h3)]
        rfl
  unfold ksU
  rw [e]
  decide
theorem aS2 (s : Sd) : aS s 2 = some (aP (2, 7) s) := upd_same _ _ _
theorem aS3 (s : Sd) : aS s 3 = some (aP (3, 0) s) := by
  unfold aS
  rw [upd_other _ _ (by decide), upd_same]
theorem aS9 (s : Sd) : aS s 9 = none := by
  unfold aS
  rw [upd_other _ _ (by decide), upd_other _ _ (by decide)]
  rfl
def a0 : Sd := sd0 2 2
def a1 : Sd := ⟨2, 2, [yq5], [], 0⟩
def a2 : Sd := o1 2 2 yq5 1
theorem yq5_ok : yq5.Ok := by decide
theorem a_n : pshN yq5 (aS a0) (ksU (aS a0) 64) = 2 := by
  rw [aS_ks]
  have h : ∀ i pe, aS a0 i = some (aP pe a0) → okP yq5 (aS a0) i = true := fun i pe hi => by
    unfold okP
    rw [hi]
    show decide ((pushR (sd0 2 2) yq5).1 = 0) = true
    rw [o1_push yq5_ok]
    rfl
  unfold pshN
  rw [List.filter_cons_of_pos (h 2 _ (aS2 a0)), List.filter_cons_of_pos (h 3 _ (aS3 a0))]
  rfl
theorem a_m1 : (fun i => (aS a0 i).map (pshP yq5)) = aS a1 := aS_map a0 a1 _ (fun pe => by
  show (⟨(1, 0), pe, (pushR (sd0 2 2) yq5).2, tk0, false⟩ : Pr) = _
  rw [o1_push yq5_ok]
  rfl)
theorem a_m2 : (fun i => (aS a1 i).map frS) = aS a2 := aS_map a1 a2 _ (fun pe => by
  show (⟨(1, 0), pe, sdS ⟨2, 2, [yq5], [], 0⟩, tk0, false⟩ : Pr) = _
  rw [(o1_send (by decide)).2]
  rfl)
theorem a_fr : (ksU (aS a1) 64).flatMap (gO (aS a1) frmP) = [((1, 0, 2, 7), [ptB (0, [yq5])]), ((1, 0, 3, 0), [ptB (0, [yq5])])] := by
  have h : ∀ pe : Nd, frmP (aP pe a1) = [((1, 0, pe.1, pe.2), [ptB (0, [yq5])])] := fun pe => by
    unfold frmP
    rw [show sdT (aP pe a1).s = [(0, [yq5])] from (o1_send (by decide)).1]
    rfl
  rw [aS_ks, List.flatMap_cons, List.flatMap_cons, List.flatMap_nil, gO_some (aS2 a1), gO_some (aS3 a1), h, h]
  rfl
theorem a_id : false = true ↔ ∀ i ∈ ksU (aS a2) 64, idO (aS a2) i = true := by
  rw [aS_ks]
  refine ⟨fun h => (by cases h), fun h => ?_⟩
  have h2 := h 2 (by simp)
  unfold idO at h2
  rw [aS2] at h2
  cases h2
theorem a_up1 : NdOk (3, 0) ∧ ((1, 0) : Nd).1 ≠ ((3, 0) : Nd).1 := by decide
theorem a_up2 : NdOk (2, 7) ∧ ((1, 0) : Nd).1 ≠ ((2, 7) : Nd).1 := by decide
theorem a_nw : nwC (1, 0) 2 2 := by unfold nwC; decide
theorem Nx.bel {w w1 w2 : World} {F1 F2 : Nat → Prop} (hb : Below w.heap.size w w1) (hF : ∀ k, F1 k → w.heap.size ≤ k) (hn : Nx w1 w2 F1 F2) : Below w.heap.size w w2 := hb.trans (hn.1.below hb.size hF)
set_option maxHeartbeats 32000000 in
theorem awake17 (w : World) : Calls Tryz.prog 21 #[] w fun e w' => e = .returned (.bool true) ∧ Below w.heap.size w w' := by
  have C1 := Lib.hid (cnew_any (1, 0) 2 2 w)
  go_enter Tryz.func21, Tryz.ntmps21
  go_wp2_with fail
  refine C1.out.mono ?_
  rintro e w1 ⟨hb, ⟨hno, _⟩ | ⟨_, b, F1, M1, rfl, hc, hF⟩⟩
  · exact absurd a_nw hno
  have HB := Lib.hid hb
  have HF := Lib.hid hF
  have C2 := Lib.hid (cup_any (3, 0) hc)
  clear hb hF hc C1
  go_wp2_with fail
  refine C2.out.mono ?_
  rintro e w2 (⟨hno, _⟩ | ⟨_, hno, _⟩ | ⟨_, _, rfl, F2, s2, hc, hn⟩)
  · exact absurd a_up1 hno
  · exact absurd rfl hno
  have HN2 := Lib.hid hn
  have C3 := Lib.hid (cup_any (2, 7) hc)
  clear hn hc C2
  go_wp2_with fail
  refine C3.out.mono ?_
  rintro e w3 (⟨hno, _⟩ | ⟨_, hno, _⟩ | ⟨_, _, rfl, F3, s3, hc, hn⟩)
  · exact absurd a_up2 hno
  · exact absurd rfl hno
  have HN3 := Lib.hid (HN2.out.trans hn)
  have hc3 : CC w3 F3 b (1, 0) 2 2 _ (aS a0) := hc
  have C4 := cpush_every yq5 (by decide) hc3
  rw [a_n, a_m1] at C4
  have HC4 := Lib.hid C4
  clear hn hc hc3 C3 C4
  go_wp2_with fail
  refine HC4.out.mono ?_
  rintro e w4 ⟨rfl, F4, hc, hn⟩
  have HN4 := Lib.hid (HN3.out.trans hn)
  have C5 := cfr_any hc
  rw [a_fr, a_m2] at C5
  have HC5 := Lib.hid C5
  clear hn hc HC4 C5
  go_wp2_with fail
  refine HC5.out.mono ?_
  rintro e w5 ⟨r5, rfl, F5, hc, hn, hf⟩
  have HN5 := Lib.hid (HN4.out.trans hn)
  obtain ⟨a5, c5, rfl⟩ := hf.form
  obtain ⟨bx, _, _, rfl, hcap, hbx, _, ⟨_, _, z2, _, _⟩, _⟩ := hf.at (i := 0) (show 0 < 2 by decide)
  obtain ⟨bx', _, _, e9, _, _, _, ⟨_, _, z7, _, _⟩, _⟩ := hf.at (i := 1) (show 1 < 2 by decide)
  have e10 : bx = bx' := by simpa using e9
  subst e10
  have y2 : w5.cell? ⟨bx, 2, none⟩ = some (.int .i64 2) := z2
  have y7 : w5.cell? ⟨bx, 7, none⟩ = some (.int .i64 3) := z7
  have hc1 : (2 : Nat) ≤ c5 := hcap
  have C6 := Lib.hid (cup_any (3, 0) hc)
  have HC := Lib.hid hc
  clear hn hc hf z2 z7 e9 HC5 hcap
  go_wp2_with fail
  refine C6.out.mono ?_
  rintro e w6 (⟨hno, _⟩ | ⟨_, _, rfl, hb⟩ | ⟨_, hno, _⟩)
  · exact absurd a_up1 hno
  rotate_left
  · exact absurd ((aS3 a2).symm.trans hno) (by simp)
  have HN6 : Hid (Nx w1 w6 F1 F5) := HN5.out.trans (.below hb)
  have HC6 := Lib.hid (HC.out.below hb)
  have C7 := Lib.hid (cdown_any 9 HC6.out)
  clear hb y2 y7 C6
  go_wp2_with fail
  refine C7.out.mono ?_
  rintro e w7 (⟨_, rfl, hb⟩ | ⟨_, hno, _⟩)
  rotate_left
  · exact absurd (aS9 a2) hno
  have HN7 : Hid (Nx w1 w7 F1 F5) := HN6.out.trans (.below hb)
  have C8 := Lib.hid (cidle_any false a_id (HC6.out.below hb))
  clear hb C7
  go_wp2_with fail
  refine C8.out.mono ?_
  rintro e w8 ⟨rfl, hb⟩
  have HN8 : Hid (Nx w1 w8 F1 F5) := HN7.out.trans (.below hb)
  clear hb C8
  go_wp2_with fail
  go_ret
  exact ⟨rfl, Nx.bel HB.out HF.out HN8.out⟩
end Go.Proofs.YtdigjklhfimnbaaGreat
