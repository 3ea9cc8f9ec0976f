/- Texts Cac, Yad, Cad of this proof, in one. No conditions but on lengths. -/
import Derived.Test.YtdigjklhfimnbaaGreatRows
import Derived.Test.YtdigjklhfimnbaaGreatU46
import Derived.ArgAppend
import Derived.Below
import Derived.BigQuiet
import Derived.BigRegion
import Derived.Calls
import Derived.ChangeAlike
import Derived.ChangeArms
import Derived.ChangeKeysEq
import Derived.ChangeMade
import Derived.ChangeOld
import Derived.Deep.Cut
import Derived.Deep.CutBlock
import Derived.Deep.LoopGhost
import Derived.Deep.QuietTactic
import Derived.Deep.RegionHeld
import Derived.Deep.RegionLaw
import Derived.Deep.RegionWith
import Derived.Deep.Slices
import Derived.Defers
import Derived.Ground.GgzProg
import Derived.Ground.Names2Prog
import Derived.Laws.AppendOwnNone
import Derived.Laws.BitsLemmas
import Derived.Laws.BytesArg
import Derived.Laws.LoneSync
import Derived.Laws.OwnMore
import Derived.Laws.Pointers
import Derived.Laws.Rows
import Derived.Laws.StructEq
import Derived.Laws.Tables
import Derived.Lib.ConvBytes
import Derived.Lib.Hide
import Derived.Lib.OwnBridge
import Derived.Lib.QuietBelow
import Derived.Lib.SliceRun
import Derived.Lib.SlicesCompact
import Derived.LoopIn
import Derived.LoopTactic
import Derived.Maps.AppendAt
import Derived.Maps.Own
import Derived.Maps.OwnOps
import Derived.Maps.OwnSet
import Derived.Maps.RangeWalk
import Derived.Maps.Views
import Derived.OpenShut
import Derived.Orders
import Derived.OrdersIn
import Derived.Outline
import Derived.OwnWalkIn
import Derived.ProofKit
import Derived.RangeFuncBox
import Derived.RangeFuncCalls
import Derived.RangeFuncLeaves
import Derived.RangeFuncNested
import Derived.RegionCalls
import Derived.RegionTactic
import Derived.Shelf.RegionOpen
import Derived.Shelf.RegionOpenPlain
import Derived.Shelf.SlIterI.Nil
import Derived.Shelf.Slices.CompactI
import Derived.Shelf.Slices.In.SortNone
import Derived.Shelf.Sort.Plain
import Derived.ShutString
import Derived.Sort.Grow
import Derived.StillTail
import Derived.TacticsInMore
import Derived.WalkKit
import Derived.WalkLawsBesides
import Derived.WalkSpells
import Derived.WideShapes
/- A cast that is nil. No conditions. -/
namespace Go.Proofs.YtdigjklhfimnbaaGreat
set_option maxRecDepth 100000
set_option linter.unusedVariables false
open Go.RowKit

attribute [local go_sem] Oper.semAt_some
theorem cnil_up (pe : Nd) (w : World) : Calls Tryz.prog 22 #[.pointer none, .agg #[.int .i64 pe.1, .int .i64 pe.2]] w fun e w' => e = .returned (.int .i64 3) ∧ Below w.heap.size w w' := by
  obtain ⟨W1, hW1⟩ : ∃ W1, w.alloc (.cells #[.int .i64 pe.1, .int .i64 pe.2] 23) = W1 := ⟨_, rfl⟩
  have HB : Hid (Below w.heap.size w W1) := hW1 ▸ (Below.refl _ w).alloc (Nat.le_refl _) _
  have HW := Lib.hid hW1
  clear hW1
  go_enter Tryz.func22, Tryz.ntmps22
  go_upto_region 1 with (fail)
  rw [HW.out]
  go_wp2_with fail
  go_ret
  exact ⟨rfl, HB.out⟩
theorem cnil_down (i : Int) (w : World) : Calls Tryz.prog 24 #[.pointer none, .int .i64 i] w fun e w' => e = .returned (.int .i64 3) ∧ Below w.heap.size w w' := by
  go_enter Tryz.func24, Tryz.ntmps24
  go_wp2_with fail
  go_ret
  exact ⟨rfl, Below.refl _ _⟩
theorem cnil_push (i : Int) (y : Ob) (w : World) : Calls Tryz.prog 26 #[.pointer none, .int .i64 i, .agg #[.int .i64 y.k, .int .i64 y.x, .bool y.n, .int .i64 y.t, .int .i64 y.o, .int .i64 y.r, .int .i64 y.d, .int .i64 y.i, .int .i64 y.p, .int .i64 y.q, .int .i64 y.s, .int .i64 y.m]] w fun e w' => e = .returned (.tuple #[.int .i64 0, .int .i64 3]) ∧ Below w.heap.size w w' := by
  obtain ⟨W1, hW1⟩ : ∃ W1, w.alloc (.cells #[.int .i64 y.k, .int .i64 y.x, .bool y.n, .int .i64 y.t, .int .i64 y.o, .int .i64 y.r, .int .i64 y.d, .int .i64 y.i, .int .i64 y.p, .int .i64 y.q, .int .i64 y.s, .int .i64 y.m] 41) = W1 := ⟨_, rfl⟩
  have HB : Hid (Below w.heap.size w W1) := hW1 ▸ (Below.refl _ w).alloc (Nat.le_refl _) _
  have HW := Lib.hid hW1
  clear hW1
  go_enter Tryz.func26, Tryz.ntmps26
  go_upto_region 1 with (fail)
  rw [HW.out]
  go_wp2_with fail
  exact bodyPost_ret (v := .tuple #[.int .i64 0, .int .i64 3]) (by simp [results, Tryz.results26, go_sem]) rfl ⟨rfl, HB.out⟩
theorem cnil_hear (x : Hd4) (a : Option Addr) (l c : Nat) (w : World) : Calls Tryz.prog 34 #[.pointer none, .agg #[.int .i64 x.1, .int .i64 x.2.1, .int .i64 x.2.2.1, .int .i64 x.2.2.2, .slice a l c]] w fun e w' => e = .returned (.tuple #[.slice none 0 0, .int .i64 3]) ∧ Below w.heap.size w w' := by
  obtain ⟨W1, hW1⟩ : ∃ W1, w.alloc (.cells #[.int .i64 x.1, .int .i64 x.2.1, .int .i64 x.2.2.1, .int .i64 x.2.2.2, .slice a l c] 51) = W1 := ⟨_, rfl⟩
  have HB : Hid (Below w.heap.size w W1) := hW1 ▸ (Below.refl _ w).alloc (Nat.le_refl _) _
  have HW := Lib.hid hW1
  clear hW1
  go_enter Tryz.func34, Tryz.ntmps34
  go_upto_region 1 with (fail)
  rw [HW.out]
  go_wp2_with fail
  exact bodyPost_ret (v := .tuple #[.slice none 0 0, .int .i64 3]) (by simp [results, Tryz.results34, go_sem]) rfl ⟨rfl, HB.out⟩
set_option maxHeartbeats 8000000 in
theorem cnil_frames (w : World) : Calls Tryz.prog 29 #[.pointer none] w fun e w' => e = .returned (.slice none 0 0) ∧ Below w.heap.size w w' := by
  obtain ⟨W1, hW1⟩ : ∃ W1, W1 = w.alloc (.cells #[.slice none 0 0] 32) := ⟨_, rfl⟩
  have hb1 : Below w.heap.size w W1 := by rw [hW1]; exact ((Below.refl _ w).alloc (Nat.le_refl _) _)
  have hs1 : W1.heap.size = w.heap.size + 1 := by rw [hW1]; simp
  have cT := itall W1 none
  obtain ⟨W2, hW2⟩ : ∃ W2, W2 = W1.alloc (.cells #[pt none] 56) := ⟨_, rfl⟩
  rw [← hW2, hs1] at cT
  have hb2 : Below w.heap.size w W2 := by rw [hW2]; exact hb1.alloc (by omega) _
  have hs2 : W2.heap.size = w.heap.size + 2 := by rw [hW2]; simp [hs1]
  have bL : W2.cell? ⟨w.heap.size + 1, 0, none⟩ = some (.pointer none) := by rw [hW2, ← hs1]; simp [pt]
  have SQ := it_nil 4 W2 (w.heap.size + 1) (w.heap.size + 2) (encS fun _ => 0) bL
  have b0 : Boxed W2 (w.heap.size) 32 (.slice none 0 0) := by
    rw [hW2, hW1]
    exact (Boxed.new w 32 _).alloc _
  simp only [pt, Option.map_none] at cT
  clear hb1
  refine callsIn_wide.1 (callsIn_of_wp_marks (n := 5) Tryz.func29 rfl trivial ?_ rfl)
  simp only [Tryz.ntmps29, List.size_toArray, List.length_cons, List.length_nil, Nat.reduceAdd, Nat.reduceSub, Array.replicate_succ, Array.replicate_zero, List.push_toArray, List.append_toArray, List.nil_append, List.cons_append]
  gi_wp2_with fail
  rw [← hW1]
  refine wideC' (cT.mono ?_)
  rintro e V2 ⟨rfl, rfl⟩
  clear cT hW1 hW2
  gi_wp2_with fail
  refine wpIn_rangeFuncV rfl (by decide) (gf := 108) (lb := #[.pointer (some ⟨w.heap.size + 1, 0, none⟩)]) rfl trivial (enters_of Tryz.func108 (by kernel_rfl) rfl) SQ (Below.refl _ _) (fun _ => rfl)
    (w.heap.size + 2) (w.heap.size + 2 + 2 + 0) hs2 rfl (by omega) (by omega) (by omega)
    (fun (_ : List Nat) W => Boxed W (w.heap.size) 32 (.slice none 0 0) ∧ Below w.heap.size w W) (fun _ _ _ => False) (abK_and (abK_boxed (by omega) _) (abK_below (by omega) (Nat.le_refl _))) (fun _ _ _ _ _ h _ _ => h) ⟨b0, hb2⟩ ?round ?done ?stop
  case round =>
    rintro l pre x W hI hsz hpre
    exact absurd hpre.length_le (by simp)
  case stop =>
    rintro ex pre W hpre h
    exact h.elim
  case done =>
    rintro W ⟨d0, hb⟩ hK
    have c0 := d0.cell
    have HB9 : Hid (Below w.heap.size w (W.putObj (w.heap.size + 2) (.deferred none))) := hb.grown (grownBy_putObj' _ _ _) hb.size (fun k e => by cases e; omega)
    clear SQ hb2 bL
    gi_wp2_with fail
    exact postM_cell hK (v := .slice none 0 0) (by simp [results, Tryz.results29, go_sem]) ⟨rfl, HB9.out⟩
set_option maxHeartbeats 8000000 in
theorem cnil_peers (w : World) : Calls Tryz.prog 38 #[.pointer none] w fun e w' => e = .returned (.slice none 0 0) ∧ Below w.heap.size w w' := by
  obtain ⟨W1, hW1⟩ : ∃ W1, W1 = w.alloc (.cells #[.slice none 0 0] 78) := ⟨_, rfl⟩
  have hb1 : Below w.heap.size w W1 := by rw [hW1]; exact ((Below.refl _ w).alloc (Nat.le_refl _) _)
  have hs1 : W1.heap.size = w.heap.size + 1 := by rw [hW1]; simp
  have cT := itall W1 none
  obtain ⟨W2, hW2⟩ : ∃ W2, W2 = W1.alloc (.cells #[pt none] 56) := ⟨_, rfl⟩
  rw [← hW2, hs1] at cT
  have hb2 : Below w.heap.size w W2 := by rw [hW2]; exact hb1.alloc (by omega) _
  have hs2 : W2.heap.size = w.heap.size + 2 := by rw [hW2]; simp [hs1]
  have bL : W2.cell? ⟨w.heap.size + 1, 0, none⟩ = some (.pointer none) := by rw [hW2, ← hs1]; simp [pt]
  have SQ := it_nil 4 W2 (w.heap.size + 1) (w.heap.size + 2) (encS fun _ => 0) bL
  have b0 : Boxed W2 (w.heap.size) 78 (.slice none 0 0) := by
    rw [hW2, hW1]
    exact (Boxed.new w 78 _).alloc _
  simp only [pt, Option.map_none] at cT
  clear hb1
  refine callsIn_wide.1 (callsIn_of_wp_marks (n := 5) Tryz.func38 rfl trivial ?_ rfl)
  simp only [Tryz.ntmps38, List.size_toArray, List.length_cons, List.length_nil, Nat.reduceAdd, Nat.reduceSub, Array.replicate_succ, Array.replicate_zero, List.push_toArray, List.append_toArray, List.nil_append, List.cons_append]
  gi_wp2_with fail
  rw [← hW1]
  refine wideC' (cT.mono ?_)
  rintro e V2 ⟨rfl, rfl⟩
  clear cT hW1 hW2
  gi_wp2_with fail
  refine wpIn_rangeFuncV rfl (by decide) (gf := 108) (lb := #[.pointer (some ⟨w.heap.size + 1, 0, none⟩)]) rfl trivial (enters_of Tryz.func108 (by kernel_rfl) rfl) SQ (Below.refl _ _) (fun _ => rfl)
    (w.heap.size + 2) (w.heap.size + 2 + 2 + 0) hs2 rfl (by omega) (by omega) (by omega)
    (fun (_ : List Nat) W => Boxed W (w.heap.size) 78 (.slice none 0 0) ∧ Below w.heap.size w W) (fun _ _ _ => False) (abK_and (abK_boxed (by omega) _) (abK_below (by omega) (Nat.le_refl _))) (fun _ _ _ _ _ h _ _ => h) ⟨b0, hb2⟩ ?round ?done ?stop
  case round =>
    rintro l pre x W hI hsz hpre
    exact absurd hpre.length_le (by simp)
  case stop =>
    rintro ex pre W hpre h
    exact h.elim
  case done =>
    rintro W ⟨d0, hb⟩ hK
    have c0 := d0.cell
    have HB9 : Hid (Below w.heap.size w (W.putObj (w.heap.size + 2) (.deferred none))) := hb.grown (grownBy_putObj' _ _ _) hb.size (fun k e => by cases e; omega)
    clear SQ hb2 bL
    gi_wp2_with fail
    exact postM_cell hK (v := .slice none 0 0) (by simp [results, Tryz.results38, go_sem]) ⟨rfl, HB9.out⟩
set_option maxHeartbeats 8000000 in
theorem cnil_again (w : World) : Calls Tryz.prog 31 #[.pointer none] w fun e w' => e = .returned (.tuple #[.slice none 0 0, .slice none 0 0]) ∧ Below w.heap.size w w' := by
  obtain ⟨W1, hW1⟩ : ∃ W1, W1 = (w.alloc (.cells #[.slice none 0 0] 32)).alloc (.cells #[.slice none 0 0] 69) := ⟨_, rfl⟩
  have hb1 : Below w.heap.size w W1 := by rw [hW1]; exact (((Below.refl _ w).alloc (Nat.le_refl _) _).alloc (by simp) _)
  have hs1 : W1.heap.size = w.heap.size + 2 := by rw [hW1]; simp
  have cT := itall W1 none
  obtain ⟨W2, hW2⟩ : ∃ W2, W2 = W1.alloc (.cells #[pt none] 56) := ⟨_, rfl⟩
  rw [← hW2, hs1] at cT
  have hb2 : Below w.heap.size w W2 := by rw [hW2]; exact hb1.alloc (by omega) _
  have hs2 : W2.heap.size = w.heap.size + 3 := by rw [hW2]; simp [hs1]
  have bL : W2.cell? ⟨w.heap.size + 2, 0, none⟩ = some (.pointer none) := by rw [hW2, ← hs1]; simp [pt]
  have SQ := it_nil 4 W2 (w.heap.size + 2) (w.heap.size + 3) (encS fun _ => 0) bL
  have b0 : Boxed W2 (w.heap.size) 32 (.slice none 0 0) := by
    rw [hW2, hW1]
    exact ((Boxed.new w 32 _).alloc _).alloc _
  have b1 : Boxed W2 (w.heap.size + 1) 69 (.slice none 0 0) := by
    rw [hW2, hW1]
    have := Boxed.new (w.alloc (.cells #[.slice none 0 0] 32)) 69 (.slice none 0 0)
    rw [World.size_alloc] at this
    exact this.alloc _
  simp only [pt, Option.map_none] at cT
  clear hb1
  refine callsIn_wide.1 (callsIn_of_wp_marks (n := 5) Tryz.func31 rfl trivial ?_ rfl)
  simp only [Tryz.ntmps31, List.size_toArray, List.length_cons, List.length_nil, Nat.reduceAdd, Nat.reduceSub, Array.replicate_succ, Array.replicate_zero, List.push_toArray, List.append_toArray, List.nil_append, List.cons_append]
  gi_wp2_with fail
  rw [← hW1]
  refine wideC' (cT.mono ?_)
  rintro e V2 ⟨rfl, rfl⟩
  clear cT hW1 hW2
  gi_wp2_with fail
  refine wpIn_rangeFuncV rfl (by decide) (gf := 108) (lb := #[.pointer (some ⟨w.heap.size + 2, 0, none⟩)]) rfl trivial (enters_of Tryz.func108 (by kernel_rfl) rfl) SQ (Below.refl _ _) (fun _ => rfl)
    (w.heap.size + 3) (w.heap.size + 3 + 2 + 0) hs2 rfl (by omega) (by omega) (by omega)
    (fun (_ : List Nat) W => Boxed W (w.heap.size) 32 (.slice none 0 0) ∧ Boxed W (w.heap.size + 1) 69 (.slice none 0 0) ∧ Below w.heap.size w W) (fun _ _ _ => False) (abK_and (abK_boxed (by omega) _) (abK_and (abK_boxed (by omega) _) (abK_below (by omega) (Nat.le_refl _)))) (fun _ _ _ _ _ h _ _ => h) ⟨b0, b1, hb2⟩ ?round ?done ?stop
  case round =>
    rintro l pre x W hI hsz hpre
    exact absurd hpre.length_le (by simp)
  case stop =>
    rintro ex pre W hpre h
    exact h.elim
  case done =>
    rintro W ⟨d0, d1, hb⟩ hK
    have c0 := d0.cell
    have c1 := d1.cell
    have HB9 : Hid (Below w.heap.size w (W.putObj (w.heap.size + 3) (.deferred none))) := hb.grown (grownBy_putObj' _ _ _) hb.size (fun k e => by cases e; omega)
    clear SQ hb2 bL
    gi_wp2_with fail
    gi_region
    all_goals
      gi_wp2_with fail
      exact postM_cell hK (v := .tuple #[.slice none 0 0, .slice none 0 0]) (by simp [results, Tryz.results31, go_sem]) ⟨rfl, HB9.out.drew⟩
set_option maxHeartbeats 8000000 in
theorem cnil_idle (w : World) : Calls Tryz.prog 40 #[.pointer none] w fun e w' => e = .returned (.bool true) ∧ Below w.heap.size w w' := by
  obtain ⟨W1, hW1⟩ : ∃ W1, W1 = w.alloc (.cells #[.bool false] 4) := ⟨_, rfl⟩
  have hb1 : Below w.heap.size w W1 := by rw [hW1]; exact ((Below.refl _ w).alloc (Nat.le_refl _) _)
  have hs1 : W1.heap.size = w.heap.size + 1 := by rw [hW1]; simp
  have cT := itall W1 none
  obtain ⟨W2, hW2⟩ : ∃ W2, W2 = W1.alloc (.cells #[pt none] 56) := ⟨_, rfl⟩
  rw [← hW2, hs1] at cT
  have hb2 : Below w.heap.size w W2 := by rw [hW2]; exact hb1.alloc (by omega) _
  have hs2 : W2.heap.size = w.heap.size + 2 := by rw [hW2]; simp [hs1]
  have bL : W2.cell? ⟨w.heap.size + 1, 0, none⟩ = some (.pointer none) := by rw [hW2, ← hs1]; simp [pt]
  have SQ := it_nil 4 W2 (w.heap.size + 1) (w.heap.size + 2) (encS fun _ => 0) bL
  have b0 : Boxed W2 (w.heap.size) 4 (.bool false) := by
    rw [hW2, hW1]
    exact (Boxed.new w 4 _).alloc _
  simp only [pt, Option.map_none] at cT
  clear hb1
  refine callsIn_wide.1 (callsIn_of_wp_marks (n := 5) Tryz.func40 rfl trivial ?_ rfl)
  simp only [Tryz.ntmps40, List.size_toArray, List.length_cons, List.length_nil, Nat.reduceAdd, Nat.reduceSub, Array.replicate_succ, Array.replicate_zero, List.push_toArray, List.append_toArray, List.nil_append, List.cons_append]
  gi_wp2_with fail
  rw [← hW1]
  refine wideC' (cT.mono ?_)
  rintro e V2 ⟨rfl, rfl⟩
  clear cT hW1 hW2
  gi_wp2_with fail
  refine wpIn_rangeFuncV rfl (by decide) (gf := 108) (lb := #[.pointer (some ⟨w.heap.size + 1, 0, none⟩)]) rfl trivial (enters_of Tryz.func108 (by kernel_rfl) rfl) SQ (Below.refl _ _) (fun _ => rfl)
    (w.heap.size + 2) (w.heap.size + 2 + 2 + 0) hs2 rfl (by omega) (by omega) (by omega)
    (fun (_ : List Nat) W => Boxed W (w.heap.size) 4 (.bool false) ∧ Below w.heap.size w W) (fun _ _ _ => False) (abK_and (abK_boxed (by omega) _) (abK_below (by omega) (Nat.le_refl _))) (fun _ _ _ _ _ h _ _ => h) ⟨b0, hb2⟩ ?round ?done ?stop
  case round =>
    rintro l pre x W hI hsz hpre
    exact absurd hpre.length_le (by simp)
  case stop =>
    rintro ex pre W hpre h
    exact h.elim
  case done =>
    rintro W ⟨d0, hb⟩ hK
    have hc := d0.cell
    have hf := d0.frozen
    clear SQ hb2 bL
    gi_wp2_with fail
    have hK2 := (KeepsOthers.setCell W ⟨w.heap.size, 0, none⟩ (.bool true)).same _ _ hK rfl
    have h2 := ((d0.set (.bool true)).kept (grownBy_putObj' _ (w.heap.size + 2) (.deferred none)) (by simp)).cell
    have h3 : Below w.heap.size w ((W.setCell ⟨w.heap.size, 0, none⟩ (.bool true)).putObj (w.heap.size + 2) (.deferred none)) := (hb.setCell (p := ⟨w.heap.size, 0, none⟩) (Nat.le_refl _) _).grown (grownBy_putObj' _ _ _) (by simp; exact hb.size) (fun k e => by cases e; omega)
    refine postM_cell hK2 (v := .bool true) ?_ ⟨rfl, h3⟩
    generalize ((W.setCell ⟨w.heap.size, 0, none⟩ (.bool true)).putObj (w.heap.size + 2) (.deferred none)) = W5 at *
    simp [results, Tryz.results40, go_sem, h2]
end Go.Proofs.YtdigjklhfimnbaaGreat
namespace Go.Proofs.YtdigjklhfimnbaaGreat
set_option maxRecDepth 100000
set_option linter.unusedVariables false
open Go.RowKit

set_option maxHeartbeats 8000000 in
theorem rfew_any (x : Hd4) (a : Option Addr) (c : Nat) (rs : List RPt) (w : World) (h : Gs RP w (.slice a rs.length c) rs) : Calls Tryz.prog 44 #[.agg #[.int .i64 x.1, .int .i64 x.2.1, .int .i64 x.2.2.1, .int .i64 x.2.2.2, .slice a rs.length c]] w fun e w' => ∃ q, e = .returned (.bool q) ∧ Below w.heap.size w w' := by
  obtain ⟨W1, hW1⟩ : ∃ W1, w.alloc (.cells #[.int .i64 x.1, .int .i64 x.2.1, .int .i64 x.2.2.1, .int .i64 x.2.2.2, .slice a rs.length c] 51) = W1 := ⟨_, rfl⟩
  obtain ⟨g0, hg0⟩ : ∃ g0, w.heap.size = g0 := ⟨_, rfl⟩
  have HBW : Hid (Below w.heap.size w W1) := hW1 ▸ (Below.refl _ w).alloc (Nat.le_refl _) _
  have HQ : Hid (W1.cell? ⟨g0, 4, none⟩ = some (.slice a rs.length c)) := by show _ = _; rw [← hW1, ← hg0]; simp
  have HR : Hid (Gs RP W1 (.slice a rs.length c) rs) := h.below HBW.out
  have HW := Lib.hid hW1
  have HG := Lib.hid hg0
  clear hW1 hg0 h
  go_enter Tryz.func44, Tryz.ntmps44
  go_upto_region 1 with (fail)
  rw [HW.out]
  try simp only [HG.out]
  go_wp2_with fail
  by_cases hl : (rs.length : Int) ≤ 12
  · have dl : decide ((rs.length : Int) ≤ 12) = true := decide_eq_true hl
    go_loopw [3] (fun i wr => ∃ (k : Nat), k ≤ rs.length ∧ i = .int .i64 k ∧ Below W1.heap.size W1 wr) (fun i _ => rs.length - (intOf i).toNat)
    case atStart => exact ⟨0, Nat.zero_le _, rfl, Below.refl _ _⟩
    case round =>
      obtain ⟨k, hk, rfl, hb⟩ := hrel
      have q4 : wr.cell? ⟨g0, 4, none⟩ = some (.slice a rs.length c) := (hb.cell (p := ⟨g0, 4, none⟩) (World.block_lt_of_cell? W1 _ HQ.out)).trans HQ.out
      by_cases hlt : k < rs.length
      · obtain ⟨bx, off, rfl, hbx, hc⟩ := Gs.at (R := RP) (HR.out.below hb) (i := k) hlt
        obtain ⟨r, hr⟩ : ∃ r : RPt, rs.getD k zR = r := ⟨_, rfl⟩
        obtain ⟨x0, x1, x2, x3, x4, x5, x6, x7, x8, x9, x10⟩ : C11 wr bx (off + k * 11) r := by
          rw [← hr]
          exact c11_of hc
        have HBV : Hid (Below W1.heap.size W1 (wr.alloc (.cells #[.int .i64 r.k, .int .i64 r.be, .slice r.a1 r.l1 r.c1, .int .i64 r.bn, .slice r.a2 r.l2 r.c2, .slice r.a3 r.l3 r.c3, .int .i64 r.s, .int .i64 r.d, .int .i64 r.t, .int .i64 r.n, .string r.x] 148))) := hb.alloc hb.size _
        have hcap : (rs.length : Int) ≤ c := by
          rcases HR.out with ⟨_, _, e, _, e2⟩ | ⟨_, _, cap, e, e2, _⟩
          · rw [show rs.length = 0 from by rw [e2]; rfl] at hlt
            exact absurd hlt (Nat.not_lt_zero _)
          · simp only [Value.slice.injEq] at e
            have : rs.length ≤ cap := e2
            rw [← e.2.2] at this
            omega
        have hk0 : (0 : Int) ≤ (k : Int) := by omega
        have hk1 : (k : Int) < (rs.length : Int) := by omega
        have hkn : ((k : Int)).toNat = k := Int.toNat_natCast k
        clear hc hr hb
        by_cases m1 : (r.l1 : Int) > 80
        · have dm1 : decide ((r.l1 : Int) > 80) = true := decide_eq_true m1
          clear m1
          go_wp2_with fail
          go_ret
          exact ⟨_, rfl, HBW.out.trans (HBV.out.mono HBW.out.size)⟩
        have dm1 : decide ((r.l1 : Int) > 80) = false := decide_eq_false m1
        clear m1
        by_cases m2 : (r.l2 : Int) > 60
        · have dm2 : decide ((r.l2 : Int) > 60) = true := decide_eq_true m2
          clear m2
          go_wp2_with fail
          go_ret
          exact ⟨_, rfl, HBW.out.trans (HBV.out.mono HBW.out.size)⟩
        have dm2 : decide ((r.l2 : Int) > 60) = false := decide_eq_false m2
        clear m2
        by_cases m3 : (r.l3 : Int) > 80
        · have dm3 : decide ((r.l3 : Int) > 80) = true := decide_eq_true m3
          clear m3
          go_wp2_with fail
          go_ret
          exact ⟨_, rfl, HBW.out.trans (HBV.out.mono HBW.out.size)⟩
        have dm3 : decide ((r.l3 : Int) > 80) = false := decide_eq_false m3
        clear m3
        by_cases m4 : (r.x.size : Int) > 600
        · have dm4 : decide ((r.x.size : Int) > 600) = true := decide_eq_true m4
          clear m4
          go_wp2_with fail
          go_ret
          exact ⟨_, rfl, HBW.out.trans (HBV.out.mono HBW.out.size)⟩
        have dm4 : decide ((r.x.size : Int) > 600) = false := decide_eq_false m4
        clear m4
        go_wp2_with fail
        go_roundw
        case rel => exact ⟨k + 1, hlt, by go_num, HBV.out⟩
        case measure => simp [intOf]; omega
      · have ek : k = rs.length := by omega
        subst ek
        have HBV := Lib.hid hb
        clear hb
        go_wp2_with fail
        go_ret
        exact ⟨_, rfl, HBW.out.trans (HBV.out.mono HBW.out.size)⟩
  · have dl : decide ((rs.length : Int) ≤ 12) = false := decide_eq_false hl
    have q4 := HQ.out
    have hpos : (0 : Int) < (rs.length : Int) := by omega
    go_loopw [3] (fun i wr => i = .int .i64 0 ∧ wr = W1) (fun i _ => 0)
    case atStart => exact ⟨rfl, rfl⟩
    case round =>
      obtain ⟨rfl, rfl⟩ := hrel
      go_wp2_with fail
      go_ret
      exact ⟨.inl rfl, HBW.out⟩
end Go.Proofs.YtdigjklhfimnbaaGreat
/- Whether a script is looked at; whether two rows of echoes are the same. No conditions but on lengths. -/
namespace Go.Proofs.YtdigjklhfimnbaaGreat
set_option maxRecDepth 100000
set_option linter.unusedVariables false
open Go.RowKit

/-- The cells of call k of a script. -/
theorem op_at {w0 w : World} {a : Option Addr} {c : Nat} {zs : List (RopW w0).α} (h : Gs (RopW w0) w0 (.slice a zs.length c) zs) (hb : Below w0.heap.size w0 w) {k : Nat} (hk : k < zs.length) : ∃ (bx off : Nat) (q : Opc) (rs : List RPt), a = some ⟨bx, off, none⟩ ∧ zs.length ≤ c ∧ Gs RP w (.slice q.a rs.length q.c) rs ∧ (w.cell? ⟨bx, off + k * 21 + 0, none⟩ = some (.int .i64 q.k) ∧ w.cell? ⟨bx, off + k * 21 + 1, none⟩ = some (.int .i64 q.i) ∧ w.cell? ⟨bx, off + k * 21 + 2, none⟩ = some (.int .i64 q.e) ∧ w.cell? ⟨bx, off + k * 21 + 3, none⟩ = some (.int .i64 q.t) ∧ w.cell? ⟨bx, off + k * 21 + 4, none⟩ = some (.int .i64 q.y.k) ∧ w.cell? ⟨bx, off + k * 21 + 5, none⟩ = some (.int .i64 q.y.x) ∧ w.cell? ⟨bx, off + k * 21 + 6, none⟩ = some (.bool q.y.n) ∧ w.cell? ⟨bx, off + k * 21 + 7, none⟩ = some (.int .i64 q.y.t) ∧ w.cell? ⟨bx, off + k * 21 + 8, none⟩ = some (.int .i64 q.y.o) ∧ w.cell? ⟨bx, off + k * 21 + 9, none⟩ = some (.int .i64 q.y.r) ∧ w.cell? ⟨bx, off + k * 21 + 10, none⟩ = some (.int .i64 q.y.d) ∧ w.cell? ⟨bx, off + k * 21 + 11, none⟩ = some (.int .i64 q.y.i) ∧ w.cell? ⟨bx, off + k * 21 + 12, none⟩ = some (.int .i64 q.y.p) ∧ w.cell? ⟨bx, off + k * 21 + 13, none⟩ = some (.int .i64 q.y.q) ∧ w.cell? ⟨bx, off + k * 21 + 14, none⟩ = some (.int .i64 q.y.s) ∧ w.cell? ⟨bx, off + k * 21 + 15, none⟩ = some (.int .i64 q.y.m) ∧ w.cell? ⟨bx, off + k * 21 + 16, none⟩ = some (.int .i64 q.h.1) ∧ w.cell? ⟨bx, off + k * 21 + 17, none⟩ = some (.int .i64 q.h.2.1) ∧ w.cell? ⟨bx, off + k * 21 + 18, none⟩ = some (.int .i64 q.h.2.2.1) ∧ w.cell? ⟨bx, off + k * 21 + 19, none⟩ = some (.int .i64 q.h.2.2.2) ∧ w.cell? ⟨bx, off + k * 21 + 20, none⟩ = some (.slice q.a rs.length q.c)) := by
  obtain ⟨bx, off, e, hbx, hc⟩ := Gs.at (R := RopW w0) h (i := k) hk
  obtain ⟨⟨q, rs, hl, hrs⟩, hz⟩ : ∃ x, zs.getD k (RopW w0).d = x := ⟨_, rfl⟩
  rw [hz] at hc
  have f : ∀ j v, w0.cell? ⟨bx, off + k * 21 + j, none⟩ = some v → w.cell? ⟨bx, off + k * 21 + j, none⟩ = some v := fun j v h9 => (hb.cell (p := ⟨bx, off + k * 21 + j, none⟩) hbx).trans h9
  have hcap : zs.length ≤ c := by
    rcases h with ⟨_, _, e1, _, e2⟩ | ⟨_, _, cap, e1, e2, _⟩
    · rw [e2] at hk
      exact absurd hk (Nat.not_lt_zero _)
    · simp only [Value.slice.injEq] at e1
      rw [e1.2.2]
      exact e2
  have hr9 : Gs RP w (.slice q.a rs.length q.c) rs := by
    have h8 : Gs RP w0 (.slice q.a q.l q.c) rs := hrs
    have h7 := h8.below hb
    rw [← hl] at h7
    exact h7
  have h20 : w.cell? ⟨bx, off + k * 21 + 20, none⟩ = some (.slice q.a rs.length q.c) := by
    have h9 := f 20 _ (hc 20 (show 20 < 21 by decide))
    rw [hl]
    exact h9
  exact ⟨bx, off, q, rs, e, hcap, hr9, f 0 _ (hc 0 (show 0 < 21 by decide)), f 1 _ (hc 1 (show 1 < 21 by decide)), f 2 _ (hc 2 (show 2 < 21 by decide)), f 3 _ (hc 3 (show 3 < 21 by decide)), f 4 _ (hc 4 (show 4 < 21 by decide)), f 5 _ (hc 5 (show 5 < 21 by decide)), f 6 _ (hc 6 (show 6 < 21 by decide)), f 7 _ (hc 7 (show 7 < 21 by decide)), f 8 _ (hc 8 (show 8 < 21 by decide)), f 9 _ (hc 9 (show 9 < 21 by decide)), f 10 _ (hc 10 (show 10 < 21 by decide)), f 11 _ (hc 11 (show 11 < 21 by decide)), f 12 _ (hc 12 (show 12 < 21 by decide)), f 13 _ (hc 13 (show 13 < 21 by decide)), f 14 _ (hc 14 (show 14 < 21 by decide)), f 15 _ (hc 15 (show 15 < 21 by decide)), f 16 _ (hc 16 (show 16 < 21 by decide)), f 17 _ (hc 17 (show 17 < 21 by decide)), f 18 _ (hc 18 (show 18 < 21 by decide)), f 19 _ (hc 19 (show 19 < 21 by decide)), h20⟩
set_option maxHeartbeats 8000000 in
theorem few17_any (w0 w : World) (a : Option Addr) (c : Nat) (zs : List (RopW w0).α) (h : Gs (RopW w0) w0 (.slice a zs.length c) zs) (hb : Below w0.heap.size w0 w) : Calls Tryz.prog 18 #[.slice a zs.length c] w fun e w' => ∃ q, e = .returned (.bool q) ∧ Below w.heap.size w w' ∧ (q = true → zs.length ≤ 60) := by
  have HH := Lib.hid h
  have HB := Lib.hid hb
  obtain ⟨n, hn⟩ : ∃ n, zs.length = n := ⟨_, rfl⟩
  rw [hn]
  have HN := Lib.hid hn
  clear h hb hn
  go_enter Tryz.func18, Tryz.ntmps18
  go_wp2_with fail
  by_cases hl : (n : Int) ≤ 60
  · have HL : Hid (n ≤ 60) := by show n ≤ 60; omega
    have dl : decide ((n : Int) ≤ 60) = true := decide_eq_true hl
    go_loopw [3] (fun i wr => ∃ (k : Nat), k ≤ n ∧ i = .int .i64 k ∧ Below w.heap.size w wr) (fun i _ => n - (intOf i).toNat)
    case atStart => exact ⟨0, Nat.zero_le _, rfl, Below.refl _ _⟩
    case round =>
      obtain ⟨k, hk, rfl, hbr⟩ := hrel
      by_cases hlt : k < n
      · obtain ⟨bx, off, q, rs, rfl, hcap, hrs, x0, x1, x2, x3, x4, x5, x6, x7, x8, x9, x10, x11, x12, x13, x14, x15, x16, x17, x18, x19, x20⟩ := op_at HH.out (HB.out.trans (hbr.mono HB.out.size)) (k := k) (by rw [HN.out]; exact hlt)
        rw [HN.out] at hcap
        have CF := Lib.hid (rfew_any q.h q.a q.c rs wr hrs)
        have HBR := Lib.hid hbr
        have hcz : (n : Int) ≤ c := by omega
        have hk0 : (0 : Int) ≤ (k : Int) := by omega
        have hk1 : (k : Int) < (n : Int) := by omega
        have hkn : ((k : Int)).toNat = k := Int.toNat_natCast k
        clear hbr hrs hcap x0 x1 x2 x3 x4 x5 x6 x7 x8 x9 x10 x11 x12 x13 x14 x15
        go_wp2_with fail
        refine CF.out.mono ?_
        rintro e w2 ⟨qq, rfl, hb2⟩
        have HB2 := Lib.hid (HBR.out.trans (hb2.mono HBR.out.size))
        clear hb2 CF x16 x17 x18 x19 x20
        cases qq
        · go_wp2_with fail
          go_ret
          exact ⟨_, rfl, HB2.out, fun h => by cases h⟩
        · go_wp2_with fail
          go_roundw
          case rel => exact ⟨k + 1, hlt, by go_num, HB2.out⟩
          case measure => simp [intOf]; omega
      · have ek : k = n := by omega
        subst ek
        have HBV := Lib.hid hbr
        clear hbr
        go_wp2_with fail
        go_ret
        exact ⟨_, rfl, HBV.out, fun _ => HL.out⟩
  · have dl : decide ((n : Int) ≤ 60) = false := decide_eq_false hl
    have hpos : (0 : Int) < (n : Int) := by omega
    go_loopw [3] (fun i wr => i = .int .i64 0 ∧ wr = w) (fun i _ => 0)
    case atStart => exact ⟨rfl, rfl⟩
    case round =>
      obtain ⟨rfl, rfl⟩ := hrel
      go_wp2_with fail
      go_ret
      exact .inl ⟨rfl, Below.refl _ _⟩
theorem rech_any (v u : Value) (ys zs : List (Int × Int)) (w : World) (hy : Es w v ys) (hz : Es w u zs) (hl : ys.length ≤ 3000) :
    Calls Tryz.prog 37 #[v, u] w fun e w' => e = .returned (.bool (decide (ys = zs))) ∧ Below w.heap.size w w' := by
  have C := Lib.hid (rsame_any 0 0 v u ys zs w hy hz hl)
  obtain ⟨a, c, rfl⟩ := hy.form
  obtain ⟨a', c', rfl⟩ := hz.form
  obtain ⟨R, hR⟩ : ∃ R, decide (ys = zs) = R := ⟨_, rfl⟩
  rw [hR]
  have HR := Lib.hid hR
  clear hy hz hR
  go_enter Tryz.func37, Tryz.ntmps37
  go_wp2_with fail
  refine C.out.mono ?_
  rintro e w1 ⟨⟨q, rfl, hq⟩, hb⟩
  have HB := Lib.hid hb
  have HQ : Hid (q = R) := by
    show _ = _
    rw [← HR.out]
    cases q with
    | true => exact (decide_eq_true (hq.1 rfl).2).symm
    | false => exact (decide_eq_false (fun h => by have := hq.2 ⟨by first | rfl | trivial, h⟩; cases this)).symm
  clear hb hq
  go_wp2_with fail
  go_ret
  exact ⟨by rw [← HQ.out]; rfl, HB.out⟩
end Go.Proofs.YtdigjklhfimnbaaGreat
